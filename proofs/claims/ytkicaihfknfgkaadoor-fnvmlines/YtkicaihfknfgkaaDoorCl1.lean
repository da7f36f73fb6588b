import Derived.Test.YtkicaihfknfgkaaDoorSzNOD
import Derived.Test.YtkicaihfknfgkaaDoorSzVMC
import Derived.Test.YtkicaihfknfgkaaDoorRowTNT4
import Derived.Test.YtkicaihfknfgkaaDoorLG
import Derived.Test.YtkicaihfknfgkaaDoorNe0
namespace Go.Proofs.YtkicaihfknfgkaaDoor
open Go.ChangeShapes Go.WideShapes Go.ChangeAt Go.RowKit

structure CL where
  nodes : List NOD
  vms : List VMC
  tenants : List TNT
  over : Int
  time : Int
structure CA where
  vnodes : Value
  vvms : Value
  vtenants : Value
def clC (s : CL) (a : CA) : Array Value := #[a.vnodes, a.vvms, a.vtenants, .int .i64 s.over, .int .i64 s.time]
def clA (s : CL) (a : CA) : Value := .agg (clC s a)
structure CLRows (w : World) (s : CL) (a : CA) : Prop where
  rnodes : NODrow w a.vnodes s.nodes
  rvms : VMCrow w a.vvms s.vms
  rtenants : TNTrow w a.vtenants s.tenants
theorem CLRows.below {w w' : World} {s : CL} {a : CA} (h : CLRows w s a) (hb : Below w.heap.size w w') : CLRows w' s a := ⟨h.rnodes.below hb, h.rvms.below hb, h.rtenants.below hb⟩
theorem CLRows.sl {w : World} {s : CL} {a : CA} (h : CLRows w s a) : ∃ anodes knodes avms kvms atenants ktenants, a = ⟨.slice anodes s.nodes.length knodes, .slice avms s.vms.length kvms, .slice atenants s.tenants.length ktenants⟩ := by
  obtain ⟨anodes, knodes, enodes⟩ := h.rnodes.sl
  obtain ⟨avms, kvms, evms⟩ := h.rvms.sl
  obtain ⟨atenants, ktenants, etenants⟩ := h.rtenants.sl
  refine ⟨anodes, knodes, avms, kvms, atenants, ktenants, ?_⟩
  rw [← enodes, ← evms, ← etenants]
structure CLlen (s : CL) : Prop where
  lnodes : s.nodes.length ≤ 1048576 ∧ ∀ z ∈ s.nodes, z.name.size ≤ 1048576
  lvms : s.vms.length ≤ 1048576 ∧ ∀ z ∈ s.vms, z.name.size ≤ 1048576 ∧ z.node.size ≤ 1048576
  ltenants : s.tenants.length ≤ 1048576
structure CLmax (s : CL) : Prop where
  lnodes : s.nodes.length ≤ maxLen ∧ ∀ z ∈ s.nodes, z.name.size ≤ maxLen
  lvms : s.vms.length ≤ maxLen ∧ ∀ z ∈ s.vms, z.name.size ≤ maxLen ∧ z.node.size ≤ maxLen
  ltenants : s.tenants.length ≤ maxLen
end Go.Proofs.YtkicaihfknfgkaaDoor
