import Derived.Test.YtlpkkclmcgnapaaDoorRows
import Derived.Test.YtlpkkclmcgnapaaDoorPName
import Derived.ProofKit
import Derived.LaidMore
import Derived.OpenShut
import Derived.OpenVars
import Derived.Stop.Joined
namespace Go.Proofs.YtlpkkclmcgnapaaDoor
open Go.ChangeShapes Go.WideShapes Go.ChangeAt Go.WideMaps Go.WideElems Go.RowKit

theorem gNames : Tryd.prog.globalNamed "loop.example/g00038/impl.opNames" = some 0 := by kernel_rfl
theorem tNames : (Tryd.prog.globals[0]?).map (·.type) = some 49 := by kernel_rfl
theorem laid_is {H : Type} : (Rows.laid_loop_example_g00038_impl_opNames : DataW H) = .agg ((List.range 55).map fun (k : Nat) => .lit (.string (nm (k : Int)).data.toList)) := by kernel_rfl
theorem c9 : Tryd.prog.cellsOf 9 = 1 := by kernel_rfl
theorem c60 : Tryd.prog.cellsOf 49 = 55 := by kernel_rfl
theorem names_of {H : Type} {enc : TypeId × Value → H} {W : World} {cs : Array Value} {f : Nat} {q : List MemPlace} (hv : W.var? Tryd.prog "loop.example/g00038/impl.opNames" = some cs)
    (hd : DataW.trod enc Tryd.prog W 0 (fun _ => true) false f 49 cs.toList = some (Rows.laid_loop_example_g00038_impl_opNames, q)) : Names W := by
  intro k hk
  obtain ⟨xs, m1, e1, hx1, hlen, hn3, hel⟩ := DataW.trod_array Tryd.underlying49 hd
  simp only [Prod.mk.injEq] at hx1
  have hx : (xs.map (·.1)) = (List.range 55).map fun (k : Nat) => DataW.lit (.string (nm (k : Int)).data.toList) := by
    have := hx1.1
    rw [laid_is] at this
    exact (DataW.agg.inj this).symm
  have hk2 : k < xs.length := by omega
  have hel' := hel k hk
  rw [c9, List.getElem?_eq_getElem hk2] at hel'
  obtain ⟨s, e2, e3, _⟩ := DataW.trod_string Tryd.underlying9 hel'
  have e4 : xs[k].1 = DataW.lit (.string (nm (k : Int)).data.toList) := by
    have : (xs.map (·.1))[k]'(by simpa using hk2) = ((List.range 55).map fun (k : Nat) => DataW.lit (.string (nm (k : Int)).data.toList))[k]'(by simpa using hk) := by
      congr 1
    simpa using this
  have e5 : s = nm (k : Int) := by
    rw [e3] at e4
    simp only [DataW.lit.injEq, Lit.string.injEq] at e4
    exact ByteArray.ext (Array.toList_inj.1 e4)
  subst e5
  rw [World.var?_cell gNames hv k]
  have e6 : cs.toList[k]? = some (.string (nm (k : Int))) := by
    have := congrArg (fun l => l[0]?) e2
    simpa using this
  simpa using e6
end Go.Proofs.YtlpkkclmcgnapaaDoor
