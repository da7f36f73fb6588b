import Derived.Test.YtmmodmanfoipiaaDoorTB
namespace Go.Proofs.YtmmodmanfoipiaaDoor
open Go.ChangeShapes Go.WideShapes Go.ChangeAt Go.RowKit

/-- A thing in its box, behind w. -/
structure LG (w u : World) (b : Nat) (cs : Array Value) (t : Nat) : Prop where
  bel : Below w.heap.size w u
  box : u.heap[b]? = some (.cells cs t (0, 0))
  ge : w.heap.size ≤ b
theorem LG.lt {w u : World} {b t : Nat} {cs : Array Value} (h : LG w u b cs t) : b < u.heap.size := (Array.getElem?_eq_some_iff.1 h.box).1
theorem LG.step {w u u' : World} {b t : Nat} {cs : Array Value} (h : LG w u b cs t) (hb : Below u.heap.size u u') : LG w u' b cs t := ⟨h.bel.trans (hb.mono h.bel.size), (hb.block _ h.lt).trans h.box, h.ge⟩
theorem LG.new (w : World) (cs : Array Value) (t : Nat) : LG w (w.alloc (.cells cs t)) w.heap.size cs t := ⟨bx1 _ _, heap_new _ _, Nat.le_refl _⟩
theorem LG.cel {w u : World} {b t : Nat} {cs : Array Value} (h : LG w u b cs t) (k : Nat) (v : Value) (hv : cs[k]? = some v) : u.cell? ⟨b, k, none⟩ = some v := by
  simp [World.cell?, h.box, hv]
theorem LG.frz {w u : World} {b t : Nat} {cs : Array Value} (h : LG w u b cs t) (k : Nat) : u.frozen? ⟨b, k, none⟩ = false := by simp [World.frozen?, h.box]
theorem LG.aft {w u : World} {b t : Nat} {cs : Array Value} (h : LG w u b cs t) : Aft w u := ⟨h.bel⟩
theorem LG.drew {w u : World} {b t : Nat} {cs : Array Value} (h : LG w u b cs t) : LG w u.drew b cs t := ⟨bdn h.bel 1, h.box, h.ge⟩
end Go.Proofs.YtmmodmanfoipiaaDoor
