import Derived.Test.YtodncecnbpldeabOwnB
import Derived.Test.YtodncecnbpldeabQu1
namespace Go.Proofs.Ytodncecnbpldeab
open Go.ChangeShapes Go.WideShapes Go.ChangeAt Go.RowKit

theorem bx1 (w : World) (o : Obj) : Below w.heap.size w (w.alloc o) := (Below.refl _ _).alloc (Nat.le_refl _) _
/-- A thing in its box. -/
structure LBx (w u : World) (b : Nat) (cs : Array Value) (t : Nat) : Prop where
  bel : Below w.heap.size w u
  box : u.heap[b]? = some (.cells cs t (0, 0))
theorem LBx.lt {w u : World} {b t : Nat} {cs : Array Value} (h : LBx w u b cs t) : b < u.heap.size := (Array.getElem?_eq_some_iff.1 h.box).1
theorem LBx.step {w u u' : World} {b t : Nat} {cs : Array Value} (h : LBx w u b cs t) (hb : Below u.heap.size u u') : LBx w u' b cs t := ⟨h.bel.trans (hb.mono h.bel.size), (hb.block _ h.lt).trans h.box⟩
theorem LBx.new (w : World) (cs : Array Value) (t : Nat) : LBx w (w.alloc (.cells cs t)) w.heap.size cs t := ⟨bx1 _ _, heap_new _ _⟩
theorem LBx.cel {w u : World} {b t : Nat} {cs : Array Value} (h : LBx w u b cs t) (k : Nat) (v : Value) (hv : cs[k]? = some v) : u.cell? ⟨b, k, none⟩ = some v := by
  simp [World.cell?, h.box, hv]
theorem tmod4n (a : Int) : (a.tmod 4 != 0) = !decide (a % 4 = 0) := by
  unfold bne
  rw [tmod4]
end Go.Proofs.Ytodncecnbpldeab
