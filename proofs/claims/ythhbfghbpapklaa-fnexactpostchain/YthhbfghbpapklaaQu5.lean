import Derived.Test.YthhbfghbpapklaaQu3
import Derived.Test.YthhbfghbpapklaaQu4
namespace Go.Proofs.Ythhbfghbpapklaa
open Go.ChangeShapes Go.WideShapes Go.ChangeAt Go.RowKit

/-- A queue of a law's in its box. -/
structure LQ (w u : World) (b : Nat) (z : QV) : Prop where
  bel : Below w.heap.size w u
  box : u.heap[b]? = some (.cells (qC z) 23 (0, 0))
theorem LQ.lt {w u : World} {b : Nat} {z : QV} (h : LQ w u b z) : b < u.heap.size := (Array.getElem?_eq_some_iff.1 h.box).1
theorem LQ.step {w u u' : World} {b : Nat} {z : QV} (h : LQ w u b z) (hb : Below u.heap.size u u') : LQ w u' b z := ⟨h.bel.trans (hb.mono h.bel.size), (hb.block _ h.lt).trans h.box⟩
theorem LQ.new (w : World) (z : QV) : LQ w (w.alloc (.cells (qC z) 23)) w.heap.size z := ⟨bx1 _ _, heap_new _ _⟩
theorem LQ.cel {w u : World} {b : Nat} {z : QV} (h : LQ w u b z) : u.cell? ⟨b, 0, none⟩ = some (.int .i64 z.size) ∧ u.cell? ⟨b, 1, none⟩ = some (.int .i64 z.desc) ∧ u.cell? ⟨b, 2, none⟩ = some (.int .i64 z.avail) ∧ u.cell? ⟨b, 3, none⟩ = some (.int .i64 z.used) ∧ u.cell? ⟨b, 4, none⟩ = some (.int .i64 z.taken) ∧ u.cell? ⟨b, 5, none⟩ = some (.int .i64 z.given) := by
  have e := h.box
  unfold qC at e
  refine ⟨?_, ?_, ?_, ?_, ?_, ?_⟩ <;> simp [World.cell?, e]
end Go.Proofs.Ythhbfghbpapklaa
