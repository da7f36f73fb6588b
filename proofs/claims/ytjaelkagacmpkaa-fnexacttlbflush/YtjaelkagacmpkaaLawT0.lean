import Derived.Test.YtjaelkagacmpkaaLawTF
namespace Go.Proofs.Ytjaelkagacmpkaa
open Go.ChangeShapes Go.WideShapes Go.ChangeAt Go.RowKit

/-- What a law over a cache keeps: its box, its row. -/
structure LT (w wr : World) (v : Value) (nx : Int) (zs : List TE) : Prop where
  bel : Below w.heap.size w wr
  box : wr.heap[w.heap.size]? = some (.cells #[v, .int .i64 nx] 51 (0, 0))
  row : TErow wr v zs
theorem LT.new {w : World} {v : Value} {nx : Int} {zs : List TE} (h : TErow w v zs) : LT w (w.alloc (.cells #[v, .int .i64 nx] 51)) v nx zs :=
  ⟨(Below.refl _ _).alloc (Nat.le_refl _) _, heap_new _ _, h.below ((Below.refl _ _).alloc (Nat.le_refl _) _)⟩
theorem LT.lt {w wr : World} {v : Value} {nx : Int} {zs : List TE} (h : LT w wr v nx zs) : w.heap.size < wr.heap.size := (Array.getElem?_eq_some_iff.1 h.box).1
theorem LT.step {w wr u : World} {v : Value} {nx : Int} {zs : List TE} (h : LT w wr v nx zs) (hb : Below wr.heap.size wr u) : LT w u v nx zs :=
  ⟨h.bel.trans (hb.mono h.bel.size), (hb.block _ h.lt).trans h.box, h.row.below hb⟩
end Go.Proofs.Ytjaelkagacmpkaa
