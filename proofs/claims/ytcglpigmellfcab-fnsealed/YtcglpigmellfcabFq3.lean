import Derived.Test.YtcglpigmellfcabFq2
import Derived.Test.YtcglpigmellfcabFc2
namespace Go.Proofs.Ytcglpigmellfcab
open Go.ChangeShapes Go.WideShapes Go.ChangeAt Go.RowKit

def inB9 (lo hi : Int) (C : List Int) : Prop := ∀ x ∈ C, lo ≤ x ∧ x ≤ hi
theorem lit_cell9 {u : World} {p r : Nat} {C : List Int} {t : TypeId} (h : u.heap[p]? = some (.cells (C.map (Value.int .i64)).toArray t (0, 0))) (hr : r < C.length) : u.cell? ⟨p, r, none⟩ = some (.int .i64 C[r]) := by
  simp [World.cell?, h, List.getElem?_map, List.getElem?_eq_getElem hr]
theorem lit_draw9 {u u2 : World} {b t : Nat} {C : List Int} {lo hi : Int} (hb : b < u.heap.size) (hg : (u.alloc (.cells (C.map (Value.int .i64)).toArray t)).grownBy u2 (some b)) (Q : Nat) (hQ : Q < C.length) (hin : inB9 lo hi C) : ∃ y : Int, u2.cell? ⟨u.heap.size, Q, none⟩ = some (.int .i64 y) ∧ lo ≤ y ∧ y ≤ hi := by
  have h1 : u2.heap[u.heap.size]? = some (.cells (C.map (Value.int .i64)).toArray t (0, 0)) := (hg.block _ (by simp) (by simp; omega)).trans (MapKept.heap_alloc u _).1
  exact ⟨C[Q], lit_cell9 h1 hQ, (hin _ (List.getElem_mem hQ)).1, (hin _ (List.getElem_mem hQ)).2⟩
theorem code_up9 {w : World} {B B' : Nat} {a : Option Addr} {len : Nat} (h : CodeAt w B a len) (hB : B ≤ B') : CodeAt w B' a len := by
  rcases h with h | ⟨cb, co, h1, h2, h3⟩
  · exact .inl h
  · exact .inr ⟨cb, co, h1, by omega, h3⟩
theorem src_bel9 {w w' : World} {b : Nat} {a : Option Addr} {len cap : Nat} (h : SrcOk w b a len cap) (hb : Below w.heap.size w w') : SrcOk w' b a len cap :=
  src_own (r := none) h ⟨hb.os, hb.tape, hb.output, hb.size, fun k hk _ => hb.block k hk⟩ (fun k hk => by cases hk)
theorem bel_bel9 {w u u' : World} (h : Below w.heap.size w u) (h2 : Below u.heap.size u u') : Below w.heap.size w u' :=
  ⟨h2.os.trans h.os, h2.tape.trans h.tape, h2.output.trans h.output, Nat.le_trans h.size h2.size, fun k hk => (h2.block k (Nat.lt_of_lt_of_le hk h.size)).trans (h.block k hk)⟩
end Go.Proofs.Ytcglpigmellfcab
