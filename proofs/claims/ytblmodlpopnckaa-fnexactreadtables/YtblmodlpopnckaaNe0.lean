import Derived.Test.YtblmodlpopnckaaRt12x
namespace Go.Proofs.Ytblmodlpopnckaa
open Go.ChangeShapes Go.WideShapes Go.ChangeAt Go.RowKit

theorem celN {u : World} {p t : Nat} {cs : Array Value} (h : u.heap[p]? = some (.cells cs t (0, 0))) (k : Nat) (v : Value) (hv : cs[k]? = some v) : u.cell? ⟨p, k, none⟩ = some v := by
  simp [World.cell?, h, hv]
theorem frzN {u : World} {p t : Nat} {cs : Array Value} (h : u.heap[p]? = some (.cells cs t (0, 0))) : ∀ k, u.frozen? ⟨p, k, none⟩ = false := by
  intro k
  simp [World.frozen?, h]
theorem own_belowN {w w' : World} {B e size n : Nat} {v : Value} {xs : List Value} (h : w.ownsRow B e size v n xs) (hb : Below w.heap.size w w') : w'.ownsRow B e size v n xs :=
  h.kept (row := none) ⟨hb.os, hb.tape, hb.output, hb.size, fun k hk _ => hb.block k hk⟩ (by cases v.ownBlock <;> simp)
theorem own_heapN {u U : World} {lo lo' e size n : Nat} {v : Value} {xs : List Value} (h : u.ownsRow lo e size v n xs) (he : ∀ k, lo ≤ k → U.heap[k]? = u.heap[k]?) (hl : lo' ≤ lo) : U.ownsRow lo' e size v n xs := by
  obtain ⟨hl2, h | ⟨g, cap, cur, hv, hg, h1, h2, h3, h4, h5⟩⟩ := h
  · exact ⟨hl2, .inl h⟩
  · exact ⟨hl2, .inr ⟨g, cap, cur, hv, Nat.le_trans hl hg, (he g hg).trans h1, h2, h3, h4, h5⟩⟩
theorem own_weakN {w : World} {B B' : Nat} {e : TypeId} {s : Nat} {v : Value} {n : Nat} {xs : List Value} (h : w.ownsRow B e s v n xs) (hb : B' ≤ B) : w.ownsRow B' e s v n xs := by
  obtain ⟨hl, h | ⟨g, cap, cur, hv, hg, h1, h2, h3, h4, h5⟩⟩ := h
  · exact ⟨hl, .inl h⟩
  · exact ⟨hl, .inr ⟨g, cap, cur, hv, Nat.le_trans hb hg, h1, h2, h3, h4, h5⟩⟩
/-- Two boxes. -/
structure E2 (w u : World) (t : TypeId) (A A2 : Array Value) : Prop where
  bel : Below w.heap.size w u
  b0 : u.heap[w.heap.size]? = some (.cells A t (0, 0))
  b1 : u.heap[w.heap.size + 1]? = some (.cells A2 t (0, 0))
theorem E2.lt {w u : World} {t : TypeId} {A A2 : Array Value} (h : E2 w u t A A2) : w.heap.size + 1 < u.heap.size := (Array.getElem?_eq_some_iff.1 h.b1).1
theorem E2.step {w u u' : World} {t : TypeId} {A A2 : Array Value} (h : E2 w u t A A2) (hb : Below u.heap.size u u') : E2 w u' t A A2 := by
  have := h.lt
  exact ⟨h.bel.trans (hb.mono h.bel.size), (hb.block _ (by omega)).trans h.b0, (hb.block _ (by omega)).trans h.b1⟩
theorem E2.new (w : World) (t : TypeId) (A A2 : Array Value) : E2 w ((w.alloc (.cells A t)).alloc (.cells A2 t)) t A A2 :=
  ⟨((Below.refl _ _).alloc (Nat.le_refl _) _).alloc (by simp) _, (Below.heap_alloc _ _ _ (by simp)).trans (heap_new _ _), by simpa using heap_new (w.alloc (.cells A t)) (.cells A2 t)⟩
end Go.Proofs.Ytblmodlpopnckaa
