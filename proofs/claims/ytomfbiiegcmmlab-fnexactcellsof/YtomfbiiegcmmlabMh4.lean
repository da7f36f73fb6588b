import Derived.Test.YtomfbiiegcmmlabMh3
namespace Go.Proofs.Ytomfbiiegcmmlab
open Go.ChangeShapes Go.WideShapes Go.ChangeAt Go.RowKit

/-- Two boxes. -/
structure E2 (w u : World) (t : TypeId) (A A2 : Array Value) : Prop where
  bel : Below w.heap.size w u
  b0 : u.heap[w.heap.size]? = some (.cells A t (0, 0))
  b1 : u.heap[w.heap.size + 1]? = some (.cells A2 t (0, 0))
theorem E2.lt {w u : World} {t : TypeId} {A A2 : Array Value} (h : E2 w u t A A2) : w.heap.size + 1 < u.heap.size := (Array.getElem?_eq_some_iff.1 h.b1).1
theorem E2.step {w u u' : World} {t : TypeId} {A A2 : Array Value} (h : E2 w u t A A2) (hb : Below u.heap.size u u') : E2 w u' t A A2 := by
  have := h.lt
  exact ⟨h.bel.trans (hb.mono h.bel.size), (hb.block _ (by omega)).trans h.b0, (hb.block _ (by omega)).trans h.b1⟩
theorem E2.new (w : World) (t : TypeId) (A A2 : Array Value) : E2 w ((w.alloc (.cells A t)).alloc (.cells A2 t)) t A A2 :=
  ⟨((Below.refl _ _).alloc (Nat.le_refl _) _).alloc (by simp) _, (Below.heap_alloc _ _ _ (by simp)).trans (heap_new _ _), by simpa using heap_new (w.alloc (.cells A t)) (.cells A2 t)⟩
set_option maxRecDepth 100000 in
set_option maxHeartbeats 4000000 in
theorem eqGuest_ok {w : World} {d : ByteArray} {p s p2 s2 : Value} {ps : List SL} {ss : List Int} (h1 : SLrow w p ps) (h2 : Irow w s ss) (h3 : SLrow w p2 ps) (h4 : Irow w s2 ss) (lp : ps.length ≤ 1048576) (ls : ss.length ≤ 1048576) : Calls Try.prog 76 #[.agg #[p, .string d, s], .agg #[p2, .string d, s2]] w fun e w' => e = .returned (.bool true) ∧ Below w.heap.size w w' := by
  obtain ⟨a1, k1, rfl⟩ := h1.sl
  obtain ⟨a2, k2, rfl⟩ := h2.sl
  obtain ⟨a3, k3, rfl⟩ := h3.sl
  obtain ⟨a4, k4, rfl⟩ := h4.sl
  have H1 : Hid (SLrow w (.slice a1 ps.length k1) ps) := h1
  have H2 : Hid (Irow w (.slice a2 ss.length k2) ss) := h2
  have H3 : Hid (SLrow w (.slice a3 ps.length k3) ps) := h3
  have H4 : Hid (Irow w (.slice a4 ss.length k4) ss) := h4
  have HE0 : Hid (E2 w ((w.alloc (.cells #[.slice a1 ps.length k1, .string d, .slice a2 ss.length k2] 67)).alloc (.cells #[.slice a3 ps.length k3, .string d, .slice a4 ss.length k4] 67)) 67 #[.slice a1 ps.length k1, .string d, .slice a2 ss.length k2] #[.slice a3 ps.length k3, .string d, .slice a4 ss.length k4]) := E2.new _ _ _ _
  clear h1 h2 h3 h4
  go_enter Try.func76, Try.ntmps76
  go_wp2_with fail
  generalize ((w.alloc (.cells #[.slice a1 ps.length k1, .string d, .slice a2 ss.length k2] 67)).alloc (.cells #[.slice a3 ps.length k3, .string d, .slice a4 ss.length k4] 67)) = u0 at *
  refine Calls.mono (eqSLS_ok (H1.out.below HE0.out.bel) (H3.out.below HE0.out.bel) lp) ?_
  rintro e u1 ⟨rfl, hb1⟩
  have HE1 : Hid (E2 w u1 67 #[.slice a1 ps.length k1, .string d, .slice a2 ss.length k2] #[.slice a3 ps.length k3, .string d, .slice a4 ss.length k4]) := HE0.out.step hb1
  clear hb1 HE0
  obtain ⟨c0, c1, c2, _⟩ := cel3 HE1.out.b0
  obtain ⟨d0, d1, d2, _⟩ := cel3 HE1.out.b1
  go_wp2_with fail
  clear c0 c1 c2 d0 d1 d2
  refine Calls.mono (eqIS_ok (H2.out.below HE1.out.bel) (H4.out.below HE1.out.bel) ls) ?_
  rintro e u2 ⟨rfl, hb2⟩
  go_wp2
  go_ret
  exact ⟨rfl, HE1.out.bel.trans (hb2.mono HE1.out.bel.size)⟩
end Go.Proofs.Ytomfbiiegcmmlab
