import Derived.Test.YtefeahilamiiaaaRt13
namespace Go.Proofs.Ytefeahilamiiaaa
open Go.ChangeShapes Go.WideShapes Go.ChangeAt Go.RowKit

/-- A new router's rows. -/
structure ROwn (w : World) (B : Nat) (r : RT) (a : RA) : Prop where
  ln : w.ownsRow B 54 5 a.vl r.ls.length (lnR r.ls)
  cq : w.ownsRow B 59 3 a.vc a.qs.length (cqR a.qs)
  cp : CPown w B a.qs r.cs r.cs.length
  rm : w.ownsRow B 61 4 a.vm r.ms.length (rmR r.ms)
theorem ROwn.rows {w : World} {B : Nat} {r : RT} {a : RA} (h : ROwn w B r a) : RRows w r a := ⟨LNrow.of h.ln, CQrow.of h.cq, h.cp.inn, RMrow.of h.rm⟩
theorem CPown.heap {u U : World} {lo lo' : Nat} {qs : List CQ} {cs : List CP} {k : Nat} (h : CPown u lo qs cs k) (he : ∀ k, lo ≤ k → U.heap[k]? = u.heap[k]?) (hl : lo' ≤ lo) : CPown U lo' qs cs k :=
  ⟨h.len, fun j hq hc hj => ⟨(h.el j hq hc hj).1, own_heap (h.el j hq hc hj).2.1 he hl, own_heap (h.el j hq hc hj).2.2 he hl⟩, h.rest⟩
theorem CPown.setT {w u : World} {qs : List CQ} {cs : List CP} {k lo o : Nat} {x : Value} (h : CPown u lo qs cs k) (hlo : w.heap.size + 1 + 1 < lo) : CPown (u.setCell ⟨w.heap.size + 1 + 1, o, none⟩ x) lo qs cs k :=
  ⟨h.len, fun j hq hc hj => ⟨(h.el j hq hc hj).1, own_setT (h.el j hq hc hj).2.1 hlo, own_setT (h.el j hq hc hj).2.2 hlo⟩, h.rest⟩
set_option maxRecDepth 100000 in
set_option maxHeartbeats 4000000 in
theorem toRouter_any {w : World} {r : RT} {a : RA} (h : RRows w r a) (hl : RLen r) : Calls Try.prog 7 #[rtA a] w fun e w' => ∃ a2 : RA, e = .returned (rtA a2) ∧ ROwn w' w.heap.size r a2 ∧ Below w.heap.size w w' := by
  obtain ⟨vl, vc, vm, qs⟩ := a
  obtain ⟨h1, h2, h3, h4⟩ := h
  simp only at h1 h2 h3 h4
  obtain ⟨al, kl, rfl⟩ := h1.sl
  obtain ⟨ac, kc, rfl⟩ := h2.sl
  obtain ⟨am, km, rfl⟩ := h4.sl
  have H1 : Hid (LNrow w (.slice al r.ls.length kl) r.ls) := h1
  have H2 : Hid (CQrow w (.slice ac qs.length kc) qs) := h2
  have H3 : Hid (CPin w qs r.cs) := h3
  have H4 : Hid (RMrow w (.slice am r.ms.length km) r.ms) := h4
  have HL : Hid (RLen r) := hl
  have HT0 : Hid (T3 w (((w.alloc (.cells #[.slice al r.ls.length kl, .slice ac qs.length kc, .slice am r.ms.length km] 26)).alloc (.cells #[.slice none 0 0, .slice none 0 0, .slice none 0 0] 33)).alloc (.cells #[.slice none 0 0, .slice none 0 0, .slice none 0 0] 33)) 26 33 #[.slice al r.ls.length kl, .slice ac qs.length kc, .slice am r.ms.length km] #[.slice none 0 0, .slice none 0 0, .slice none 0 0] #[.slice none 0 0, .slice none 0 0, .slice none 0 0]) := T3.new _ _ _ _ _ _
  clear h1 h2 h3 h4 hl
  unfold rtA
  simp only
  go_enter Try.func7, Try.ntmps7
  go_wp2_with fail
  generalize (((w.alloc (.cells #[.slice al r.ls.length kl, .slice ac qs.length kc, .slice am r.ms.length km] 26)).alloc (.cells #[.slice none 0 0, .slice none 0 0, .slice none 0 0] 33)).alloc (.cells #[.slice none 0 0, .slice none 0 0, .slice none 0 0] 33)) = u0 at *
  refine Calls.mono (toLNS_any (H1.out.below HT0.out.bel) HL.out.l) ?_
  rintro e u1 ⟨v1, rfl, o1, hb1⟩
  obtain ⟨al2, kl2, rfl⟩ := ln_sl o1
  have HT1 : Hid (T3 w u1 26 33 #[.slice al r.ls.length kl, .slice ac qs.length kc, .slice am r.ms.length km] #[.slice none 0 0, .slice none 0 0, .slice none 0 0] #[.slice none 0 0, .slice none 0 0, .slice none 0 0]) := HT0.out.step hb1
  have HA1 : Hid (u1.ownsRow (w.heap.size + 3) 54 5 (.slice al2 r.ls.length kl2) r.ls.length (lnR r.ls)) := own_weak o1 (by have := HT0.out.lt; omega)
  clear o1 hb1 HT0
  obtain ⟨c0, c1, c2, _⟩ := cel3 HT1.out.b0
  obtain ⟨d0, d1, d2, df⟩ := cel3 HT1.out.b2
  have lt1 := HT1.out.lt
  have g0 : w.heap.size < u1.heap.size := by omega
  have g2 : w.heap.size + 1 + 1 < u1.heap.size := by omega
  go_wp2_with fail
  clear c0 c1 c2 d0 d1 d2 df g0 g2
  have HS1 : Hid (T3 w (u1.setCell ⟨w.heap.size + 1 + 1, 0, none⟩ (.slice al2 r.ls.length kl2)) 26 33 #[.slice al r.ls.length kl, .slice ac qs.length kc, .slice am r.ms.length km] #[.slice none 0 0, .slice none 0 0, .slice none 0 0] #[.slice al2 r.ls.length kl2, .slice none 0 0, .slice none 0 0]) := HT1.out.set 0 (.slice al2 r.ls.length kl2)
  have HA2 : Hid ((u1.setCell ⟨w.heap.size + 1 + 1, 0, none⟩ (.slice al2 r.ls.length kl2)).ownsRow (w.heap.size + 3) 54 5 (.slice al2 r.ls.length kl2) r.ls.length (lnR r.ls)) := own_setT HA1.out (by omega)
  generalize (u1.setCell ⟨w.heap.size + 1 + 1, 0, none⟩ (.slice al2 r.ls.length kl2)) = V1 at *
  refine Calls.mono (toCpuS_any (H2.out.below HS1.out.bel) (H3.out.below HS1.out.bel) HL.out.c HL.out.p HL.out.s) ?_
  rintro e u2 ⟨v2, qs2, rfl, o2, p2, hb2⟩
  obtain ⟨ac2, kc2, rfl⟩ := cq_sl o2
  have HT2 : Hid (T3 w u2 26 33 #[.slice al r.ls.length kl, .slice ac qs.length kc, .slice am r.ms.length km] #[.slice none 0 0, .slice none 0 0, .slice none 0 0] #[.slice al2 r.ls.length kl2, .slice none 0 0, .slice none 0 0]) := HS1.out.step hb2
  have HA3 : Hid (u2.ownsRow (w.heap.size + 3) 54 5 (.slice al2 r.ls.length kl2) r.ls.length (lnR r.ls)) := own_below HA2.out hb2
  have HC3 : Hid (u2.ownsRow (w.heap.size + 3) 59 3 (.slice ac2 qs2.length kc2) qs2.length (cqR qs2)) := own_weak o2 (by have := HS1.out.lt; omega)
  have HP3 : Hid (CPown u2 (w.heap.size + 3) qs2 r.cs r.cs.length) := p2.weak (by have := HS1.out.lt; omega)
  clear o2 p2 hb2 HS1 lt1 HA1 HA2 HT1
  obtain ⟨c0, c1, c2, _⟩ := cel3 HT2.out.b0
  obtain ⟨d0, d1, d2, df⟩ := cel3 HT2.out.b2
  have lt1 := HT2.out.lt
  have g0 : w.heap.size < u2.heap.size := by omega
  have g2 : w.heap.size + 1 + 1 < u2.heap.size := by omega
  go_wp2_with fail
  clear c0 c1 c2 d0 d1 d2 df g0 g2
  have HS2 : Hid (T3 w (u2.setCell ⟨w.heap.size + 1 + 1, 1, none⟩ (.slice ac2 qs2.length kc2)) 26 33 #[.slice al r.ls.length kl, .slice ac qs.length kc, .slice am r.ms.length km] #[.slice none 0 0, .slice none 0 0, .slice none 0 0] #[.slice al2 r.ls.length kl2, .slice ac2 qs2.length kc2, .slice none 0 0]) := HT2.out.set 1 (.slice ac2 qs2.length kc2)
  have HA4 : Hid ((u2.setCell ⟨w.heap.size + 1 + 1, 1, none⟩ (.slice ac2 qs2.length kc2)).ownsRow (w.heap.size + 3) 54 5 (.slice al2 r.ls.length kl2) r.ls.length (lnR r.ls)) := own_setT HA3.out (by omega)
  have HC4 : Hid ((u2.setCell ⟨w.heap.size + 1 + 1, 1, none⟩ (.slice ac2 qs2.length kc2)).ownsRow (w.heap.size + 3) 59 3 (.slice ac2 qs2.length kc2) qs2.length (cqR qs2)) := own_setT HC3.out (by omega)
  have HP4 : Hid (CPown (u2.setCell ⟨w.heap.size + 1 + 1, 1, none⟩ (.slice ac2 qs2.length kc2)) (w.heap.size + 3) qs2 r.cs r.cs.length) := HP3.out.setT (by omega)
  generalize (u2.setCell ⟨w.heap.size + 1 + 1, 1, none⟩ (.slice ac2 qs2.length kc2)) = V2 at *
  refine Calls.mono (toRMS_any (H4.out.below HS2.out.bel) HL.out.m) ?_
  rintro e u3 ⟨v3, rfl, o3, hb3⟩
  obtain ⟨am2, km2, rfl⟩ := rm_sl o3
  have HT3 : Hid (T3 w u3 26 33 #[.slice al r.ls.length kl, .slice ac qs.length kc, .slice am r.ms.length km] #[.slice none 0 0, .slice none 0 0, .slice none 0 0] #[.slice al2 r.ls.length kl2, .slice ac2 qs2.length kc2, .slice none 0 0]) := HS2.out.step hb3
  have HA5 : Hid (u3.ownsRow (w.heap.size + 3) 54 5 (.slice al2 r.ls.length kl2) r.ls.length (lnR r.ls)) := own_below HA4.out hb3
  have HC5 : Hid (u3.ownsRow (w.heap.size + 3) 59 3 (.slice ac2 qs2.length kc2) qs2.length (cqR qs2)) := own_below HC4.out hb3
  have HP5 : Hid (CPown u3 (w.heap.size + 3) qs2 r.cs r.cs.length) := HP4.out.below hb3
  have HM5 : Hid (u3.ownsRow (w.heap.size + 3) 61 4 (.slice am2 r.ms.length km2) r.ms.length (rmR r.ms)) := own_weak o3 (by have := HS2.out.lt; omega)
  clear o3 hb3 HS2 lt1 HA3 HA4 HC3 HC4 HP3 HP4 HT2
  obtain ⟨c0, c1, c2, _⟩ := cel3 HT3.out.b0
  obtain ⟨d0, d1, d2, df⟩ := cel3 HT3.out.b2
  obtain ⟨k0, k1, k2, kf⟩ := cel3 HT3.out.b1
  have lt2 := HT3.out.lt
  have g0 : w.heap.size < u3.heap.size := by omega
  have g1 : w.heap.size + 1 < u3.heap.size := by omega
  have g2 : w.heap.size + 1 + 1 < u3.heap.size := by omega
  go_wp2
  have hb2 : Below w.heap.size w (u3.setCell ⟨w.heap.size + 1 + 1, 2, none⟩ (.slice am2 r.ms.length km2)) := HT3.out.bel.setCell (by simp only; omega) _
  have hbx : (u3.setCell ⟨w.heap.size + 1 + 1, 2, none⟩ (.slice am2 r.ms.length km2)).heap[w.heap.size + 1]? = some (.cells #[.slice none 0 0, .slice none 0 0, .slice none 0 0] 33 (0, 0)) := (Below.heap_setCell _ _ _ _ (by simp only; omega)).trans HT3.out.b1
  obtain ⟨e1, e2, e3⟩ := st3 hb2 (by omega) hbx (.slice al2 r.ls.length kl2) (.slice ac2 qs2.length kc2) (.slice am2 r.ms.length km2) rfl
  have e5 := fun k (hk : w.heap.size + 3 ≤ k) => (e3 k (by omega)).trans (Below.heap_setCell u3 ⟨w.heap.size + 1 + 1, 2, none⟩ (.slice am2 r.ms.length km2) k (by simp only; omega))
  obtain ⟨f0, f1, f2, _⟩ := cel3 e2
  refine bodyPost_ret (v := .agg #[.slice al2 r.ls.length kl2, .slice ac2 qs2.length kc2, .slice am2 r.ms.length km2]) ?_ rfl ⟨⟨_, _, _, qs2⟩, rfl, ⟨own_heap HA5.out e5 (by omega), own_heap HC5.out e5 (by omega), HP5.out.heap e5 (by omega), own_heap HM5.out e5 (by omega)⟩, e1⟩
  clear e5 e3 e1 hbx hb2 HT3 HA5 HC5 HP5 HM5 e2 c0 c1 c2 d0 d1 d2 df k0 k1 k2 kf
  simp only [results, Try.results7, go_sem]
  simp [go_sem, f0, f1, f2]
/-- Two boxes. -/
structure E2 (w u : World) (t : TypeId) (A A2 : Array Value) : Prop where
  bel : Below w.heap.size w u
  b0 : u.heap[w.heap.size]? = some (.cells A t (0, 0))
  b1 : u.heap[w.heap.size + 1]? = some (.cells A2 t (0, 0))
theorem E2.lt {w u : World} {t : TypeId} {A A2 : Array Value} (h : E2 w u t A A2) : w.heap.size + 1 < u.heap.size := (Array.getElem?_eq_some_iff.1 h.b1).1
theorem E2.step {w u u' : World} {t : TypeId} {A A2 : Array Value} (h : E2 w u t A A2) (hb : Below u.heap.size u u') : E2 w u' t A A2 := by
  have := h.lt
  exact ⟨h.bel.trans (hb.mono h.bel.size), (hb.block _ (by omega)).trans h.b0, (hb.block _ (by omega)).trans h.b1⟩
theorem E2.new (w : World) (t : TypeId) (A A2 : Array Value) : E2 w ((w.alloc (.cells A t)).alloc (.cells A2 t)) t A A2 :=
  ⟨((Below.refl _ _).alloc (Nat.le_refl _) _).alloc (by simp) _, (Below.heap_alloc _ _ _ (by simp)).trans (heap_new _ _), by simpa using heap_new (w.alloc (.cells A t)) (.cells A2 t)⟩
set_option maxRecDepth 100000 in
set_option maxHeartbeats 4000000 in
theorem eqCpu_ok {w : World} {l : Int} {p s p2 s2 : Value} {ps ss : List Int} (h1 : Irow w p ps) (h2 : Irow w s ss) (h3 : Irow w p2 ps) (h4 : Irow w s2 ss) (lp : ps.length ≤ 1048576) (ls : ss.length ≤ 1048576) : Calls Try.prog 50 #[cpA l p s, cpA l p2 s2] w fun e w' => e = .returned (.bool true) ∧ Below w.heap.size w w' := by
  obtain ⟨a1, k1, rfl⟩ := h1.sl
  obtain ⟨a2, k2, rfl⟩ := h2.sl
  obtain ⟨a3, k3, rfl⟩ := h3.sl
  obtain ⟨a4, k4, rfl⟩ := h4.sl
  have H1 : Hid (Irow w (.slice a1 ps.length k1) ps) := h1
  have H2 : Hid (Irow w (.slice a2 ss.length k2) ss) := h2
  have H3 : Hid (Irow w (.slice a3 ps.length k3) ps) := h3
  have H4 : Hid (Irow w (.slice a4 ss.length k4) ss) := h4
  have HE0 : Hid (E2 w ((w.alloc (.cells #[.int .i64 l, .slice a1 ps.length k1, .slice a2 ss.length k2] 59)).alloc (.cells #[.int .i64 l, .slice a3 ps.length k3, .slice a4 ss.length k4] 59)) 59 #[.int .i64 l, .slice a1 ps.length k1, .slice a2 ss.length k2] #[.int .i64 l, .slice a3 ps.length k3, .slice a4 ss.length k4]) := E2.new _ _ _ _
  clear h1 h2 h3 h4
  unfold cpA
  go_enter Try.func50, Try.ntmps50
  go_wp2_with fail
  generalize ((w.alloc (.cells #[.int .i64 l, .slice a1 ps.length k1, .slice a2 ss.length k2] 59)).alloc (.cells #[.int .i64 l, .slice a3 ps.length k3, .slice a4 ss.length k4] 59)) = u0 at *
  refine Calls.mono (eqIS_ok (H1.out.below HE0.out.bel) (H3.out.below HE0.out.bel) lp) ?_
  rintro e u1 ⟨rfl, hb1⟩
  have HE1 : Hid (E2 w u1 59 #[.int .i64 l, .slice a1 ps.length k1, .slice a2 ss.length k2] #[.int .i64 l, .slice a3 ps.length k3, .slice a4 ss.length k4]) := HE0.out.step hb1
  clear hb1 HE0
  obtain ⟨c0, c1, c2, _⟩ := cel3 HE1.out.b0
  obtain ⟨d0, d1, d2, _⟩ := cel3 HE1.out.b1
  go_wp2_with fail
  clear c0 c1 c2 d0 d1 d2
  refine Calls.mono (eqIS_ok (H2.out.below HE1.out.bel) (H4.out.below HE1.out.bel) ls) ?_
  rintro e u2 ⟨rfl, hb2⟩
  go_wp2
  go_ret
  exact ⟨rfl, HE1.out.bel.trans (hb2.mono HE1.out.bel.size)⟩
end Go.Proofs.Ytefeahilamiiaaa
