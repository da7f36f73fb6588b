import Derived.Test.YtegcbghhcidcaaaDoorCp6
import Derived.RegionTactic
namespace Go.Proofs.YtegcbghhcidcaaaDoor
open Go.ChangeShapes Go.WideShapes Go.ChangeAt Go.RowKit

/-- Going on, by the specification: the clock's box, the two answers'. -/
structure SA (w u : World) (c : CK) (v : Value) : Prop where
  bel : Below w.heap.size w u
  box : BoxK u w.heap.size 25 c v
  r1 : u.heap[w.heap.size + 1]? = some (.cells #[.int .i64 0, .int .i64 0, .int .i64 0, .int .i64 0, .int .i64 0, .bool false, .slice none 0 0] 25 (0, 0))
  r2 : u.heap[w.heap.size + 1 + 1]? = some (.cells #[.int .i64 0, .int .i64 0, .slice none 0 0] 55 (0, 0))
theorem SA.lt {w u : World} {c : CK} {v : Value} (h : SA w u c v) : w.heap.size + 1 + 1 < u.heap.size := (Array.getElem?_eq_some_iff.1 h.r2).1
theorem SA.step {w u u' : World} {c : CK} {v : Value} (h : SA w u c v) (hb : Below u.heap.size u u') : SA w u' c v := by
  have := h.lt
  exact ⟨h.bel.trans (hb.mono h.bel.size), h.box.below hb, (hb.block _ (by omega)).trans h.r1, (hb.block _ (by omega)).trans h.r2⟩
theorem SA.set {w u : World} {c c' : CK} {v v' x : Value} {o : Nat} (h : SA w u c v) (hx : BoxK (u.setCell ⟨w.heap.size, o, none⟩ x) w.heap.size 25 c' v') : SA w (u.setCell ⟨w.heap.size, o, none⟩ x) c' v' :=
  ⟨h.bel.setCell (by simp only; omega) _, hx, (Below.heap_setCell _ _ _ _ (by simp only; omega)).trans h.r1, (Below.heap_setCell _ _ _ _ (by simp only; omega)).trans h.r2⟩
theorem SA.new (w : World) (c : CK) (v : Value) : SA w (((w.alloc (.cells #[.int .i64 c.host, .int .i64 c.guest, .int .i64 c.num, .int .i64 c.den, .int .i64 c.part, .bool c.frz, v] 25)).alloc (.cells #[.int .i64 0, .int .i64 0, .int .i64 0, .int .i64 0, .int .i64 0, .bool false, .slice none 0 0] 25)).alloc (.cells #[.int .i64 0, .int .i64 0, .slice none 0 0] 55)) c v := by
  have h0 : (((w.alloc (.cells #[.int .i64 c.host, .int .i64 c.guest, .int .i64 c.num, .int .i64 c.den, .int .i64 c.part, .bool c.frz, v] 25)).alloc (.cells #[.int .i64 0, .int .i64 0, .int .i64 0, .int .i64 0, .int .i64 0, .bool false, .slice none 0 0] 25)).alloc (.cells #[.int .i64 0, .int .i64 0, .slice none 0 0] 55)).heap[w.heap.size]? = some (.cells #[.int .i64 c.host, .int .i64 c.guest, .int .i64 c.num, .int .i64 c.den, .int .i64 c.part, .bool c.frz, v] 25) := by
    rw [Below.heap_alloc _ _ _ (by simp; omega), Below.heap_alloc _ _ _ (by simp)]
    exact heap_new _ _
  have h1 : (((w.alloc (.cells #[.int .i64 c.host, .int .i64 c.guest, .int .i64 c.num, .int .i64 c.den, .int .i64 c.part, .bool c.frz, v] 25)).alloc (.cells #[.int .i64 0, .int .i64 0, .int .i64 0, .int .i64 0, .int .i64 0, .bool false, .slice none 0 0] 25)).alloc (.cells #[.int .i64 0, .int .i64 0, .slice none 0 0] 55)).heap[w.heap.size + 1]? = some (.cells #[.int .i64 0, .int .i64 0, .int .i64 0, .int .i64 0, .int .i64 0, .bool false, .slice none 0 0] 25) := by
    rw [Below.heap_alloc _ _ _ (by simp)]
    simpa using heap_new (w.alloc (.cells #[.int .i64 c.host, .int .i64 c.guest, .int .i64 c.num, .int .i64 c.den, .int .i64 c.part, .bool c.frz, v] 25)) (.cells #[.int .i64 0, .int .i64 0, .int .i64 0, .int .i64 0, .int .i64 0, .bool false, .slice none 0 0] 25)
  have h2 : (((w.alloc (.cells #[.int .i64 c.host, .int .i64 c.guest, .int .i64 c.num, .int .i64 c.den, .int .i64 c.part, .bool c.frz, v] 25)).alloc (.cells #[.int .i64 0, .int .i64 0, .int .i64 0, .int .i64 0, .int .i64 0, .bool false, .slice none 0 0] 25)).alloc (.cells #[.int .i64 0, .int .i64 0, .slice none 0 0] 55)).heap[w.heap.size + 1 + 1]? = some (.cells #[.int .i64 0, .int .i64 0, .slice none 0 0] 55) := by simpa using heap_new ((w.alloc (.cells #[.int .i64 c.host, .int .i64 c.guest, .int .i64 c.num, .int .i64 c.den, .int .i64 c.part, .bool c.frz, v] 25)).alloc (.cells #[.int .i64 0, .int .i64 0, .int .i64 0, .int .i64 0, .int .i64 0, .bool false, .slice none 0 0] 25)) (.cells #[.int .i64 0, .int .i64 0, .slice none 0 0] 55)
  exact ⟨(((Below.refl _ _).alloc (Nat.le_refl _) _).alloc (by simp) _).alloc (by simp; omega) _, h0, h1, h2⟩
theorem adv_frz {c : CK} {t : Int} (h : May c t) (hf : c.frz = true) : adv c t = ⟨t, c.guest, c.num, c.den, c.part, c.frz, c.ts⟩ := by
  have h1 : pP c t = c.part := by unfold pP; rw [if_pos hf]
  unfold adv
  rw [h1, Int.ediv_eq_zero_of_lt h.p0 h.p1, Int.emod_eq_of_lt h.p0 h.p1, Int.add_zero]
theorem st3 {B : Nat} {w u : World} {b : Nat} {t : TypeId} {a0 a1 a2 : Value} (hb : Below B w u) (hB : B ≤ b) (h : u.heap[b]? = some (.cells #[a0, a1, a2] t (0, 0))) (v0 v1 v2 : Value) {U : World}
    (hU : ((u.setCell ⟨b, 0, none⟩ v0).setCell ⟨b, 1, none⟩ v1).setCell ⟨b, 2, none⟩ v2 = U) : Below B w U ∧ U.heap[b]? = some (.cells #[v0, v1, v2] t (0, 0)) ∧ (∀ k, k ≠ b → U.heap[k]? = u.heap[k]?) := by
  subst hU
  refine ⟨?_, ?_, fun k hk => ?_⟩
  · exact ((hb.setCell (p := ⟨b, 0, none⟩) hB _).setCell (p := ⟨b, 1, none⟩) hB _).setCell (p := ⟨b, 2, none⟩) hB _
  · exact blk_set (blk_set (blk_set h 0 v0) 1 v1) 2 v2
  · exact (Below.heap_setCell _ _ _ _ hk).trans ((Below.heap_setCell _ _ _ _ hk).trans (Below.heap_setCell _ _ _ _ hk))
theorem frz3 {u : World} {b t : Nat} {a0 a1 a2 : Value} (h : u.heap[b]? = some (.cells #[a0, a1, a2] t (0, 0))) : ∀ x, u.frozen? ⟨b, x, none⟩ = false := by simp [World.frozen?, h]
theorem drwK (u : World) : Below u.heap.size u u.drew := (Below.refl _ _).drew
def outA (g : Int) : Value := .agg #[.int .i64 0, .int .i64 g, .slice none 0 0]
set_option maxRecDepth 100000 in
set_option maxHeartbeats 4000000 in
theorem specAdvF {w : World} {c : CK} {ao : Option Addr} {cap : Nat} {t : Int} (hm : May c t) (hf : c.frz = false) : Calls Tryd.prog 27 #[ckA c (.slice ao 0 cap), .int .i64 t] w fun e w' => ∃ a2 k2, e = .returned (.tuple #[ckA (adv c t) (.slice a2 0 k2), outA (adv c t).guest]) ∧ Below w.heap.size w w' := by
  have HS0 : Hid (SA w (((w.alloc (.cells #[.int .i64 c.host, .int .i64 c.guest, .int .i64 c.num, .int .i64 c.den, .int .i64 c.part, .bool c.frz, .slice ao 0 cap] 25)).alloc (.cells #[.int .i64 0, .int .i64 0, .int .i64 0, .int .i64 0, .int .i64 0, .bool false, .slice none 0 0] 25)).alloc (.cells #[.int .i64 0, .int .i64 0, .slice none 0 0] 55)) c (.slice ao 0 cap)) := SA.new _ _ _
  have HAD : Hid (adv c t = ⟨t, c.guest + (c.part + c.num * (t - c.host)) / c.den, c.num, c.den, (c.part + c.num * (t - c.host)) % c.den, c.frz, c.ts⟩) := (show _ = _ by unfold adv pP; rw [hf]; simp)
  have hgm := hm.gm
  have hpp : pP c t = c.part + c.num * (t - c.host) := by unfold pP; rw [hf]; simp
  rw [hpp] at hgm
  clear hpp
  obtain ⟨t0, t1, h0, g0, n0, n1, d0, d1, p0, p1, _⟩ := hm
  obtain ⟨ho, gu, nu, de, pa, fz, ts⟩ := c
  simp only at *
  subst hf
  obtain ⟨x0, x1⟩ := mul_b n0 n1 (show 0 ≤ t - ho by omega) (by omega)
  have l1 : decide (t < ho) = false := decide_eq_false (by omega)
  have l2 : decide (1099511627776 < t) = false := decide_eq_false (by omega)
  have dn : ¬ de = 0 := by omega
  obtain ⟨q1, q2, q3, q4, q5, q6⟩ := quo_b (show 0 ≤ pa + nu * (t - ho) by omega) d0
  rw [HAD.out]
  clear HAD
  generalize hX : nu * (t - ho) = X at *
  generalize (pa + X) / de = Q at *
  generalize (pa + X) % de = R at *
  have l3 : decide (1099511627776 < gu + Q) = false := decide_eq_false (by omega)
  unfold ckA outA
  simp only
  go_enter Tryd.func27, Tryd.ntmps27
  go_wp2_with fail
  generalize (((w.alloc (.cells #[.int .i64 ho, .int .i64 gu, .int .i64 nu, .int .i64 de, .int .i64 pa, .bool false, .slice ao 0 cap] 25)).alloc (.cells #[.int .i64 0, .int .i64 0, .int .i64 0, .int .i64 0, .int .i64 0, .bool false, .slice none 0 0] 25)).alloc (.cells #[.int .i64 0, .int .i64 0, .slice none 0 0] 55)) = u0 at *
  obtain ⟨c0, c1, c2, c3, c4, c5, c6, cf⟩ := HS0.out.box.cel
  have lt0 := HS0.out.lt
  have lt0' : w.heap.size < u0.heap.size := by omega
  simp only at c0 c1 c2 c3 c4 c5
  go_quiet (fail)
  have HS1 : Hid (SA w (u0.drewN nq) ⟨ho, gu, nu, de, pa, false, ts⟩ (.slice ao 0 cap)) := HS0.out.step (bdn (Below.refl _ _) nq)
  generalize u0.drewN nq = u1 at *
  clear c0 c1 c2 c3 c4 c5 c6 cf lt0 lt0' HS0
  obtain ⟨c0, c1, c2, c3, c4, c5, c6, cf⟩ := HS1.out.box.cel
  have lt0 := HS1.out.lt
  have lt0' : w.heap.size < u1.heap.size := by omega
  simp only at c0 c1 c2 c3 c4 c5
  go_wp2_with fail
  go_region
  have hx2 : BoxK (u1.setCell ⟨w.heap.size, 1, none⟩ (.int .i64 (gu + Q))) w.heap.size 25 ⟨ho, gu + Q, nu, de, pa, false, ts⟩ (.slice ao 0 cap) := blk_set HS1.out.box 1 _
  have HS2 : Hid (SA w (u1.setCell ⟨w.heap.size, 1, none⟩ (.int .i64 (gu + Q))).drew ⟨ho, gu + Q, nu, de, pa, false, ts⟩ (.slice ao 0 cap)) := (HS1.out.set hx2).step (drwK _)
  clear hx2
  generalize (u1.setCell ⟨w.heap.size, 1, none⟩ (.int .i64 (gu + Q))).drew = u2 at *
  clear c0 c1 c2 c3 c4 c5 c6 cf lt0 lt0' HS1
  obtain ⟨c0, c1, c2, c3, c4, c5, c6, cf⟩ := HS2.out.box.cel
  have lt0 := HS2.out.lt
  have lt0' : w.heap.size < u2.heap.size := by omega
  simp only at c0 c1 c2 c3 c4 c5
  go_wp2_with fail
  have hx3 : BoxK (u2.setCell ⟨w.heap.size, 4, none⟩ (.int .i64 R)) w.heap.size 25 ⟨ho, gu + Q, nu, de, R, false, ts⟩ (.slice ao 0 cap) := blk_set HS2.out.box 4 _
  have hx4 : BoxK ((u2.setCell ⟨w.heap.size, 4, none⟩ (.int .i64 R)).setCell ⟨w.heap.size, 0, none⟩ (.int .i64 t)) w.heap.size 25 ⟨t, gu + Q, nu, de, R, false, ts⟩ (.slice ao 0 cap) := blk_set hx3 0 _
  have hsz : ((u2.setCell ⟨w.heap.size, 4, none⟩ (.int .i64 R)).setCell ⟨w.heap.size, 0, none⟩ (.int .i64 t)).heap.size = u2.heap.size := by simp [World.setCell]
  have HS4 : Hid (SA w ((u2.setCell ⟨w.heap.size, 4, none⟩ (.int .i64 R)).setCell ⟨w.heap.size, 0, none⟩ (.int .i64 t)) ⟨t, gu + Q, nu, de, R, false, ts⟩ (.slice ao 0 cap)) := (HS2.out.set hx3).set hx4
  clear hx3 hx4 c0 c1 c2 c3 c4 c5 c6 cf lt0 lt0' HS2
  rw [← hsz]
  generalize ((u2.setCell ⟨w.heap.size, 4, none⟩ (.int .i64 R)).setCell ⟨w.heap.size, 0, none⟩ (.int .i64 t)) = u4 at *
  clear hsz
  generalize hG : gu + Q = G at *
  have HGQ : Hid (gu + Q = G) := hG
  clear hG
  have HSO : Hid (SA w ((u4.alloc (.cells #[.int .i64 0, .int .i64 G, .slice none 0 0] 55)).alloc (.cells #[] 34)) ⟨t, G, nu, de, R, false, ts⟩ (.slice ao 0 cap)) := (HS4.out.step (bx1 _ _)).step (bx1 _ _)
  have HO5 : Hid (((u4.alloc (.cells #[.int .i64 0, .int .i64 G, .slice none 0 0] 55)).alloc (.cells #[] 34)).heap[u4.heap.size]? = some (.cells #[.int .i64 0, .int .i64 G, .slice none 0 0] 55 (0, 0))) := (Below.heap_alloc _ _ _ (by simp)).trans (heap_new _ _)
  have hl4 := HS4.out.lt
  have HLT : Hid (w.heap.size + 1 + 1 < u4.heap.size) := hl4
  clear hl4
  generalize hqq : (u4.alloc (.cells #[.int .i64 0, .int .i64 G, .slice none 0 0] 55)).alloc (.cells #[] 34) = u5 at *
  clear hqq HS4
  generalize u4.heap.size = q at *
  obtain ⟨c0, c1, c2, c3, c4, c5, c6, cf⟩ := HSO.out.box.cel
  have lt0 := HSO.out.lt
  have lt0' : w.heap.size < u5.heap.size := by omega
  go_loopw [8, 9] (fun b i wr => b = .slice (some ⟨q + 1, 0, none⟩) 0 0 ∧ i = .int .i64 0 ∧ u5 = wr) (fun _ _ _ => 0)
  case atStart => exact ⟨rfl, rfl, rfl⟩
  case round =>
    obtain ⟨rfl, rfl, rfl⟩ := hrel
    go_wp2_with fail
    have hx6 : BoxK (u5.setCell ⟨w.heap.size, 6, none⟩ (.slice (some ⟨q + 1, 0, none⟩) 0 0)) w.heap.size 25 ⟨t, G, nu, de, R, false, ts⟩ (.slice (some ⟨q + 1, 0, none⟩) 0 0) := blk_set HSO.out.box 6 _
    have HS6 : Hid (SA w (u5.setCell ⟨w.heap.size, 6, none⟩ (.slice (some ⟨q + 1, 0, none⟩) 0 0)) ⟨t, G, nu, de, R, false, ts⟩ (.slice (some ⟨q + 1, 0, none⟩) 0 0)) := HSO.out.set hx6
    have HO6 : Hid ((u5.setCell ⟨w.heap.size, 6, none⟩ (.slice (some ⟨q + 1, 0, none⟩) 0 0)).heap[q]? = some (.cells #[.int .i64 0, .int .i64 G, .slice none 0 0] 55 (0, 0))) := (Below.heap_setCell _ _ _ _ (by have := HLT.out; simp only; omega)).trans HO5.out
    clear c0 c1 c2 c3 c4 c5 c6 cf lt0 lt0' hx6 HSO HO5
    generalize (u5.setCell ⟨w.heap.size, 6, none⟩ (.slice (some ⟨q + 1, 0, none⟩) 0 0)) = u6 at *
    obtain ⟨c0, c1, c2, c3, c4, c5, c6, cf⟩ := HS6.out.box.cel
    obtain ⟨d0, d1, d2, d3, d4, d5, d6, df⟩ := cel7 HS6.out.r1
    obtain ⟨k0, k1, k2⟩ := cel3x HS6.out.r2
    have kf : ∀ x, u6.frozen? ⟨w.heap.size + 1 + 1, x, none⟩ = false := frz3 HS6.out.r2
    obtain ⟨o0, o1, o2⟩ := cel3x HO6.out
    simp only at c0 c1 c2 c3 c4 c5
    have lt0 := HS6.out.lt
    have lt0' : w.heap.size < u6.heap.size := by omega
    have lt1 : w.heap.size + 1 < u6.heap.size := by omega
    have ltq : q < u6.heap.size := (Array.getElem?_eq_some_iff.1 HO6.out).1
    have ne1 : ¬ q = w.heap.size + 1 := by have := HLT.out; omega
    have ne2 : ¬ q = w.heap.size + 1 + 1 := by have := HLT.out; omega
    go_region
    all_goals go_wp2
    obtain ⟨e1, e2, e3⟩ := st7 HS6.out.bel (by omega) HS6.out.r1 (.int .i64 t) (.int .i64 G) (.int .i64 nu) (.int .i64 de) (.int .i64 R) (.bool false) (.slice (some ⟨q + 1, 0, none⟩) 0 0) rfl
    obtain ⟨e4, e5, e6⟩ := st3 e1 (by omega) ((e3 _ (by omega)).trans HS6.out.r2) (.int .i64 0) (.int .i64 G) (.slice none 0 0) rfl
    obtain ⟨f0, f1, f2, f3, f4, f5, f6, _⟩ := cel7 ((e6 _ (by omega)).trans e2)
    obtain ⟨j0, j1, j2⟩ := cel3x e5
    refine bodyPost_ret (v := .tuple #[.agg #[.int .i64 t, .int .i64 G, .int .i64 nu, .int .i64 de, .int .i64 R, .bool false, .slice (some ⟨q + 1, 0, none⟩) 0 0], .agg #[.int .i64 0, .int .i64 G, .slice none 0 0]]) ?_ rfl ⟨some ⟨q + 1, 0, none⟩, 0, by rw [HGQ.out], e4.drew⟩
    clear e1 e2 e3 e4 e5 e6 HS6 HO6 c0 c1 c2 c3 c4 c5 c6 cf d0 d1 d2 d3 d4 d5 d6 df k0 k1 k2 kf o0 o1 o2
    simp only [results, Tryd.results27, go_sem]
    simp [go_sem, f0, f1, f2, f3, f4, f5, f6, j0, j1, j2]
set_option maxRecDepth 100000 in
set_option maxHeartbeats 4000000 in
theorem specAdvT {w : World} {c : CK} {ao : Option Addr} {cap : Nat} {t : Int} (hm : May c t) (hf : c.frz = true) : Calls Tryd.prog 27 #[ckA c (.slice ao 0 cap), .int .i64 t] w fun e w' => ∃ a2 k2, e = .returned (.tuple #[ckA (adv c t) (.slice a2 0 k2), outA (adv c t).guest]) ∧ Below w.heap.size w w' := by
  have HS0 : Hid (SA w (((w.alloc (.cells #[.int .i64 c.host, .int .i64 c.guest, .int .i64 c.num, .int .i64 c.den, .int .i64 c.part, .bool c.frz, .slice ao 0 cap] 25)).alloc (.cells #[.int .i64 0, .int .i64 0, .int .i64 0, .int .i64 0, .int .i64 0, .bool false, .slice none 0 0] 25)).alloc (.cells #[.int .i64 0, .int .i64 0, .slice none 0 0] 55)) c (.slice ao 0 cap)) := SA.new _ _ _
  have HAD : Hid (adv c t = ⟨t, c.guest, c.num, c.den, c.part, c.frz, c.ts⟩) := adv_frz hm hf
  obtain ⟨t0, t1, h0, g0, n0, n1, d0, d1, p0, p1, _⟩ := hm
  obtain ⟨ho, G, nu, de, R, fz, ts⟩ := c
  simp only at *
  subst hf
  have l1 : decide (t < ho) = false := decide_eq_false (by omega)
  have l2 : decide (1099511627776 < t) = false := decide_eq_false (by omega)
  rw [HAD.out]
  clear HAD
  unfold ckA outA
  simp only
  go_enter Tryd.func27, Tryd.ntmps27
  go_wp2_with fail
  have HS4 : Hid (SA w (((w.alloc (.cells #[.int .i64 t, .int .i64 G, .int .i64 nu, .int .i64 de, .int .i64 R, .bool true, .slice ao 0 cap] 25)).alloc (.cells #[.int .i64 0, .int .i64 0, .int .i64 0, .int .i64 0, .int .i64 0, .bool false, .slice none 0 0] 25)).alloc (.cells #[.int .i64 0, .int .i64 0, .slice none 0 0] 55)) ⟨t, G, nu, de, R, true, ts⟩ (.slice ao 0 cap)) := SA.new w ⟨t, G, nu, de, R, true, ts⟩ _
  clear HS0
  generalize hu4 : (((w.alloc (.cells #[.int .i64 t, .int .i64 G, .int .i64 nu, .int .i64 de, .int .i64 R, .bool true, .slice ao 0 cap] 25)).alloc (.cells #[.int .i64 0, .int .i64 0, .int .i64 0, .int .i64 0, .int .i64 0, .bool false, .slice none 0 0] 25)).alloc (.cells #[.int .i64 0, .int .i64 0, .slice none 0 0] 55)) = u4 at *
  have hsz : u4.heap.size = w.heap.size + 1 + 1 + 1 := by rw [← hu4]; simp
  rw [← hsz]
  clear hsz hu4
  have HSO : Hid (SA w ((u4.alloc (.cells #[.int .i64 0, .int .i64 G, .slice none 0 0] 55)).alloc (.cells #[] 34)) ⟨t, G, nu, de, R, true, ts⟩ (.slice ao 0 cap)) := (HS4.out.step (bx1 _ _)).step (bx1 _ _)
  have HO5 : Hid (((u4.alloc (.cells #[.int .i64 0, .int .i64 G, .slice none 0 0] 55)).alloc (.cells #[] 34)).heap[u4.heap.size]? = some (.cells #[.int .i64 0, .int .i64 G, .slice none 0 0] 55 (0, 0))) := (Below.heap_alloc _ _ _ (by simp)).trans (heap_new _ _)
  have hl4 := HS4.out.lt
  have HLT : Hid (w.heap.size + 1 + 1 < u4.heap.size) := hl4
  clear hl4
  generalize hqq : (u4.alloc (.cells #[.int .i64 0, .int .i64 G, .slice none 0 0] 55)).alloc (.cells #[] 34) = u5 at *
  clear hqq HS4
  generalize u4.heap.size = q at *
  obtain ⟨c0, c1, c2, c3, c4, c5, c6, cf⟩ := HSO.out.box.cel
  have lt0 := HSO.out.lt
  have lt0' : w.heap.size < u5.heap.size := by omega
  go_loopw [8, 9] (fun b i wr => b = .slice (some ⟨q + 1, 0, none⟩) 0 0 ∧ i = .int .i64 0 ∧ u5 = wr) (fun _ _ _ => 0)
  case atStart => exact ⟨rfl, rfl, rfl⟩
  case round =>
    obtain ⟨rfl, rfl, rfl⟩ := hrel
    go_wp2_with fail
    have hx6 : BoxK (u5.setCell ⟨w.heap.size, 6, none⟩ (.slice (some ⟨q + 1, 0, none⟩) 0 0)) w.heap.size 25 ⟨t, G, nu, de, R, true, ts⟩ (.slice (some ⟨q + 1, 0, none⟩) 0 0) := blk_set HSO.out.box 6 _
    have HS6 : Hid (SA w (u5.setCell ⟨w.heap.size, 6, none⟩ (.slice (some ⟨q + 1, 0, none⟩) 0 0)) ⟨t, G, nu, de, R, true, ts⟩ (.slice (some ⟨q + 1, 0, none⟩) 0 0)) := HSO.out.set hx6
    have HO6 : Hid ((u5.setCell ⟨w.heap.size, 6, none⟩ (.slice (some ⟨q + 1, 0, none⟩) 0 0)).heap[q]? = some (.cells #[.int .i64 0, .int .i64 G, .slice none 0 0] 55 (0, 0))) := (Below.heap_setCell _ _ _ _ (by have := HLT.out; simp only; omega)).trans HO5.out
    clear c0 c1 c2 c3 c4 c5 c6 cf lt0 lt0' hx6 HSO HO5
    generalize (u5.setCell ⟨w.heap.size, 6, none⟩ (.slice (some ⟨q + 1, 0, none⟩) 0 0)) = u6 at *
    obtain ⟨c0, c1, c2, c3, c4, c5, c6, cf⟩ := HS6.out.box.cel
    obtain ⟨d0, d1, d2, d3, d4, d5, d6, df⟩ := cel7 HS6.out.r1
    obtain ⟨k0, k1, k2⟩ := cel3x HS6.out.r2
    have kf : ∀ x, u6.frozen? ⟨w.heap.size + 1 + 1, x, none⟩ = false := frz3 HS6.out.r2
    obtain ⟨o0, o1, o2⟩ := cel3x HO6.out
    simp only at c0 c1 c2 c3 c4 c5
    have lt0 := HS6.out.lt
    have lt0' : w.heap.size < u6.heap.size := by omega
    have lt1 : w.heap.size + 1 < u6.heap.size := by omega
    have ltq : q < u6.heap.size := (Array.getElem?_eq_some_iff.1 HO6.out).1
    have ne1 : ¬ q = w.heap.size + 1 := by have := HLT.out; omega
    have ne2 : ¬ q = w.heap.size + 1 + 1 := by have := HLT.out; omega
    go_region
    all_goals go_wp2
    obtain ⟨e1, e2, e3⟩ := st7 HS6.out.bel (by omega) HS6.out.r1 (.int .i64 t) (.int .i64 G) (.int .i64 nu) (.int .i64 de) (.int .i64 R) (.bool true) (.slice (some ⟨q + 1, 0, none⟩) 0 0) rfl
    obtain ⟨e4, e5, e6⟩ := st3 e1 (by omega) ((e3 _ (by omega)).trans HS6.out.r2) (.int .i64 0) (.int .i64 G) (.slice none 0 0) rfl
    obtain ⟨f0, f1, f2, f3, f4, f5, f6, _⟩ := cel7 ((e6 _ (by omega)).trans e2)
    obtain ⟨j0, j1, j2⟩ := cel3x e5
    refine bodyPost_ret (v := .tuple #[.agg #[.int .i64 t, .int .i64 G, .int .i64 nu, .int .i64 de, .int .i64 R, .bool true, .slice (some ⟨q + 1, 0, none⟩) 0 0], .agg #[.int .i64 0, .int .i64 G, .slice none 0 0]]) ?_ rfl ⟨some ⟨q + 1, 0, none⟩, 0, rfl, e4.drew⟩
    clear e1 e2 e3 e4 e5 e6 HS6 HO6 c0 c1 c2 c3 c4 c5 c6 cf d0 d1 d2 d3 d4 d5 d6 df k0 k1 k2 kf o0 o1 o2
    simp only [results, Tryd.results27, go_sem]
    simp [go_sem, f0, f1, f2, f3, f4, f5, f6, j0, j1, j2]
theorem specAdv0 {w : World} {c : CK} {ao : Option Addr} {cap : Nat} {t : Int} (hm : May c t) : Calls Tryd.prog 27 #[ckA c (.slice ao 0 cap), .int .i64 t] w fun e w' => ∃ a2 k2, e = .returned (.tuple #[ckA (adv c t) (.slice a2 0 k2), outA (adv c t).guest]) ∧ Below w.heap.size w w' := by
  cases hf : c.frz
  · exact specAdvF hm hf
  · exact specAdvT hm hf
end Go.Proofs.YtegcbghhcidcaaaDoor
