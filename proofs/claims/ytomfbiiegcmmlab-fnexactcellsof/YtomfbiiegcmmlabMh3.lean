import Derived.Test.YtomfbiiegcmmlabMh2
namespace Go.Proofs.Ytomfbiiegcmmlab
open Go.ChangeShapes Go.WideShapes Go.ChangeAt Go.RowKit

theorem cel4 {u : World} {b t : Nat} {a0 a1 a2 a3 : Value} (h : u.heap[b]? = some (.cells #[a0, a1, a2, a3] t (0, 0))) : u.cell? ⟨b, 0, none⟩ = some a0 ∧ u.cell? ⟨b, 1, none⟩ = some a1 ∧ u.cell? ⟨b, 2, none⟩ = some a2 ∧ u.cell? ⟨b, 3, none⟩ = some a3 ∧ ∀ x, u.frozen? ⟨b, x, none⟩ = false := by
  simp [World.cell?, World.frozen?, h]
theorem st4 {B : Nat} {w u : World} {b : Nat} {t : TypeId} {a0 a1 a2 a3 : Value} (hb : Below B w u) (hB : B ≤ b) (h : u.heap[b]? = some (.cells #[a0, a1, a2, a3] t (0, 0))) (v0 v1 v2 v3 : Value) {U : World}
    (hU : (((u.setCell ⟨b, 0, none⟩ v0).setCell ⟨b, 1, none⟩ v1).setCell ⟨b, 2, none⟩ v2).setCell ⟨b, 3, none⟩ v3 = U) : Below B w U ∧ U.heap[b]? = some (.cells #[v0, v1, v2, v3] t (0, 0)) ∧ (∀ k, k ≠ b → U.heap[k]? = u.heap[k]?) := by
  subst hU
  refine ⟨?_, ?_, fun k hk => ?_⟩
  · exact (((hb.setCell (p := ⟨b, 0, none⟩) hB _).setCell (p := ⟨b, 1, none⟩) hB _).setCell (p := ⟨b, 2, none⟩) hB _).setCell (p := ⟨b, 3, none⟩) hB _
  · exact blk_set (blk_set (blk_set (blk_set h 0 v0) 1 v1) 2 v2) 3 v3
  · exact (Below.heap_setCell _ _ _ _ hk).trans ((Below.heap_setCell _ _ _ _ hk).trans ((Below.heap_setCell _ _ _ _ hk).trans (Below.heap_setCell _ _ _ _ hk)))
/-- A new host's rows. -/
structure HOwn (w : World) (B : Nat) (h : MH) (a : HA) : Prop where
  cs : w.ownsRow B 9 1 a.vc h.cs.length (sR h.cs)
  ps : w.ownsRow B 9 1 a.vp h.ps.length (sR h.ps)
  mg : w.ownsRow B 67 3 a.vg a.qs.length (mgR a.qs)
  gi : MGown w B a.qs h.gs h.gs.length
theorem HOwn.rows {w : World} {B : Nat} {h : MH} {a : HA} (x : HOwn w B h a) : HRows w h a := ⟨Srow.of x.cs, Srow.of x.ps, MGrow.of x.mg, x.gi.inn⟩
structure HLen (h : MH) : Prop where
  c : h.cs.length ≤ 1048576
  p : h.ps.length ≤ 1048576
  g : h.gs.length ≤ 1048576
  s : ∀ k (hk : k < h.gs.length), h.gs[k].ss.length ≤ 1048576
  u : ∀ k (hk : k < h.gs.length), h.gs[k].hs.length ≤ 1048576
theorem MGown.heap {u U : World} {lo lo' : Nat} {qs : List MG} {cs : List GS} {k : Nat} (h : MGown u lo qs cs k) (he : ∀ k, lo ≤ k → U.heap[k]? = u.heap[k]?) (hl : lo' ≤ lo) : MGown U lo' qs cs k :=
  ⟨h.len, fun j hq hc hj => ⟨(h.el j hq hc hj).1, own_heap (h.el j hq hc hj).2.1 he hl, own_heap (h.el j hq hc hj).2.2 he hl⟩, h.rest⟩
set_option maxRecDepth 100000 in
set_option maxHeartbeats 4000000 in
theorem toHost_any {w : World} {h : MH} {a : HA} (x : HRows w h a) (hl : HLen h) : Calls Try.prog 9 #[mhA a h.time] w fun e w' => ∃ a2 : HA, e = .returned (mhA a2 h.time) ∧ HOwn w' w.heap.size h a2 ∧ Below w.heap.size w w' := by
  obtain ⟨vc, vp, vg, qs⟩ := a
  obtain ⟨h1, h2, h3, h4⟩ := x
  simp only at h1 h2 h3 h4
  obtain ⟨al, kl, rfl⟩ := h1.sl
  obtain ⟨am, km, rfl⟩ := h2.sl
  obtain ⟨ac, kc, rfl⟩ := h3.sl
  have H1 : Hid (Srow w (.slice al h.cs.length kl) h.cs) := h1
  have H2 : Hid (Srow w (.slice am h.ps.length km) h.ps) := h2
  have H3 : Hid (MGrow w (.slice ac qs.length kc) qs) := h3
  have H4 : Hid (MGin w qs h.gs) := h4
  have HL : Hid (HLen h) := hl
  have HT0 : Hid (T3 w (((w.alloc (.cells #[.slice al h.cs.length kl, .slice am h.ps.length km, .slice ac qs.length kc, .int .i64 h.time] 25)).alloc (.cells #[.slice none 0 0, .slice none 0 0, .slice none 0 0, .int .i64 0] 30)).alloc (.cells #[.slice none 0 0, .slice none 0 0, .slice none 0 0, .int .i64 0] 30)) 25 30 #[.slice al h.cs.length kl, .slice am h.ps.length km, .slice ac qs.length kc, .int .i64 h.time] #[.slice none 0 0, .slice none 0 0, .slice none 0 0, .int .i64 0] #[.slice none 0 0, .slice none 0 0, .slice none 0 0, .int .i64 0]) := T3.new _ _ _ _ _ _
  clear h1 h2 h3 h4 hl
  unfold mhA
  simp only
  go_enter Try.func9, Try.ntmps9
  go_wp2_with fail
  generalize (((w.alloc (.cells #[.slice al h.cs.length kl, .slice am h.ps.length km, .slice ac qs.length kc, .int .i64 h.time] 25)).alloc (.cells #[.slice none 0 0, .slice none 0 0, .slice none 0 0, .int .i64 0] 30)).alloc (.cells #[.slice none 0 0, .slice none 0 0, .slice none 0 0, .int .i64 0] 30)) = u0 at *
  refine Calls.mono (toSS_any (H1.out.below HT0.out.bel) HL.out.c) ?_
  rintro e u1 ⟨v1, rfl, o1, hb1⟩
  obtain ⟨al2, kl2, rfl⟩ := s_sl o1
  have HT1 : Hid (T3 w u1 25 30 #[.slice al h.cs.length kl, .slice am h.ps.length km, .slice ac qs.length kc, .int .i64 h.time] #[.slice none 0 0, .slice none 0 0, .slice none 0 0, .int .i64 0] #[.slice none 0 0, .slice none 0 0, .slice none 0 0, .int .i64 0]) := HT0.out.step hb1
  have HA1 : Hid (u1.ownsRow (w.heap.size + 3) 9 1 (.slice al2 h.cs.length kl2) h.cs.length (sR h.cs)) := own_weak o1 (by have := HT0.out.lt; omega)
  clear o1 hb1 HT0
  obtain ⟨c0, c1, c2, c3, _⟩ := cel4 HT1.out.b0
  obtain ⟨d0, d1, d2, d3, df⟩ := cel4 HT1.out.b2
  have lt1 := HT1.out.lt
  have g0 : w.heap.size < u1.heap.size := by omega
  have g2 : w.heap.size + 1 + 1 < u1.heap.size := by omega
  go_wp2_with fail
  clear c0 c1 c2 c3 d0 d1 d2 d3 df g0 g2
  have HS1 : Hid (T3 w (u1.setCell ⟨w.heap.size + 1 + 1, 0, none⟩ (.slice al2 h.cs.length kl2)) 25 30 #[.slice al h.cs.length kl, .slice am h.ps.length km, .slice ac qs.length kc, .int .i64 h.time] #[.slice none 0 0, .slice none 0 0, .slice none 0 0, .int .i64 0] #[.slice al2 h.cs.length kl2, .slice none 0 0, .slice none 0 0, .int .i64 0]) := HT1.out.set 0 (.slice al2 h.cs.length kl2)
  have HA2 : Hid ((u1.setCell ⟨w.heap.size + 1 + 1, 0, none⟩ (.slice al2 h.cs.length kl2)).ownsRow (w.heap.size + 3) 9 1 (.slice al2 h.cs.length kl2) h.cs.length (sR h.cs)) := own_setT HA1.out (by omega)
  generalize (u1.setCell ⟨w.heap.size + 1 + 1, 0, none⟩ (.slice al2 h.cs.length kl2)) = V1 at *
  refine Calls.mono (toSS_any (H2.out.below HS1.out.bel) HL.out.p) ?_
  rintro e u2 ⟨v2, rfl, o2, hb2⟩
  obtain ⟨am2, km2, rfl⟩ := s_sl o2
  have HT2 : Hid (T3 w u2 25 30 #[.slice al h.cs.length kl, .slice am h.ps.length km, .slice ac qs.length kc, .int .i64 h.time] #[.slice none 0 0, .slice none 0 0, .slice none 0 0, .int .i64 0] #[.slice al2 h.cs.length kl2, .slice none 0 0, .slice none 0 0, .int .i64 0]) := HS1.out.step hb2
  have HA3 : Hid (u2.ownsRow (w.heap.size + 3) 9 1 (.slice al2 h.cs.length kl2) h.cs.length (sR h.cs)) := own_below HA2.out hb2
  have HB3 : Hid (u2.ownsRow (w.heap.size + 3) 9 1 (.slice am2 h.ps.length km2) h.ps.length (sR h.ps)) := own_weak o2 (by have := HS1.out.lt; omega)
  clear o2 hb2 HS1 lt1 HA1 HA2 HT1
  obtain ⟨c0, c1, c2, c3, _⟩ := cel4 HT2.out.b0
  obtain ⟨d0, d1, d2, d3, df⟩ := cel4 HT2.out.b2
  have lt1 := HT2.out.lt
  have g0 : w.heap.size < u2.heap.size := by omega
  have g2 : w.heap.size + 1 + 1 < u2.heap.size := by omega
  go_wp2_with fail
  clear c0 c1 c2 c3 d0 d1 d2 d3 df g0 g2
  have HS2 : Hid (T3 w (u2.setCell ⟨w.heap.size + 1 + 1, 1, none⟩ (.slice am2 h.ps.length km2)) 25 30 #[.slice al h.cs.length kl, .slice am h.ps.length km, .slice ac qs.length kc, .int .i64 h.time] #[.slice none 0 0, .slice none 0 0, .slice none 0 0, .int .i64 0] #[.slice al2 h.cs.length kl2, .slice am2 h.ps.length km2, .slice none 0 0, .int .i64 0]) := HT2.out.set 1 (.slice am2 h.ps.length km2)
  have HA4 : Hid ((u2.setCell ⟨w.heap.size + 1 + 1, 1, none⟩ (.slice am2 h.ps.length km2)).ownsRow (w.heap.size + 3) 9 1 (.slice al2 h.cs.length kl2) h.cs.length (sR h.cs)) := own_setT HA3.out (by omega)
  have HB4 : Hid ((u2.setCell ⟨w.heap.size + 1 + 1, 1, none⟩ (.slice am2 h.ps.length km2)).ownsRow (w.heap.size + 3) 9 1 (.slice am2 h.ps.length km2) h.ps.length (sR h.ps)) := own_setT HB3.out (by omega)
  generalize (u2.setCell ⟨w.heap.size + 1 + 1, 1, none⟩ (.slice am2 h.ps.length km2)) = V2 at *
  refine Calls.mono (toGuestS_any (H3.out.below HS2.out.bel) (H4.out.below HS2.out.bel) HL.out.g HL.out.s HL.out.u) ?_
  rintro e u3 ⟨v3, qs2, rfl, o3, p3, hb3⟩
  obtain ⟨ac2, kc2, rfl⟩ := mg_sl o3
  have HT3 : Hid (T3 w u3 25 30 #[.slice al h.cs.length kl, .slice am h.ps.length km, .slice ac qs.length kc, .int .i64 h.time] #[.slice none 0 0, .slice none 0 0, .slice none 0 0, .int .i64 0] #[.slice al2 h.cs.length kl2, .slice am2 h.ps.length km2, .slice none 0 0, .int .i64 0]) := HS2.out.step hb3
  have HA5 : Hid (u3.ownsRow (w.heap.size + 3) 9 1 (.slice al2 h.cs.length kl2) h.cs.length (sR h.cs)) := own_below HA4.out hb3
  have HB5 : Hid (u3.ownsRow (w.heap.size + 3) 9 1 (.slice am2 h.ps.length km2) h.ps.length (sR h.ps)) := own_below HB4.out hb3
  have HC5 : Hid (u3.ownsRow (w.heap.size + 3) 67 3 (.slice ac2 qs2.length kc2) qs2.length (mgR qs2)) := own_weak o3 (by have := HS2.out.lt; omega)
  have HP5 : Hid (MGown u3 (w.heap.size + 3) qs2 h.gs h.gs.length) := p3.weak (by have := HS2.out.lt; omega)
  clear o3 p3 hb3 HS2 lt1 HA3 HA4 HB3 HB4 HT2
  obtain ⟨c0, c1, c2, c3, _⟩ := cel4 HT3.out.b0
  obtain ⟨d0, d1, d2, d3, df⟩ := cel4 HT3.out.b2
  obtain ⟨k0, k1, k2, k3, kf⟩ := cel4 HT3.out.b1
  have lt2 := HT3.out.lt
  have g0 : w.heap.size < u3.heap.size := by omega
  have g1 : w.heap.size + 1 < u3.heap.size := by omega
  have g2 : w.heap.size + 1 + 1 < u3.heap.size := by omega
  go_wp2
  have hb2 : Below w.heap.size w ((u3.setCell ⟨w.heap.size + 1 + 1, 2, none⟩ (.slice ac2 qs2.length kc2)).setCell ⟨w.heap.size + 1 + 1, 3, none⟩ (.int .i64 h.time)) := (HT3.out.bel.setCell (by simp only; omega) _).setCell (by simp only; omega) _
  have hbx : ((u3.setCell ⟨w.heap.size + 1 + 1, 2, none⟩ (.slice ac2 qs2.length kc2)).setCell ⟨w.heap.size + 1 + 1, 3, none⟩ (.int .i64 h.time)).heap[w.heap.size + 1]? = some (.cells #[.slice none 0 0, .slice none 0 0, .slice none 0 0, .int .i64 0] 30 (0, 0)) := (Below.heap_setCell _ _ _ _ (by simp only; omega)).trans ((Below.heap_setCell _ _ _ _ (by simp only; omega)).trans HT3.out.b1)
  obtain ⟨e1, e2, e3⟩ := st4 hb2 (by omega) hbx (.slice al2 h.cs.length kl2) (.slice am2 h.ps.length km2) (.slice ac2 qs2.length kc2) (.int .i64 h.time) rfl
  have e5 := fun k (hk : w.heap.size + 3 ≤ k) => (e3 k (by omega)).trans ((Below.heap_setCell (u3.setCell ⟨w.heap.size + 1 + 1, 2, none⟩ (.slice ac2 qs2.length kc2)) ⟨w.heap.size + 1 + 1, 3, none⟩ (.int .i64 h.time) k (by simp only; omega)).trans (Below.heap_setCell u3 ⟨w.heap.size + 1 + 1, 2, none⟩ (.slice ac2 qs2.length kc2) k (by simp only; omega)))
  obtain ⟨f0, f1, f2, f3, _⟩ := cel4 e2
  refine bodyPost_ret (v := .agg #[.slice al2 h.cs.length kl2, .slice am2 h.ps.length km2, .slice ac2 qs2.length kc2, .int .i64 h.time]) ?_ rfl ⟨⟨_, _, _, qs2⟩, rfl, ⟨own_heap HA5.out e5 (by omega), own_heap HB5.out e5 (by omega), own_heap HC5.out e5 (by omega), HP5.out.heap e5 (by omega)⟩, e1⟩
  clear e5 e3 e1 hbx hb2 HT3 HA5 HB5 HC5 HP5 e2 c0 c1 c2 c3 d0 d1 d2 d3 df k0 k1 k2 k3 kf
  simp only [results, Try.results9, go_sem]
  simp [go_sem, f0, f1, f2, f3]
end Go.Proofs.Ytomfbiiegcmmlab
