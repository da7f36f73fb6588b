import Derived.Test.YtaobbddecmhpnaaIm2
namespace Go.Proofs.Ytaobbddecmhpnaa
open Go.ChangeShapes Go.WideShapes Go.ChangeAt Go.RowKit

theorem cel5 {u : World} {b t : Nat} {a0 a1 a2 a3 a4 : Value} (h : u.heap[b]? = some (.cells #[a0, a1, a2, a3, a4] t (0, 0))) : u.cell? ⟨b, 0, none⟩ = some a0 ∧ u.cell? ⟨b, 1, none⟩ = some a1 ∧ u.cell? ⟨b, 2, none⟩ = some a2 ∧ u.cell? ⟨b, 3, none⟩ = some a3 ∧ u.cell? ⟨b, 4, none⟩ = some a4 ∧ ∀ x, u.frozen? ⟨b, x, none⟩ = false := by
  simp [World.cell?, World.frozen?, h]
theorem st5 {B : Nat} {w u : World} {b : Nat} {t : TypeId} {a0 a1 a2 a3 a4 : Value} (hb : Below B w u) (hB : B ≤ b) (h : u.heap[b]? = some (.cells #[a0, a1, a2, a3, a4] t (0, 0))) (v0 v1 v2 v3 v4 : Value) {U : World}
    (hU : ((((u.setCell ⟨b, 0, none⟩ v0).setCell ⟨b, 1, none⟩ v1).setCell ⟨b, 2, none⟩ v2).setCell ⟨b, 3, none⟩ v3).setCell ⟨b, 4, none⟩ v4 = U) : Below B w U ∧ U.heap[b]? = some (.cells #[v0, v1, v2, v3, v4] t (0, 0)) ∧ (∀ k, k ≠ b → U.heap[k]? = u.heap[k]?) := by
  subst hU
  refine ⟨?_, ?_, fun k hk => ?_⟩
  · exact ((((hb.setCell (p := ⟨b, 0, none⟩) hB _).setCell (p := ⟨b, 1, none⟩) hB _).setCell (p := ⟨b, 2, none⟩) hB _).setCell (p := ⟨b, 3, none⟩) hB _).setCell (p := ⟨b, 4, none⟩) hB _
  · exact blk_set (blk_set (blk_set (blk_set (blk_set h 0 v0) 1 v1) 2 v2) 3 v3) 4 v4
  · exact (Below.heap_setCell _ _ _ _ hk).trans ((Below.heap_setCell _ _ _ _ hk).trans ((Below.heap_setCell _ _ _ _ hk).trans ((Below.heap_setCell _ _ _ _ hk).trans (Below.heap_setCell _ _ _ _ hk))))
/-- A new image's rows. -/
structure IOwn (w : World) (B : Nat) (m : IM) (a : IA) : Prop where
  t : w.ownsRow B 2 1 a.vt m.t.length (iR m.t)
  d : w.ownsRow B 9 1 a.vd m.d.length (sR m.d)
  sn : w.ownsRow B 43 2 a.vs a.qs.length (snR a.qs)
  si : SNown w B a.qs m.s m.s.length
theorem IOwn.rows {w : World} {B : Nat} {m : IM} {a : IA} (x : IOwn w B m a) : IRows w m a := ⟨Irow.of x.t, Srow.of x.d, SNrow.of x.sn, x.si.inn⟩
theorem IOwn.below {w w' : World} {B : Nat} {m : IM} {a : IA} (x : IOwn w B m a) (hb : Below w.heap.size w w') : IOwn w' B m a := ⟨own_below x.t hb, own_below x.d hb, own_below x.sn hb, x.si.below hb⟩
theorem IOwn.weak {w : World} {B B' : Nat} {m : IM} {a : IA} (x : IOwn w B m a) (hb : B' ≤ B) : IOwn w B' m a := ⟨own_weak x.t hb, own_weak x.d hb, own_weak x.sn hb, x.si.weak hb⟩
structure ILen (m : IM) : Prop where
  t : m.t.length ≤ 1048576
  d : m.d.length ≤ 1048576
  s : m.s.length ≤ 1048576
  e : ∀ k (hk : k < m.s.length), m.s[k].t.length ≤ 1048576
theorem SNown.heap {u U : World} {lo lo' : Nat} {qs : List SN} {cs : List SP} {k : Nat} (h : SNown u lo qs cs k) (he : ∀ k, lo ≤ k → U.heap[k]? = u.heap[k]?) (hl : lo' ≤ lo) : SNown U lo' qs cs k :=
  ⟨h.len, fun j hq hc hj => ⟨(h.el j hq hc hj).1, own_heap (h.el j hq hc hj).2 he hl⟩, h.rest⟩
set_option maxRecDepth 100000 in
set_option maxHeartbeats 4000000 in
theorem toImage_any {w : World} {m : IM} {a : IA} (x : IRows w m a) (hl : ILen m) : Calls Try.prog 6 #[imA m a] w fun e w' => ∃ a2 : IA, e = .returned (imA m a2) ∧ IOwn w' (w.heap.size + 3) m a2 ∧ Below w.heap.size w w' := by
  obtain ⟨vc, vp, vg, qs⟩ := a
  obtain ⟨h1, h2, h3, h4⟩ := x
  simp only at h1 h2 h3 h4
  obtain ⟨al, kl, rfl⟩ := h1.sl
  obtain ⟨am, km, rfl⟩ := h2.sl
  obtain ⟨ac, kc, rfl⟩ := h3.sl
  have H1 : Hid (Irow w (.slice al m.t.length kl) m.t) := h1
  have H2 : Hid (Srow w (.slice am m.d.length km) m.d) := h2
  have H3 : Hid (SNrow w (.slice ac qs.length kc) qs) := h3
  have H4 : Hid (SNin w qs m.s) := h4
  have HL : Hid (ILen m) := hl
  have HT0 : Hid (T3 w (((w.alloc (.cells #[.string m.n, .string m.b, .slice al m.t.length kl, .slice am m.d.length km, .slice ac qs.length kc] 26)).alloc (.cells #[.string ⟨#[]⟩, .string ⟨#[]⟩, .slice none 0 0, .slice none 0 0, .slice none 0 0] 31)).alloc (.cells #[.string m.n, .string m.b, .slice none 0 0, .slice none 0 0, .slice none 0 0] 31)) 26 31 #[.string m.n, .string m.b, .slice al m.t.length kl, .slice am m.d.length km, .slice ac qs.length kc] #[.string ⟨#[]⟩, .string ⟨#[]⟩, .slice none 0 0, .slice none 0 0, .slice none 0 0] #[.string m.n, .string m.b, .slice none 0 0, .slice none 0 0, .slice none 0 0]) := T3.new _ _ _ _ _ _
  clear h1 h2 h3 h4 hl
  unfold imA
  simp only
  go_enter Try.func6, Try.ntmps6
  go_wp2_with fail
  generalize (((w.alloc (.cells #[.string m.n, .string m.b, .slice al m.t.length kl, .slice am m.d.length km, .slice ac qs.length kc] 26)).alloc (.cells #[.string ⟨#[]⟩, .string ⟨#[]⟩, .slice none 0 0, .slice none 0 0, .slice none 0 0] 31)).alloc (.cells #[.string m.n, .string m.b, .slice none 0 0, .slice none 0 0, .slice none 0 0] 31)) = u0 at *
  refine Calls.mono (toIS_any (H1.out.below HT0.out.bel) HL.out.t) ?_
  rintro e u1 ⟨v1, rfl, o1, hb1⟩
  obtain ⟨al2, kl2, rfl⟩ := i_sl o1
  have HT1 : Hid (T3 w u1 26 31 #[.string m.n, .string m.b, .slice al m.t.length kl, .slice am m.d.length km, .slice ac qs.length kc] #[.string ⟨#[]⟩, .string ⟨#[]⟩, .slice none 0 0, .slice none 0 0, .slice none 0 0] #[.string m.n, .string m.b, .slice none 0 0, .slice none 0 0, .slice none 0 0]) := HT0.out.step hb1
  have HA1 : Hid (u1.ownsRow (w.heap.size + 3) 2 1 (.slice al2 m.t.length kl2) m.t.length (iR m.t)) := own_weak o1 (by have := HT0.out.lt; omega)
  clear o1 hb1 HT0
  obtain ⟨c0, c1, c2, c3, c4, _⟩ := cel5 HT1.out.b0
  obtain ⟨d0, d1, d2, d3, d4, df⟩ := cel5 HT1.out.b2
  have lt1 := HT1.out.lt
  have g0 : w.heap.size < u1.heap.size := by omega
  have g2 : w.heap.size + 1 + 1 < u1.heap.size := by omega
  go_wp2_with fail
  clear c0 c1 c2 c3 c4 d0 d1 d2 d3 d4 df g0 g2
  have HS1 : Hid (T3 w (u1.setCell ⟨w.heap.size + 1 + 1, 2, none⟩ (.slice al2 m.t.length kl2)) 26 31 #[.string m.n, .string m.b, .slice al m.t.length kl, .slice am m.d.length km, .slice ac qs.length kc] #[.string ⟨#[]⟩, .string ⟨#[]⟩, .slice none 0 0, .slice none 0 0, .slice none 0 0] #[.string m.n, .string m.b, .slice al2 m.t.length kl2, .slice none 0 0, .slice none 0 0]) := HT1.out.set 2 (.slice al2 m.t.length kl2)
  have HA2 : Hid ((u1.setCell ⟨w.heap.size + 1 + 1, 2, none⟩ (.slice al2 m.t.length kl2)).ownsRow (w.heap.size + 3) 2 1 (.slice al2 m.t.length kl2) m.t.length (iR m.t)) := own_setT HA1.out (by omega)
  generalize (u1.setCell ⟨w.heap.size + 1 + 1, 2, none⟩ (.slice al2 m.t.length kl2)) = V1 at *
  refine Calls.mono (toSS_any (H2.out.below HS1.out.bel) HL.out.d) ?_
  rintro e u2 ⟨v2, rfl, o2, hb2⟩
  obtain ⟨am2, km2, rfl⟩ := s_sl o2
  have HT2 : Hid (T3 w u2 26 31 #[.string m.n, .string m.b, .slice al m.t.length kl, .slice am m.d.length km, .slice ac qs.length kc] #[.string ⟨#[]⟩, .string ⟨#[]⟩, .slice none 0 0, .slice none 0 0, .slice none 0 0] #[.string m.n, .string m.b, .slice al2 m.t.length kl2, .slice none 0 0, .slice none 0 0]) := HS1.out.step hb2
  have HA3 : Hid (u2.ownsRow (w.heap.size + 3) 2 1 (.slice al2 m.t.length kl2) m.t.length (iR m.t)) := own_below HA2.out hb2
  have HB3 : Hid (u2.ownsRow (w.heap.size + 3) 9 1 (.slice am2 m.d.length km2) m.d.length (sR m.d)) := own_weak o2 (by have := HS1.out.lt; omega)
  clear o2 hb2 HS1 lt1 HA1 HA2 HT1
  obtain ⟨c0, c1, c2, c3, c4, _⟩ := cel5 HT2.out.b0
  obtain ⟨d0, d1, d2, d3, d4, df⟩ := cel5 HT2.out.b2
  have lt1 := HT2.out.lt
  have g0 : w.heap.size < u2.heap.size := by omega
  have g2 : w.heap.size + 1 + 1 < u2.heap.size := by omega
  go_wp2_with fail
  clear c0 c1 c2 c3 c4 d0 d1 d2 d3 d4 df g0 g2
  have HS2 : Hid (T3 w (u2.setCell ⟨w.heap.size + 1 + 1, 3, none⟩ (.slice am2 m.d.length km2)) 26 31 #[.string m.n, .string m.b, .slice al m.t.length kl, .slice am m.d.length km, .slice ac qs.length kc] #[.string ⟨#[]⟩, .string ⟨#[]⟩, .slice none 0 0, .slice none 0 0, .slice none 0 0] #[.string m.n, .string m.b, .slice al2 m.t.length kl2, .slice am2 m.d.length km2, .slice none 0 0]) := HT2.out.set 3 (.slice am2 m.d.length km2)
  have HA4 : Hid ((u2.setCell ⟨w.heap.size + 1 + 1, 3, none⟩ (.slice am2 m.d.length km2)).ownsRow (w.heap.size + 3) 2 1 (.slice al2 m.t.length kl2) m.t.length (iR m.t)) := own_setT HA3.out (by omega)
  have HB4 : Hid ((u2.setCell ⟨w.heap.size + 1 + 1, 3, none⟩ (.slice am2 m.d.length km2)).ownsRow (w.heap.size + 3) 9 1 (.slice am2 m.d.length km2) m.d.length (sR m.d)) := own_setT HB3.out (by omega)
  generalize (u2.setCell ⟨w.heap.size + 1 + 1, 3, none⟩ (.slice am2 m.d.length km2)) = V2 at *
  refine Calls.mono (toSnapS_any (H3.out.below HS2.out.bel) (H4.out.below HS2.out.bel) HL.out.s HL.out.e) ?_
  rintro e u3 ⟨v3, qs2, rfl, o3, p3, hb3⟩
  obtain ⟨ac2, kc2, rfl⟩ := sn_sl o3
  have HT3 : Hid (T3 w u3 26 31 #[.string m.n, .string m.b, .slice al m.t.length kl, .slice am m.d.length km, .slice ac qs.length kc] #[.string ⟨#[]⟩, .string ⟨#[]⟩, .slice none 0 0, .slice none 0 0, .slice none 0 0] #[.string m.n, .string m.b, .slice al2 m.t.length kl2, .slice am2 m.d.length km2, .slice none 0 0]) := HS2.out.step hb3
  have HA5 : Hid (u3.ownsRow (w.heap.size + 3) 2 1 (.slice al2 m.t.length kl2) m.t.length (iR m.t)) := own_below HA4.out hb3
  have HB5 : Hid (u3.ownsRow (w.heap.size + 3) 9 1 (.slice am2 m.d.length km2) m.d.length (sR m.d)) := own_below HB4.out hb3
  have HC5 : Hid (u3.ownsRow (w.heap.size + 3) 43 2 (.slice ac2 qs2.length kc2) qs2.length (snR qs2)) := own_weak o3 (by have := HS2.out.lt; omega)
  have HP5 : Hid (SNown u3 (w.heap.size + 3) qs2 m.s m.s.length) := p3.weak (by have := HS2.out.lt; omega)
  clear o3 p3 hb3 HS2 lt1 HA3 HA4 HB3 HB4 HT2
  obtain ⟨c0, c1, c2, c3, c4, _⟩ := cel5 HT3.out.b0
  obtain ⟨d0, d1, d2, d3, d4, df⟩ := cel5 HT3.out.b2
  obtain ⟨k0, k1, k2, k3, k4, kf⟩ := cel5 HT3.out.b1
  have lt2 := HT3.out.lt
  have g0 : w.heap.size < u3.heap.size := by omega
  have g1 : w.heap.size + 1 < u3.heap.size := by omega
  have g2 : w.heap.size + 1 + 1 < u3.heap.size := by omega
  go_wp2
  have hb2 : Below w.heap.size w (u3.setCell ⟨w.heap.size + 1 + 1, 4, none⟩ (.slice ac2 qs2.length kc2)) := HT3.out.bel.setCell (by simp only; omega) _
  have hbx : (u3.setCell ⟨w.heap.size + 1 + 1, 4, none⟩ (.slice ac2 qs2.length kc2)).heap[w.heap.size + 1]? = some (.cells #[.string ⟨#[]⟩, .string ⟨#[]⟩, .slice none 0 0, .slice none 0 0, .slice none 0 0] 31 (0, 0)) := (Below.heap_setCell _ _ _ _ (by simp only; omega)).trans HT3.out.b1
  obtain ⟨e1, e2, e3⟩ := st5 hb2 (by omega) hbx (.string m.n) (.string m.b) (.slice al2 m.t.length kl2) (.slice am2 m.d.length km2) (.slice ac2 qs2.length kc2) rfl
  have e5 := fun k (hk : w.heap.size + 3 ≤ k) => (e3 k (by omega)).trans (Below.heap_setCell u3 ⟨w.heap.size + 1 + 1, 4, none⟩ (.slice ac2 qs2.length kc2) k (by simp only; omega))
  obtain ⟨f0, f1, f2, f3, f4, _⟩ := cel5 e2
  refine bodyPost_ret (v := .agg #[.string m.n, .string m.b, .slice al2 m.t.length kl2, .slice am2 m.d.length km2, .slice ac2 qs2.length kc2]) ?_ rfl ⟨⟨_, _, _, qs2⟩, rfl, ⟨own_heap HA5.out e5 (by omega), own_heap HB5.out e5 (by omega), own_heap HC5.out e5 (by omega), HP5.out.heap e5 (by omega)⟩, e1⟩
  clear e5 e3 e1 hbx hb2 HT3 HA5 HB5 HC5 HP5 e2 c0 c1 c2 c3 c4 d0 d1 d2 d3 d4 df k0 k1 k2 k3 k4 kf
  simp only [results, Try.results6, go_sem]
  simp [go_sem, f0, f1, f2, f3, f4]
end Go.Proofs.Ytaobbddecmhpnaa
