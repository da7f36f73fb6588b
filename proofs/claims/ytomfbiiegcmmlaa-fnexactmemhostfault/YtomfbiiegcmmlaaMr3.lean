import Derived.Test.YtomfbiiegcmmlaaMr2
namespace Go.Proofs.Ytomfbiiegcmmlaa
open Go.ChangeShapes Go.WideShapes Go.ChangeAt Go.RowKit

set_option maxRecDepth 100000
def grsB (h : MH) : Bool := h.gs.all (fun g => hkB h g.ss (-1) g.hs)
set_option maxHeartbeats 8000000 in
theorem groupsRight_any {w : World} {B : Nat} {h : MH} {a : HA} (hQ : QH w B h a) (hL : HLen h) (hg8 : h.gs.length ≤ 8) (hs32 : ∀ k (hk : k < h.gs.length), h.gs[k].ss.length ≤ 32) : Calls Try.prog 65 #[.pointer (some ⟨B, 0, none⟩)] w fun e w' => e = .returned (.bool (grsB h)) ∧ Below w.heap.size w w' := by
  obtain ⟨al, kl, el⟩ := hQ.row.cs.sl
  obtain ⟨am, km, em⟩ := hQ.row.ps.sl
  obtain ⟨ac, kc, ec⟩ := hQ.row.mg.sl
  rw [hQ.row.gi.len] at ec
  obtain ⟨vc, vp, vg, qs⟩ := a
  simp only at el em ec
  subst el em ec
  have HQ : Hid (QH w B h ⟨.slice al h.cs.length kl, .slice am h.ps.length km, .slice ac h.gs.length kc, qs⟩) := hQ
  have HQU : Hid (∀ u, Below w.heap.size w u → QH u B h ⟨.slice al h.cs.length kl, .slice am h.ps.length km, .slice ac h.gs.length kc, qs⟩) := fun u hu => HQ.out.below hu
  have HBD : Hid (Below w.heap.size w w.drew) := (Below.refl _ _).drew
  have HLC : Hid (∀ u Bm, Below w.heap.size w u → Bm < u.heap.size → u.cell? ⟨Bm, 0, none⟩ = some (.pointer (some ⟨B, 0, none⟩)) → Calls Try.prog 90 #[.agg #[.int .i64 1, .slice al h.cs.length kl], .func (.func 112) #[] #[.pointer (some ⟨Bm, 0, none⟩)]] u fun r w' => (∃ v, r = .returned v ∧ Irow w' v (ldL h.cs 1 (allS h))) ∧ Below u.heap.size u w') := fun u Bm hu h1 h2 => leads_cellNo (HQ.out.below hu) hg8 hs32 (HQ.out.below hu).row.cs hL.c 1 Bm h1 h2
  obtain ⟨G, hG⟩ : ∃ G, grsB h = G := ⟨_, rfl⟩
  rw [hG]
  unfold grsB at hG
  have HNO : Hid (∀ k (hk : k < h.gs.length), hkB h h.gs[k].ss (-1) h.gs[k].hs = false → G = false) := fun k hk he => by
    rw [← hG, List.all_eq_false]
    exact ⟨_, List.getElem_mem hk, by rw [he]; decide⟩
  have HYS : Hid ((∀ k (hk : k < h.gs.length), hkB h h.gs[k].ss (-1) h.gs[k].hs = true) → G = true) := fun h1 => by
    rw [← hG, List.all_eq_true]
    intro x hx
    obtain ⟨j, hj, rfl⟩ := List.getElem_of_mem hx
    exact h1 j hj
  have HL : Hid (HLen h) := hL
  have HS32 : Hid (∀ k (hk : k < h.gs.length), h.gs[k].ss.length ≤ 32) := hs32
  clear hQ hs32 hG hL
  go_enter Try.func65, Try.ntmps65
  go_wp2_with fail
  refine wp_region_held (S := fun w9 => QH w9 B h ⟨.slice al h.cs.length kl, .slice am h.ps.length km, .slice ac h.gs.length kc, qs⟩) (by kernel_rfl) ?_
  change wpAnyH _ _ _ _ _ _ _ _ (World.drew _)
  refine wpAnyH_take (i := 0) (v := .pointer (some ⟨B, 0, none⟩)) rfl (by kernel_rfl) (by kernel_rfl) (by kernel_rfl) (fun _ _ _ h => h) (Or.inl ⟨by kernel_rfl, fun w9 h9 => ?_⟩) (HQU.out _ HBD.out) ?_
  · go_simp
  refine wpAnyH_take (i := 1) (v := .pointer (some ⟨B, 0, none⟩)) rfl (by kernel_rfl) (by kernel_rfl) (by kernel_rfl) (fun _ _ _ h => h) (Or.inl ⟨by kernel_rfl, fun w9 h9 => ?_⟩) (HQU.out _ HBD.out) ?_
  · go_simp
  refine wpAnyH_take (i := 2) (v := .pointer (some ⟨B, 0, none⟩)) rfl (by kernel_rfl) (by kernel_rfl) (by kernel_rfl) (fun _ _ _ h => h) (Or.inl ⟨by kernel_rfl, fun w9 h9 => ?_⟩) (HQU.out _ HBD.out) ?_
  · go_simp
  refine wpAnyH_take (i := 3) (v := .agg #[.int .i64 1, .slice al h.cs.length kl]) rfl (by kernel_rfl) (by kernel_rfl) (by kernel_rfl) (fun _ _ _ h => h) (Or.inl ⟨by kernel_rfl, fun w9 h9 => ?_⟩) (HQU.out _ HBD.out) ?_
  · obtain ⟨y9, x0, x1, x2, x3, x4, x5, _⟩ := h9; simp only at x1 x3 x4; go_simp
  refine wpAnyH_take (i := 4) (v := .pointer (some ⟨B, 0, none⟩)) rfl (by kernel_rfl) (by kernel_rfl) (by kernel_rfl) (fun _ _ _ h => h) (Or.inl ⟨by kernel_rfl, fun w9 h9 => ?_⟩) (HQU.out _ HBD.out) ?_
  · go_simp
  refine held_one 5 (by kernel_rfl) rfl (by kernel_rfl) fun K hK => ?_
  go_simp
  go_wp2_with (go_at_call 88; refine Calls.mono (slots_any B _) ?_; rintro e v1 ⟨⟨Bm, rfl, hbm1, hbm2⟩, hu⟩; have hv1 : Below w.heap.size w v1 := HBD.out.trans (hu.mono HBD.out.size); clear hu)
  refine hK _ _ (HQU.out _ hv1) ?_
  clear hK K
  refine held_one 6 (by kernel_rfl) rfl (by kernel_rfl) fun K hK => ?_
  go_simp
  go_wp2_with (go_at_call 90; refine Calls.mono (HLC.out _ Bm hv1 hbm1 hbm2) ?_; rintro e v2 ⟨⟨vv, rfl, hI⟩, hu⟩; obtain ⟨a9, k9, rfl⟩ := hI.sl; have hv2 : Below w.heap.size w v2 := hv1.trans (hu.mono hv1.size); rw [ldL_len] at hI; simp only [ldL_len]; clear hu)
  refine hK _ _ (HQU.out _ hv2) ?_
  clear hK K
  refine wpAnyH_take (i := 7) (v := .slice a9 h.cs.length k9) rfl (by kernel_rfl) (by kernel_rfl) (by kernel_rfl) (fun _ _ _ h => h) (Or.inl ⟨by kernel_rfl, fun w9 h9 => ?_⟩) (HQU.out _ hv2) ?_
  · go_simp
  refine wpAnyH_done (by kernel_rfl) ?_ _
  go_simp
  have HIL : Hid (Irow v2 (.slice a9 h.cs.length k9) (ldL h.cs 1 (allS h))) := hI
  have HV2 : Hid (Below w.heap.size w v2) := hv2
  obtain ⟨y9, x0, x1, x2, x3, x4, x5, _⟩ := HQU.out _ hv2
  simp only at x1 x3 x4
  clear hI hv2
  go_wp2
  go_loopw [17] (fun i wr => ∃ k : Nat, k ≤ h.gs.length ∧ i = .int .i64 k ∧ (∀ j (hj : j < h.gs.length), j < k → hkB h h.gs[j].ss (-1) h.gs[j].hs = true) ∧ Below v2.heap.size v2 wr) (fun i _ => h.gs.length - (intOf i).toNat)
  case atStart => exact ⟨0, Nat.zero_le _, rfl, fun j _ hj => absurd hj (Nat.not_lt_zero _), Below.refl _ _⟩
  case round =>
    obtain ⟨k, hk, rfl, hal, hb⟩ := hrel
    have HA : Hid (∀ j (hj : j < h.gs.length), j < k → hkB h h.gs[j].ss (-1) h.gs[j].hs = true) := hal
    have HB : Hid (Below w.heap.size w wr) := HV2.out.trans (hb.mono HV2.out.size)
    have HBV : Hid (Below v2.heap.size v2 wr) := hb
    clear hal x0 x1 x2 x3 x4 x5
    by_cases hlt : k < h.gs.length
    · have hQr := HQU.out wr HB.out
      have hkq : k < qs.length := by have := HQ.out.row.gi.len; simp only at this; omega
      obtain ⟨g, o, cap2, hv, _, hg, hc⟩ := HQ.out.row.mg.resolve_left (fun h => by simp only at h; rw [h.1] at hkq; simp at hkq)
      simp only at hv hc hkq
      injection hv with hv1 hv2 hv3
      subst hv1 hv3
      obtain ⟨e0, e1, e2⟩ := hc.below HB.out hg k hkq
      obtain ⟨d1, d2, d3⟩ := hQr.row.gi.el k hkq hlt
      simp only at d1 d2 d3
      have hgw : g < wr.heap.size := Nat.lt_of_lt_of_le hg HB.out.size
      have HHR : Hid (Calls Try.prog 92 #[.pointer (some ⟨B, 0, none⟩), .pointer (some ⟨g, o + k * 3, none⟩), .slice a9 h.cs.length k9] wr fun e w' => e = .returned (.bool (hkB h h.gs[k].ss (-1) h.gs[k].hs)) ∧ Below wr.heap.size wr w') := hugeRight_any hQr HL.out.c hgw e0 d2 (HS32.out k hlt) e2 d3 (HL.out.u k hlt) (HIL.out.below HBV.out)
      have HX : Hid (hkB h h.gs[k].ss (-1) h.gs[k].hs = false → G = false) := fun h => HNO.out k hlt h
      have HX2 : Hid (hkB h h.gs[k].ss (-1) h.gs[k].hs = true → ∀ j (hj : j < h.gs.length), j < k + 1 → hkB h h.gs[j].ss (-1) h.gs[j].hs = true) := fun h j hl hj => by
        rcases Nat.lt_succ_iff_lt_or_eq.1 hj with h2 | h2
        · exact HA.out j hl h2
        · subst h2; exact h
      obtain ⟨y9, x0, x1, x2, x3, x4, x5, _⟩ := hQr
      simp only at x1 x3 x4
      have hk0 : (0 : Int) ≤ (k : Int) := by omega
      have hk1 : (k : Int) < (h.gs.length : Int) := by omega
      generalize hkB h h.gs[k].ss (-1) h.gs[k].hs = hb2 at *
      clear hc d1 d2 d3 hv2 hb e0 e1 e2
      cases hb2 with
      | false =>
        have hg0 := HX.out rfl
        subst hg0
        go_wp2_with (go_at_call 92; refine Calls.mono HHR.out ?_; rintro e v3 ⟨rfl, hu⟩; have HV3 : Hid (Below w.heap.size w v3) := HB.out.trans (hu.mono HB.out.size); clear hu)
        go_ret
        exact ⟨rfl, HV3.out⟩
      | true =>
        have HYY : Hid _ := HX2.out rfl
        go_wp2_with (go_at_call 92; refine Calls.mono HHR.out ?_; rintro e v3 ⟨rfl, hu⟩; have HV3 : Hid (Below v2.heap.size v2 v3) := HBV.out.trans (hu.mono HBV.out.size); clear hu)
        exact ⟨⟨k + 1, hlt, by simp, HYY.out, HV3.out⟩, by simp [intOf]; omega⟩
    · obtain rfl : k = h.gs.length := by omega
      have hg := HYS.out (fun j hj => HA.out j hj hj)
      subst hg
      go_wp2
      go_ret
      exact ⟨rfl, HB.out⟩
/-- A right host, as the program asks for it. -/
def irB (h : MH) : Bool := (mtB h.cs && mtB h.ps) && (bdB h && (arB h && (eiB h && grsB h)))
theorem bdB_lens {h : MH} (x : bdB h = true) : h.gs.length ≤ 8 ∧ ∀ k (hk : k < h.gs.length), h.gs[k].ss.length ≤ 32 := by
  unfold bdB at x
  simp only [Bool.and_eq_true, decide_eq_true_eq] at x
  refine ⟨x.2.1, fun k hk => ?_⟩
  have := List.all_eq_true.1 x.2.2.2 _ (List.getElem_mem hk)
  unfold bgB at this
  simp only [Bool.and_eq_true, decide_eq_true_eq] at this
  exact this.1
set_option maxHeartbeats 8000000 in
theorem hostRight_any {w u : World} {B : Nat} {h : MH} {a : HA} (x : PH w u B h a) (hL : HLen h) : Calls Try.prog 37 #[.pointer (some ⟨B, 0, none⟩)] u fun e w' => e = .returned (.bool (irB h)) ∧ Below u.heap.size u w' := by
  have hQ := x.qh
  obtain ⟨al, kl, el⟩ := hQ.row.cs.sl
  obtain ⟨am, km, em⟩ := hQ.row.ps.sl
  obtain ⟨ac, kc, ec⟩ := hQ.row.mg.sl
  have HQ : Hid (QH u B h a) := hQ
  have HP : Hid (PH w u B h a) := x
  have HQC : Hid (∀ v, Below u.heap.size u v → v.cell? ⟨B, 0, none⟩ = some (.int .i64 1) ∧ v.cell? ⟨B, 1, none⟩ = some (.slice al h.cs.length kl) ∧ v.cell? ⟨B, 2, none⟩ = some (.int .i64 2) ∧ v.cell? ⟨B, 3, none⟩ = some (.slice am h.ps.length km) ∧ B < v.heap.size) := fun v hv => by
    have q := HQ.out.below hv
    exact ⟨q.c0, by rw [q.c1, el], q.c2, by rw [q.c3, em], q.lt⟩
  have HRC : Hid (∀ v, Below u.heap.size u v → Calls Try.prog 60 #[.agg #[.int .i64 1, .slice al h.cs.length kl]] v fun e w' => e = .returned (.bool (mtB h.cs)) ∧ Below v.heap.size v w') := fun v hv => by
    have := right_cellNo (HQ.out.below hv).row.cs hL.c 1
    rw [el] at this
    exact this
  have HRP : Hid (∀ v, Below u.heap.size u v → Calls Try.prog 61 #[.agg #[.int .i64 2, .slice am h.ps.length km]] v fun e w' => e = .returned (.bool (mtB h.ps)) ∧ Below v.heap.size v w') := fun v hv => by
    have := right_placeNo (HQ.out.below hv).row.ps hL.p 2
    rw [em] at this
    exact this
  have HBN : Hid (∀ v, Below u.heap.size u v → Calls Try.prog 62 #[.pointer (some ⟨B, 0, none⟩)] v fun e w' => e = .returned (.bool (bdB h)) ∧ Below v.heap.size v w') := fun v hv => bounded_any (HP.out.step hv) hL
  have HSR : Hid (bdB h = true → ∀ v, Below u.heap.size u v → Calls Try.prog 63 #[.pointer (some ⟨B, 0, none⟩)] v fun e w' => e = .returned (.bool (arB h)) ∧ Below v.heap.size v w') := fun hb v hv => slotsRight_any (HQ.out.below hv) hL.c hL.p (bdB_lens hb).1 (bdB_lens hb).2
  have HEL : Hid (bdB h = true → ∀ v, Below u.heap.size u v → Calls Try.prog 64 #[.pointer (some ⟨B, 0, none⟩)] v fun e w' => e = .returned (.bool (eiB h)) ∧ Below v.heap.size v w') := fun hb v hv => eachLed_any (HQ.out.below hv) hL.c hL.p (bdB_lens hb).1 (bdB_lens hb).2
  have HGR : Hid (bdB h = true → ∀ v, Below u.heap.size u v → Calls Try.prog 65 #[.pointer (some ⟨B, 0, none⟩)] v fun e w' => e = .returned (.bool (grsB h)) ∧ Below v.heap.size v w') := fun hb v hv => groupsRight_any (HQ.out.below hv) hL (bdB_lens hb).1 (bdB_lens hb).2
  obtain ⟨G, hG⟩ : ∃ G, irB h = G := ⟨_, rfl⟩
  rw [hG]
  unfold irB at hG
  obtain ⟨q0, q1, q2, q3, ql⟩ := HQC.out u (Below.refl _ _)
  clear x hQ hL el em ec HP
  generalize mtB h.cs = m1 at *
  generalize mtB h.ps = m2 at *
  generalize bdB h = bd at *
  generalize arB h = ar at *
  generalize eiB h = ei at *
  generalize grsB h = gr at *
  have HG : Hid (((m1 && m2) && (bd && (ar && (ei && gr)))) = G) := hG
  clear hG
  cases m1 with
  | false =>
    have hg : G = false := by rw [← HG.out]; simp
    subst hg
    clear HG
    go_enter Try.func37, Try.ntmps37
    go_wp2_with ((go_at_call 60; refine Calls.mono (HRC.out _ (Below.refl _ _)) ?_; rintro e n1 ⟨rfl, hu⟩; have HNn1 : Hid (Below u.heap.size u n1) := hu; have qq := HQC.out _ HNn1.out; obtain ⟨q0, q1, q2, q3, ql⟩ := qq; clear hu))
    go_ret
    exact ⟨rfl, HNn1.out⟩
  | true =>
  cases m2 with
  | false =>
    have hg : G = false := by rw [← HG.out]; simp
    subst hg
    clear HG
    go_enter Try.func37, Try.ntmps37
    go_wp2_with (first | (go_at_call 60; refine Calls.mono (HRC.out _ (Below.refl _ _)) ?_; rintro e n1 ⟨rfl, hu⟩; have HNn1 : Hid (Below u.heap.size u n1) := hu; have qq := HQC.out _ HNn1.out; obtain ⟨q0, q1, q2, q3, ql⟩ := qq; clear hu) | (go_at_call 61; refine Calls.mono (HRP.out _ HNn1.out) ?_; rintro e n2 ⟨rfl, hu⟩; have HNn2 : Hid (Below u.heap.size u n2) := HNn1.out.trans (hu.mono HNn1.out.size); clear hu))
    go_ret
    exact ⟨rfl, HNn2.out⟩
  | true =>
  cases bd with
  | false =>
    have hg : G = false := by rw [← HG.out]; simp
    subst hg
    clear HG
    go_enter Try.func37, Try.ntmps37
    go_wp2_with (first | (go_at_call 60; refine Calls.mono (HRC.out _ (Below.refl _ _)) ?_; rintro e n1 ⟨rfl, hu⟩; have HNn1 : Hid (Below u.heap.size u n1) := hu; have qq := HQC.out _ HNn1.out; obtain ⟨q0, q1, q2, q3, ql⟩ := qq; clear hu) | (go_at_call 61; refine Calls.mono (HRP.out _ HNn1.out) ?_; rintro e n2 ⟨rfl, hu⟩; have HNn2 : Hid (Below u.heap.size u n2) := HNn1.out.trans (hu.mono HNn1.out.size); clear hu) | (go_at_call 62; refine Calls.mono (HBN.out _ HNn2.out) ?_; rintro e n3 ⟨rfl, hu⟩; have HNn3 : Hid (Below u.heap.size u n3) := HNn2.out.trans (hu.mono HNn2.out.size); clear hu))
    go_ret
    exact ⟨rfl, HNn3.out⟩
  | true =>
  have HSR2 : Hid _ := HSR.out rfl
  have HEL2 : Hid _ := HEL.out rfl
  have HGR2 : Hid _ := HGR.out rfl
  clear HSR HEL HGR
  cases ar with
  | false =>
    have hg : G = false := by rw [← HG.out]; simp
    subst hg
    clear HG
    go_enter Try.func37, Try.ntmps37
    go_wp2_with (first | (go_at_call 60; refine Calls.mono (HRC.out _ (Below.refl _ _)) ?_; rintro e n1 ⟨rfl, hu⟩; have HNn1 : Hid (Below u.heap.size u n1) := hu; have qq := HQC.out _ HNn1.out; obtain ⟨q0, q1, q2, q3, ql⟩ := qq; clear hu) | (go_at_call 61; refine Calls.mono (HRP.out _ HNn1.out) ?_; rintro e n2 ⟨rfl, hu⟩; have HNn2 : Hid (Below u.heap.size u n2) := HNn1.out.trans (hu.mono HNn1.out.size); clear hu) | (go_at_call 62; refine Calls.mono (HBN.out _ HNn2.out) ?_; rintro e n3 ⟨rfl, hu⟩; have HNn3 : Hid (Below u.heap.size u n3) := HNn2.out.trans (hu.mono HNn2.out.size); clear hu) | (go_at_call 63; refine Calls.mono (HSR2.out _ HNn3.out) ?_; rintro e n4 ⟨rfl, hu⟩; have HNn4 : Hid (Below u.heap.size u n4) := HNn3.out.trans (hu.mono HNn3.out.size); clear hu))
    go_ret
    exact ⟨rfl, HNn4.out⟩
  | true =>
  cases ei with
  | false =>
    have hg : G = false := by rw [← HG.out]; simp
    subst hg
    clear HG
    go_enter Try.func37, Try.ntmps37
    go_wp2_with (first | (go_at_call 60; refine Calls.mono (HRC.out _ (Below.refl _ _)) ?_; rintro e n1 ⟨rfl, hu⟩; have HNn1 : Hid (Below u.heap.size u n1) := hu; have qq := HQC.out _ HNn1.out; obtain ⟨q0, q1, q2, q3, ql⟩ := qq; clear hu) | (go_at_call 61; refine Calls.mono (HRP.out _ HNn1.out) ?_; rintro e n2 ⟨rfl, hu⟩; have HNn2 : Hid (Below u.heap.size u n2) := HNn1.out.trans (hu.mono HNn1.out.size); clear hu) | (go_at_call 62; refine Calls.mono (HBN.out _ HNn2.out) ?_; rintro e n3 ⟨rfl, hu⟩; have HNn3 : Hid (Below u.heap.size u n3) := HNn2.out.trans (hu.mono HNn2.out.size); clear hu) | (go_at_call 63; refine Calls.mono (HSR2.out _ HNn3.out) ?_; rintro e n4 ⟨rfl, hu⟩; have HNn4 : Hid (Below u.heap.size u n4) := HNn3.out.trans (hu.mono HNn3.out.size); clear hu) | (go_at_call 64; refine Calls.mono (HEL2.out _ HNn4.out) ?_; rintro e n5 ⟨rfl, hu⟩; have HNn5 : Hid (Below u.heap.size u n5) := HNn4.out.trans (hu.mono HNn4.out.size); clear hu))
    go_ret
    exact ⟨rfl, HNn5.out⟩
  | true =>
  have hg : G = gr := by rw [← HG.out]; simp
  subst hg
  clear HG
  go_enter Try.func37, Try.ntmps37
  go_wp2_with (first | (go_at_call 60; refine Calls.mono (HRC.out _ (Below.refl _ _)) ?_; rintro e n1 ⟨rfl, hu⟩; have HNn1 : Hid (Below u.heap.size u n1) := hu; have qq := HQC.out _ HNn1.out; obtain ⟨q0, q1, q2, q3, ql⟩ := qq; clear hu) | (go_at_call 61; refine Calls.mono (HRP.out _ HNn1.out) ?_; rintro e n2 ⟨rfl, hu⟩; have HNn2 : Hid (Below u.heap.size u n2) := HNn1.out.trans (hu.mono HNn1.out.size); clear hu) | (go_at_call 62; refine Calls.mono (HBN.out _ HNn2.out) ?_; rintro e n3 ⟨rfl, hu⟩; have HNn3 : Hid (Below u.heap.size u n3) := HNn2.out.trans (hu.mono HNn2.out.size); clear hu) | (go_at_call 63; refine Calls.mono (HSR2.out _ HNn3.out) ?_; rintro e n4 ⟨rfl, hu⟩; have HNn4 : Hid (Below u.heap.size u n4) := HNn3.out.trans (hu.mono HNn3.out.size); clear hu) | (go_at_call 64; refine Calls.mono (HEL2.out _ HNn4.out) ?_; rintro e n5 ⟨rfl, hu⟩; have HNn5 : Hid (Below u.heap.size u n5) := HNn4.out.trans (hu.mono HNn4.out.size); clear hu) | (go_at_call 65; refine Calls.mono (HGR2.out _ HNn5.out) ?_; rintro e n6 ⟨rfl, hu⟩; have HNn6 : Hid (Below u.heap.size u n6) := HNn5.out.trans (hu.mono HNn5.out.size); clear hu))
  go_ret
  exact ⟨rfl, HNn6.out⟩
end Go.Proofs.Ytomfbiiegcmmlaa
