import Derived.Test.YtomfbiiegcmmlabMq5
namespace Go.Proofs.Ytomfbiiegcmmlab
open Go.ChangeShapes Go.WideShapes Go.ChangeAt Go.RowKit

set_option maxRecDepth 100000
theorem slots_any (B : Nat) (w : World) : Calls Try.prog 107 #[.pointer (some ⟨B, 0, none⟩)] w fun e w' => (∃ Bm, e = .returned (.func (.func 135) #[] #[.pointer (some ⟨Bm, 0, none⟩)]) ∧ Bm < w'.heap.size ∧ w'.cell? ⟨Bm, 0, none⟩ = some (.pointer (some ⟨B, 0, none⟩))) ∧ Below w.heap.size w w' := by
  refine (slots_in ⟨B, 0, none⟩ w).mono ?_
  rintro e w' ⟨rfl, rfl⟩
  have hb := heap_new w (.cells #[.pointer (some ⟨B, 0, none⟩)] 73)
  exact ⟨⟨_, rfl, by simp, by simp only [World.cell?, hb]; rfl⟩, (Below.refl _ _).alloc (Nat.le_refl _) _⟩
theorem ldL_cnt {h : MH} {zs : List ByteArray} {kd : Int} {i : Nat} (hi : i < zs.length) (hz : ¬ (zs[i]).size = 0) : (ldL zs kd (allS h))[i]'(by rw [ldL_len]; exact hi) = (cntS h kd (i : Int) : Nat) := by
  rw [ldL_at]
  unfold cntS
  congr 2
  funext y
  unfold ltB isK
  by_cases hp : y.pos = (i : Int)
  · rw [hp, inB_at hi, decide_eq_true hz]
    simp
  · have : (y.pos == (i : Int)) = false := by simpa using hp
    rw [this]
    simp
theorem allB_no' {p : Nat → Bool} {n k : Nat} (hk : k < n) (h : p k = false) : (List.range n).all p = false := by
  rw [List.all_eq_false]
  exact ⟨k, List.mem_range.2 hk, by rw [h]; decide⟩
def eiB (h : MH) : Bool := (List.range h.cs.length).all (e1B h) && (List.range h.ps.length).all (e2B h)
set_option maxHeartbeats 8000000 in
theorem eachLed_any {w : World} {B : Nat} {h : MH} {a : HA} (hQ : QH w B h a) (hlc : h.cs.length ≤ 1048576) (hlp : h.ps.length ≤ 1048576) (hg8 : h.gs.length ≤ 8) (hs32 : ∀ k (hk : k < h.gs.length), h.gs[k].ss.length ≤ 32) : Calls Try.prog 73 #[.pointer (some ⟨B, 0, none⟩)] w fun e w' => e = .returned (.bool (eiB h)) ∧ Below w.heap.size w w' := by
  obtain ⟨al, kl, el⟩ := hQ.row.cs.sl
  obtain ⟨am, km, em⟩ := hQ.row.ps.sl
  obtain ⟨ac, kc, ec⟩ := hQ.row.mg.sl
  obtain ⟨vc, vp, vg, qs⟩ := a
  simp only at el em ec
  subst el em ec
  have HQ : Hid (QH w B h ⟨.slice al h.cs.length kl, .slice am h.ps.length km, .slice ac qs.length kc, qs⟩) := hQ
  have HQU : Hid (∀ u, Below w.heap.size w u → QH u B h ⟨.slice al h.cs.length kl, .slice am h.ps.length km, .slice ac qs.length kc, qs⟩) := fun u hu => HQ.out.below hu
  have HBD : Hid (Below w.heap.size w w.drew) := (Below.refl _ _).drew
  have HLC : Hid (∀ u Bm, Below w.heap.size w u → Bm < u.heap.size → u.cell? ⟨Bm, 0, none⟩ = some (.pointer (some ⟨B, 0, none⟩)) → Calls Try.prog 109 #[.agg #[.int .i64 1, .slice al h.cs.length kl], .func (.func 135) #[] #[.pointer (some ⟨Bm, 0, none⟩)]] u fun r w' => (∃ v, r = .returned v ∧ Irow w' v (ldL h.cs 1 (allS h))) ∧ Below u.heap.size u w') := fun u Bm hu h1 h2 => leads_cellNo (HQ.out.below hu) hg8 hs32 (HQ.out.below hu).row.cs hlc 1 Bm h1 h2
  have HLP : Hid (∀ u Bm, Below w.heap.size w u → Bm < u.heap.size → u.cell? ⟨Bm, 0, none⟩ = some (.pointer (some ⟨B, 0, none⟩)) → Calls Try.prog 110 #[.agg #[.int .i64 2, .slice am h.ps.length km], .func (.func 135) #[] #[.pointer (some ⟨Bm, 0, none⟩)]] u fun r w' => (∃ v, r = .returned v ∧ Irow w' v (ldL h.ps 2 (allS h))) ∧ Below u.heap.size u w') := fun u Bm hu h1 h2 => leads_placeNo (HQ.out.below hu) hg8 hs32 (HQ.out.below hu).row.ps hlp 2 Bm h1 h2
  clear hQ hg8 hs32
  obtain ⟨G, hG⟩ : ∃ G, eiB h = G := ⟨_, rfl⟩
  rw [hG]
  unfold eiB at hG
  have HN1 : Hid (∀ k, k < h.cs.length → e1B h k = false → G = false) := fun k hk he => by rw [← hG, allB_no' hk he, Bool.false_and]
  have HN2 : Hid (∀ k, k < h.ps.length → e2B h k = false → G = false) := fun k hk he => by rw [← hG, allB_no' hk he, Bool.and_false]
  have HYS : Hid ((∀ k, k < h.cs.length → e1B h k = true) → (∀ k, k < h.ps.length → e2B h k = true) → G = true) := fun h1 h2 => by
    rw [← hG, List.all_eq_true.2 (fun k hk => h1 k (List.mem_range.1 hk)), List.all_eq_true.2 (fun k hk => h2 k (List.mem_range.1 hk))]
    rfl
  have HE1 : Hid (∀ k (hk : k < h.cs.length), e1B h k = (decide (h.cs[k].size = 0) || decide (¬ cntS h 1 (k : Int) = 0))) := fun k hk => by
    unfold e1B
    rw [List.getD_eq_getElem?_getD, List.getElem?_eq_getElem hk, Option.getD_some]
  have HE2 : Hid (∀ k (hk : k < h.ps.length), e2B h k = (decide (h.ps[k].size = 0) || decide (cntS h 2 (k : Int) = 1))) := fun k hk => by
    unfold e2B
    rw [List.getD_eq_getElem?_getD, List.getElem?_eq_getElem hk, Option.getD_some]
  clear hG
  go_enter Try.func73, Try.ntmps73
  go_wp2_with fail
  refine wp_region_held (S := fun w9 => QH w9 B h ⟨.slice al h.cs.length kl, .slice am h.ps.length km, .slice ac qs.length kc, qs⟩) (by kernel_rfl) ?_
  change wpAnyH _ _ _ _ _ _ _ _ (World.drew _)
  refine wpAnyH_take (i := 0) (v := .pointer (some ⟨B, 0, none⟩)) rfl (by kernel_rfl) (by kernel_rfl) (by kernel_rfl) (fun _ _ _ h => h) (Or.inl ⟨by kernel_rfl, fun w9 h9 => ?_⟩) (HQU.out _ HBD.out) ?_
  · go_simp
  refine wpAnyH_take (i := 1) (v := .pointer (some ⟨B, 0, none⟩)) rfl (by kernel_rfl) (by kernel_rfl) (by kernel_rfl) (fun _ _ _ h => h) (Or.inl ⟨by kernel_rfl, fun w9 h9 => ?_⟩) (HQU.out _ HBD.out) ?_
  · go_simp
  refine wpAnyH_take (i := 2) (v := .pointer (some ⟨B, 0, none⟩)) rfl (by kernel_rfl) (by kernel_rfl) (by kernel_rfl) (fun _ _ _ h => h) (Or.inl ⟨by kernel_rfl, fun w9 h9 => ?_⟩) (HQU.out _ HBD.out) ?_
  · go_simp
  refine wpAnyH_take (i := 3) (v := .agg #[.int .i64 1, .slice al h.cs.length kl]) rfl (by kernel_rfl) (by kernel_rfl) (by kernel_rfl) (fun _ _ _ h => h) (Or.inl ⟨by kernel_rfl, fun w9 h9 => ?_⟩) (HQU.out _ HBD.out) ?_
  · obtain ⟨y9, x0, x1, x2, x3, x4, x5, _⟩ := h9; simp only at x1 x3 x4; go_simp
  refine wpAnyH_take (i := 4) (v := .pointer (some ⟨B, 0, none⟩)) rfl (by kernel_rfl) (by kernel_rfl) (by kernel_rfl) (fun _ _ _ h => h) (Or.inl ⟨by kernel_rfl, fun w9 h9 => ?_⟩) (HQU.out _ HBD.out) ?_
  · go_simp
  refine wpAnyH_take (i := 8) (v := .int .i64 0) rfl (by kernel_rfl) (by kernel_rfl) (by kernel_rfl) (fun _ _ _ h => h) (Or.inl ⟨by kernel_rfl, fun w9 h9 => ?_⟩) (HQU.out _ HBD.out) ?_
  · go_simp
  refine held_one 5 (by kernel_rfl) rfl (by kernel_rfl) fun K hK => ?_
  go_simp
  go_wp2_with (go_at_call 107; refine Calls.mono (slots_any B _) ?_; rintro e v1 ⟨⟨Bm, rfl, hbm1, hbm2⟩, hu⟩; have hv1 : Below w.heap.size w v1 := HBD.out.trans (hu.mono HBD.out.size); clear hu)
  refine hK _ _ (HQU.out _ hv1) ?_
  clear hK K
  refine held_one 6 (by kernel_rfl) rfl (by kernel_rfl) fun K hK => ?_
  go_simp
  go_wp2_with (go_at_call 109; refine Calls.mono (HLC.out _ Bm hv1 hbm1 hbm2) ?_; rintro e v2 ⟨⟨vv, rfl, hI⟩, hu⟩; obtain ⟨a9, k9, rfl⟩ := hI.sl; have hv2 : Below w.heap.size w v2 := hv1.trans (hu.mono hv1.size); rw [ldL_len] at hI; simp only [ldL_len]; clear hu)
  refine hK _ _ (HQU.out _ hv2) ?_
  clear hK K
  refine wpAnyH_take (i := 7) (v := .int .i64 (h.cs.length : Nat)) rfl (by kernel_rfl) (by kernel_rfl) (by kernel_rfl) (fun _ _ _ h => h) (Or.inl ⟨by kernel_rfl, fun w9 h9 => ?_⟩) (HQU.out _ hv2) ?_
  · go_simp
  refine wpAnyH_done (by kernel_rfl) ?_ _
  go_simp
  go_wp2_with fail
  have HIL : Hid (Irow v2 (.slice a9 h.cs.length k9) (ldL h.cs 1 (allS h))) := hI
  have HV2 : Hid (Below w.heap.size w v2) := hv2
  clear hI hv2
  go_loopw [15] (fun i wr => ∃ k : Nat, k ≤ h.cs.length ∧ i = .int .i64 k ∧ (∀ j, j < k → e1B h j = true) ∧ wr = v2) (fun i _ => h.cs.length - (intOf i).toNat)
  case atStart => exact ⟨0, Nat.zero_le _, rfl, fun j hj => absurd hj (Nat.not_lt_zero _), rfl⟩
  case round =>
    obtain ⟨k, hk, rfl, hal, rfl⟩ := hrel
    have HA : Hid (∀ j, j < k → e1B h j = true) := hal
    clear hal
    by_cases hlt : k < h.cs.length
    · have hkl : k < (ldL h.cs 1 (allS h)).length := by rw [ldL_len]; exact hlt
      obtain ⟨g, o, cap2, hv, _, hg, hc⟩ := HIL.out.resolve_left (fun h => by rw [h.1] at hkl; simp at hkl)
      rw [ldL_len] at hv
      injection hv with hv1 hv2 hv3
      subst hv1 hv3
      have d0 := hc k hkl
      obtain ⟨y9, x0, x1, x2, x3, x4, x5, xr⟩ := HQU.out _ HV2.out
      simp only at x1 x3 x4
      obtain ⟨g2, o2, cap3, hv, _, hg2, hc2⟩ := xr.cs.resolve_left (fun h => by rw [h.1] at hlt; simp at hlt)
      simp only at hv
      injection hv with hv1 hv2 hv3
      subst hv1 hv3
      have d1 := hc2 k hlt
      have he := HE1.out k hlt
      have HX : Hid (e1B h k = false → G = false) := fun h => HN1.out k hlt h
      have HX2 : Hid (e1B h k = true → ∀ j, j < k + 1 → e1B h j = true) := fun h j hj => by
        rcases Nat.lt_succ_iff_lt_or_eq.1 hj with h2 | h2
        · exact HA.out j h2
        · subst h2; exact h
      have hk0 : (0 : Int) ≤ (k : Int) := by omega
      have hk1 : (k : Int) < (h.cs.length : Int) := by omega
      have HCT : Hid (¬ h.cs[k].size = 0 → (ldL h.cs 1 (allS h))[k] = (cntS h 1 (k : Int) : Nat)) := fun hz => ldL_cnt hlt hz
      generalize (ldL h.cs 1 (allS h))[k] = lv at *
      generalize cntS h 1 (k : Int) = ct at *
      generalize h.cs[k] = tx at *
      clear hc hc2 xr hv2
      by_cases hz : tx.size = 0
      · have htr : e1B h k = true := by rw [he, decide_eq_true hz]; rfl
        have HYY : Hid _ := HX2.out htr
        have hbe := ba_empty hz
        rw [hbe] at d1
        clear he htr hz hbe
        go_wp2
        exact ⟨⟨k + 1, hlt, by simp, HYY.out, trivial⟩, by simp [intOf]; omega⟩
      · obtain ⟨hie, hne⟩ := ba_ne hz
        have hlv := HCT.out hz
        by_cases hc0 : ct = 0
        · have hfa : e1B h k = false := by rw [he, decide_eq_false hz, decide_eq_false (by omega)]; rfl
          have hg0 := HX.out hfa
          subst hg0
          subst hc0
          subst hlv
          clear he hz hfa
          go_wp2
          go_ret
          exact ⟨rfl, HV2.out⟩
        · have htr : e1B h k = true := by rw [he, decide_eq_true hc0]; simp
          have HYY : Hid _ := HX2.out htr
          have hlb : (lv == 0) = false := beq_eq_false_iff_ne.2 (by omega)
          clear he htr hz hlv
          go_wp2
          exact ⟨⟨k + 1, hlt, by simp, HYY.out, trivial⟩, by simp [intOf]; omega⟩
    · obtain rfl : k = h.cs.length := by omega
      have HBD2 : Hid (Below w.heap.size w wr.drew) := HV2.out.trans ((Below.refl _ _).drew.mono HV2.out.size)
      go_wp2_with fail
      refine wp_region_held (S := fun w9 => QH w9 B h ⟨.slice al h.cs.length kl, .slice am h.ps.length km, .slice ac qs.length kc, qs⟩) (by kernel_rfl) ?_
      change wpAnyH _ _ _ _ _ _ _ _ (World.drew _)
      refine wpAnyH_take (i := 0) (v := .pointer (some ⟨B, 0, none⟩)) rfl (by kernel_rfl) (by kernel_rfl) (by kernel_rfl) (fun _ _ _ h => h) (Or.inl ⟨by kernel_rfl, fun w9 h9 => ?_⟩) (HQU.out _ HBD2.out) ?_
      · go_simp
      refine wpAnyH_take (i := 1) (v := .pointer (some ⟨B, 0, none⟩)) rfl (by kernel_rfl) (by kernel_rfl) (by kernel_rfl) (fun _ _ _ h => h) (Or.inl ⟨by kernel_rfl, fun w9 h9 => ?_⟩) (HQU.out _ HBD2.out) ?_
      · go_simp
      refine wpAnyH_take (i := 2) (v := .pointer (some ⟨B, 2, none⟩)) rfl (by kernel_rfl) (by kernel_rfl) (by kernel_rfl) (fun _ _ _ h => h) (Or.inl ⟨by kernel_rfl, fun w9 h9 => ?_⟩) (HQU.out _ HBD2.out) ?_
      · go_simp
      refine wpAnyH_take (i := 3) (v := .agg #[.int .i64 2, .slice am h.ps.length km]) rfl (by kernel_rfl) (by kernel_rfl) (by kernel_rfl) (fun _ _ _ h => h) (Or.inl ⟨by kernel_rfl, fun w9 h9 => ?_⟩) (HQU.out _ HBD2.out) ?_
      · obtain ⟨y9, x0, x1, x2, x3, x4, x5, _⟩ := h9; simp only at x1 x3 x4; go_simp
      refine wpAnyH_take (i := 4) (v := .pointer (some ⟨B, 0, none⟩)) rfl (by kernel_rfl) (by kernel_rfl) (by kernel_rfl) (fun _ _ _ h => h) (Or.inl ⟨by kernel_rfl, fun w9 h9 => ?_⟩) (HQU.out _ HBD2.out) ?_
      · go_simp
      refine wpAnyH_take (i := 8) (v := .int .i64 0) rfl (by kernel_rfl) (by kernel_rfl) (by kernel_rfl) (fun _ _ _ h => h) (Or.inl ⟨by kernel_rfl, fun w9 h9 => ?_⟩) (HQU.out _ HBD2.out) ?_
      · go_simp
      refine held_one 5 (by kernel_rfl) rfl (by kernel_rfl) fun K hK => ?_
      go_simp
      go_wp2_with (go_at_call 107; refine Calls.mono (slots_any B _) ?_; rintro e z1 ⟨⟨Bm, rfl, hbm1, hbm2⟩, hu⟩; have hv1 : Below w.heap.size w z1 := HBD2.out.trans (hu.mono HBD2.out.size); clear hu)
      refine hK _ _ (HQU.out _ hv1) ?_
      clear hK K
      refine held_one 6 (by kernel_rfl) rfl (by kernel_rfl) fun K hK => ?_
      go_simp
      go_wp2_with (go_at_call 110; refine Calls.mono (HLP.out _ Bm hv1 hbm1 hbm2) ?_; rintro e z2 ⟨⟨vv, rfl, hI⟩, hu⟩; obtain ⟨a9, k9, rfl⟩ := hI.sl; have hv2 : Below w.heap.size w z2 := hv1.trans (hu.mono hv1.size); rw [ldL_len] at hI; simp only [ldL_len]; clear hu)
      refine hK _ _ (HQU.out _ hv2) ?_
      clear hK K
      refine wpAnyH_take (i := 7) (v := .int .i64 (h.ps.length : Nat)) rfl (by kernel_rfl) (by kernel_rfl) (by kernel_rfl) (fun _ _ _ h => h) (Or.inl ⟨by kernel_rfl, fun w9 h9 => ?_⟩) (HQU.out _ hv2) ?_
      · go_simp
      refine wpAnyH_done (by kernel_rfl) ?_ _
      go_simp
      go_wp2_with fail
      have HIP : Hid (Irow z2 (.slice a9 h.ps.length k9) (ldL h.ps 2 (allS h))) := hI
      have HZ2 : Hid (Below w.heap.size w z2) := hv2
      clear hI hv2
      go_loopw [42] (fun i wr => ∃ k : Nat, k ≤ h.ps.length ∧ i = .int .i64 k ∧ (∀ j, j < k → e2B h j = true) ∧ wr = z2) (fun i _ => h.ps.length - (intOf i).toNat)
      case atStart => exact ⟨0, Nat.zero_le _, rfl, fun j hj => absurd hj (Nat.not_lt_zero _), rfl⟩
      case round =>
        obtain ⟨k, hk, rfl, hal, rfl⟩ := hrel
        have HA2 : Hid (∀ j, j < k → e2B h j = true) := hal
        clear hal
        by_cases hlt : k < h.ps.length
        · have hkl : k < (ldL h.ps 2 (allS h)).length := by rw [ldL_len]; exact hlt
          obtain ⟨g, o, cap2, hv, _, hg, hc⟩ := HIP.out.resolve_left (fun h => by rw [h.1] at hkl; simp at hkl)
          rw [ldL_len] at hv
          injection hv with hv1 hv2 hv3
          subst hv1 hv3
          have d0 := hc k hkl
          obtain ⟨y9, x0, x1, x2, x3, x4, x5, xr⟩ := HQU.out _ HZ2.out
          simp only at x1 x3 x4
          obtain ⟨g2, o2, cap3, hv, _, hg2, hc2⟩ := xr.ps.resolve_left (fun h => by rw [h.1] at hlt; simp at hlt)
          simp only at hv
          injection hv with hv1 hv2 hv3
          subst hv1 hv3
          have d1 := hc2 k hlt
          have he := HE2.out k hlt
          have HX : Hid (e2B h k = false → G = false) := fun h => HN2.out k hlt h
          have HX2 : Hid (e2B h k = true → ∀ j, j < k + 1 → e2B h j = true) := fun h j hj => by
            rcases Nat.lt_succ_iff_lt_or_eq.1 hj with h2 | h2
            · exact HA2.out j h2
            · subst h2; exact h
          have hk0 : (0 : Int) ≤ (k : Int) := by omega
          have hk1 : (k : Int) < (h.ps.length : Int) := by omega
          have HCT : Hid (¬ h.ps[k].size = 0 → (ldL h.ps 2 (allS h))[k] = (cntS h 2 (k : Int) : Nat)) := fun hz => ldL_cnt hlt hz
          generalize (ldL h.ps 2 (allS h))[k] = lv at *
          generalize cntS h 2 (k : Int) = ct at *
          generalize h.ps[k] = tx at *
          clear hc hc2 xr hv2
          by_cases hz : tx.size = 0
          · have htr : e2B h k = true := by rw [he, decide_eq_true hz]; rfl
            have HYY : Hid _ := HX2.out htr
            have hbe := ba_empty hz
            rw [hbe] at d1
            clear he htr hz hbe
            go_wp2
            exact ⟨⟨k + 1, hlt, by simp, HYY.out, trivial⟩, by simp [intOf]; omega⟩
          · obtain ⟨hie, hne⟩ := ba_ne hz
            have hlv := HCT.out hz
            by_cases hc0 : ct = 1
            · have htr : e2B h k = true := by rw [he, decide_eq_true hc0]; simp
              have HYY : Hid _ := HX2.out htr
              subst hc0
              subst hlv
              clear he htr hz
              go_wp2
              exact ⟨⟨k + 1, hlt, by simp, HYY.out, trivial⟩, by simp [intOf]; omega⟩
            · have hfa : e2B h k = false := by rw [he, decide_eq_false hz, decide_eq_false hc0]; rfl
              have hg0 := HX.out hfa
              subst hg0
              have hlb : (lv == 1) = false := beq_eq_false_iff_ne.2 (by omega)
              have hlc2 : (lv != 1) = true := bne_iff_ne.2 (by omega)
              clear he hz hlv hfa
              go_wp2
              go_ret
              exact ⟨rfl, HZ2.out⟩
        · obtain rfl : k = h.ps.length := by omega
          have hg := HYS.out HA.out HA2.out
          subst hg
          go_wp2
          go_ret
          exact ⟨rfl, HZ2.out⟩
end Go.Proofs.Ytomfbiiegcmmlab
