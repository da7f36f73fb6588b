import Derived.Test.YtomfbiiegcmmlaaMq6
import Derived.Test.YtomfbiiegcmmlaaIdxSL
namespace Go.Proofs.Ytomfbiiegcmmlaa
open Go.ChangeShapes Go.WideShapes Go.ChangeAt Go.RowKit

set_option maxRecDepth 100000
/-- A slot that stands for a cell of its own. -/
def owB (h : MH) (y : SL) : Bool := ltB h.cs 1 y && decide (cntS h 1 y.pos = 1)
theorem ltB_cnt {h : MH} {y : SL} (hb : ltB h.cs 1 y = true) : ∃ (p : Nat) (hp : p < (ldL h.cs 1 (allS h)).length), y.pos = p ∧ (ldL h.cs 1 (allS h))[p] = (cntS h 1 y.pos : Nat) := by
  obtain ⟨p, hp, hl⟩ := ltB_pos hb
  refine ⟨p, by rw [ldL_len]; exact hl, hp, ?_⟩
  rw [hp]
  refine ldL_cnt hl ?_
  unfold ltB at hb
  rw [hp, inB_at hl, Bool.and_eq_true] at hb
  exact of_decide_eq_true hb.2
set_option maxHeartbeats 8000000 in
theorem ownsCell_any {w : World} {B : Nat} {h : MH} {a : HA} (hQ : QH w B h a) (hlc : h.cs.length ≤ 1048576) (y : SL) {lv : Value} (hI : Irow w lv (ldL h.cs 1 (allS h))) : Calls Try.prog 144 #[.pointer (some ⟨B, 0, none⟩), slA y, lv] w fun e w' => e = .returned (.bool (owB h y)) ∧ Below w.heap.size w w' := by
  obtain ⟨al, kl, el⟩ := hQ.row.cs.sl
  obtain ⟨am, km, em⟩ := hQ.row.ps.sl
  obtain ⟨ac, kc, ec⟩ := hQ.row.mg.sl
  obtain ⟨vc, vp, vg, qs⟩ := a
  simp only at el em ec
  subst el em ec
  obtain ⟨an, kn, en⟩ := hI.sl
  rw [ldL_len] at en
  subst en
  have HB0 : Hid (Below w.heap.size w (w.alloc (.cells #[.int .i64 y.kind, .int .i64 y.pos, .int .i64 y.used] 99))) := (Below.refl _ _).alloc (Nat.le_refl _) _
  have HS0 : Hid (SB (w.alloc (.cells #[.int .i64 y.kind, .int .i64 y.pos, .int .i64 y.used] 99)) w.heap.size y) := SB.new _ _ _
  have HQ0 : Hid (QH (w.alloc (.cells #[.int .i64 y.kind, .int .i64 y.pos, .int .i64 y.used] 99)) B h ⟨.slice al h.cs.length kl, .slice am h.ps.length km, .slice ac qs.length kc, qs⟩) := hQ.below HB0.out
  have HI0 : Hid (Irow (w.alloc (.cells #[.int .i64 y.kind, .int .i64 y.pos, .int .i64 y.used] 99)) (.slice an h.cs.length kn) (ldL h.cs 1 (allS h))) := hI.below HB0.out
  obtain ⟨G, hG⟩ : ∃ G, owB h y = G := ⟨_, rfl⟩
  rw [hG]
  unfold owB at hG
  have HG : Hid ((ltB h.cs 1 y && decide (cntS h 1 y.pos = 1)) = G) := hG
  have HCN : Hid (ltB h.cs 1 y = true → ∃ (p : Nat) (hp : p < (ldL h.cs 1 (allS h)).length), y.pos = p ∧ (ldL h.cs 1 (allS h))[p] = (cntS h 1 y.pos : Nat)) := fun hb => ltB_cnt hb
  clear hQ hG hI
  unfold slA
  go_enter Try.func144, Try.ntmps144
  go_upto_region 1 with fail
  generalize (w.alloc (.cells #[.int .i64 y.kind, .int .i64 y.pos, .int .i64 y.used] 99)) = W0 at *
  obtain ⟨b, hb⟩ : ∃ b, w.heap.size = b := ⟨_, rfl⟩
  rw [hb] at HS0 ⊢
  clear hb
  have HBD : Hid (Below W0.heap.size W0 W0.drew) := (Below.refl _ _).drew
  have HLC : Hid (Calls Try.prog 113 #[.agg #[.int .i64 1, .slice al h.cs.length kl], .agg #[.int .i64 y.kind, .int .i64 y.pos, .int .i64 y.used]] W0.drew fun e w' => e = .returned (.bool (ltB h.cs 1 y)) ∧ Below W0.drew.heap.size W0.drew w') := ledTo_cellNo (HQ0.out.below HBD.out).row.cs hlc 1 y
  have HWR : Hid (∀ u, Below W0.heap.size W0 u → Below w.heap.size w u) := fun u hu => HB0.out.trans (hu.mono HB0.out.size)
  cases hlt : ltB h.cs 1 y with
  | false =>
    rw [hlt] at HLC
    have hg : G = false := by rw [← HG.out, hlt]; rfl
    subst hg
    have HSS : Hid (∀ u, Below W0.heap.size W0 u → QH u B h ⟨.slice al h.cs.length kl, .slice am h.ps.length km, .slice ac qs.length kc, qs⟩ ∧ SB u b y) := fun u hu => ⟨HQ0.out.below hu, HS0.out.below hu⟩
    clear HQ0 HS0 HB0 hlt HCN HG
    refine wp_region_held (S := fun w9 => QH w9 B h ⟨.slice al h.cs.length kl, .slice am h.ps.length km, .slice ac qs.length kc, qs⟩ ∧ SB w9 b y) (by kernel_rfl) ?_
    change wpAnyH _ _ _ _ _ _ _ _ (World.drew _)
    refine wpAnyH_take (i := 0) (v := .pointer (some ⟨B, 0, none⟩)) rfl (by kernel_rfl) (by kernel_rfl) (by kernel_rfl) (fun _ _ _ h => h) (Or.inl ⟨by kernel_rfl, fun w9 h9 => ?_⟩) (HSS.out _ HBD.out) ?_
    · go_simp
    refine wpAnyH_take (i := 1) (v := .pointer (some ⟨B, 0, none⟩)) rfl (by kernel_rfl) (by kernel_rfl) (by kernel_rfl) (fun _ _ _ h => h) (Or.inl ⟨by kernel_rfl, fun w9 h9 => ?_⟩) (HSS.out _ HBD.out) ?_
    · go_simp
    refine wpAnyH_take (i := 2) (v := .pointer (some ⟨B, 0, none⟩)) rfl (by kernel_rfl) (by kernel_rfl) (by kernel_rfl) (fun _ _ _ h => h) (Or.inl ⟨by kernel_rfl, fun w9 h9 => ?_⟩) (HSS.out _ HBD.out) ?_
    · go_simp
    refine wpAnyH_take (i := 3) (v := .agg #[.int .i64 1, .slice al h.cs.length kl]) rfl (by kernel_rfl) (by kernel_rfl) (by kernel_rfl) (fun _ _ _ h => h) (Or.inl ⟨by kernel_rfl, fun w9 h9 => ?_⟩) (HSS.out _ HBD.out) ?_
    · obtain ⟨⟨y9, x0, x1, x2, x3, x4, x5, _⟩, ⟨z9, z0, z1, z2⟩⟩ := h9; simp only at x1 x3 x4; go_simp
    refine wpAnyH_take (i := 4) (v := .agg #[.int .i64 y.kind, .int .i64 y.pos, .int .i64 y.used]) rfl (by kernel_rfl) (by kernel_rfl) (by kernel_rfl) (fun _ _ _ h => h) (Or.inl ⟨by kernel_rfl, fun w9 h9 => ?_⟩) (HSS.out _ HBD.out) ?_
    · obtain ⟨⟨y9, x0, x1, x2, x3, x4, x5, _⟩, ⟨z9, z0, z1, z2⟩⟩ := h9; simp only at x1 x3 x4; go_simp
    refine held_one 5 (by kernel_rfl) rfl (by kernel_rfl) fun K hK => ?_
    go_simp
    go_wp2_with (go_at_call 113; refine Calls.mono HLC.out ?_; rintro e v1 ⟨rfl, hu⟩; have HV1 : Hid (Below W0.heap.size W0 v1) := HBD.out.trans (hu.mono HBD.out.size); clear hu)
    refine hK _ _ (HSS.out _ HV1.out) ?_
    clear hK K
    refine wpAnyH_take (i := 6) (v := .bool false) rfl (by kernel_rfl) (by kernel_rfl) (by kernel_rfl) (fun _ _ _ h => h) (Or.inl ⟨by kernel_rfl, fun w9 h9 => ?_⟩) (HSS.out _ HV1.out) ?_
    · go_simp
    refine wpAnyH_take (i := 7) (v := undef) rfl (by kernel_rfl) (by kernel_rfl) (by kernel_rfl) (fun _ _ _ h => h) (Or.inr ⟨by kernel_rfl, rfl⟩) (HSS.out _ HV1.out) ?_
    refine wpAnyH_take (i := 8) (v := undef) rfl (by kernel_rfl) (by kernel_rfl) (by kernel_rfl) (fun _ _ _ h => h) (Or.inr ⟨by kernel_rfl, rfl⟩) (HSS.out _ HV1.out) ?_
    refine wpAnyH_take (i := 9) (v := undef) rfl (by kernel_rfl) (by kernel_rfl) (by kernel_rfl) (fun _ _ _ h => h) (Or.inr ⟨by kernel_rfl, rfl⟩) (HSS.out _ HV1.out) ?_
    refine wpAnyH_take (i := 10) (v := undef) rfl (by kernel_rfl) (by kernel_rfl) (by kernel_rfl) (fun _ _ _ h => h) (Or.inr ⟨by kernel_rfl, rfl⟩) (HSS.out _ HV1.out) ?_
    refine wpAnyH_take (i := 11) (v := undef) rfl (by kernel_rfl) (by kernel_rfl) (by kernel_rfl) (fun _ _ _ h => h) (Or.inr ⟨by kernel_rfl, rfl⟩) (HSS.out _ HV1.out) ?_
    refine wpAnyH_take (i := 12) (v := undef) rfl (by kernel_rfl) (by kernel_rfl) (by kernel_rfl) (fun _ _ _ h => h) (Or.inr ⟨by kernel_rfl, rfl⟩) (HSS.out _ HV1.out) ?_
    refine wpAnyH_take (i := 13) (v := .bool false) rfl (by kernel_rfl) (by kernel_rfl) (by kernel_rfl) (fun _ _ _ h => h) (Or.inl ⟨by kernel_rfl, fun w9 h9 => ?_⟩) (HSS.out _ HV1.out) ?_
    · go_simp
    refine wpAnyH_take (i := 14) (v := .bool false) rfl (by kernel_rfl) (by kernel_rfl) (by kernel_rfl) (fun _ _ _ h => h) (Or.inl ⟨by kernel_rfl, fun w9 h9 => ?_⟩) (HSS.out _ HV1.out) ?_
    · go_simp
    refine wpAnyH_done (by kernel_rfl) ?_ _
    go_simp
    go_wp2
    go_ret
    exact ⟨rfl, HWR.out _ HV1.out⟩
  | true =>
    rw [hlt] at HLC
    obtain ⟨p, hp, hyp, hcn⟩ := HCN.out hlt
    have hg : decide (cntS h 1 y.pos = 1) = G := by rw [← HG.out, hlt, Bool.true_and]
    obtain ⟨gL, oL, capL, hvL, _, hgL, hcL⟩ := HI0.out.resolve_left (fun h => by rw [h.1] at hp; simp at hp)
    rw [ldL_len] at hvL
    injection hvL with hv1 hv2 hv3
    subst hv1 hv3
    have d0 := hcL p hp
    rw [hcn] at d0
    have HCL : Hid (∀ u, Below W0.heap.size W0 u → u.cell? ⟨gL, oL + p, none⟩ = some (.int .i64 (cntS h 1 y.pos : Nat))) := fun u hu => ((bcell hu).1 gL (oL + p) hgL).trans d0
    have hp0 : (0 : Int) ≤ (p : Int) := by omega
    have hp1 : (p : Int) < (h.cs.length : Int) := by rw [ldL_len] at hp; omega
    generalize cntS h 1 y.pos = ct at *
    have HYP : Hid (∀ u, SB u b y → u.cell? ⟨b, 1, none⟩ = some (.int .i64 (p : Nat))) := fun u hu => by
      have := hu.c1
      rw [hyp] at this
      exact this
    rw [hyp] at HLC
    have HSS : Hid (∀ u, Below W0.heap.size W0 u → QH u B h ⟨.slice al h.cs.length kl, .slice am h.ps.length km, .slice ac qs.length kc, qs⟩ ∧ (b < u.heap.size ∧ u.cell? ⟨b, 0, none⟩ = some (.int .i64 y.kind) ∧ u.cell? ⟨b, 1, none⟩ = some (.int .i64 (p : Nat)) ∧ u.cell? ⟨b, 2, none⟩ = some (.int .i64 y.used)) ∧ gL < u.heap.size ∧ u.cell? ⟨gL, oL + p, none⟩ = some (.int .i64 (ct : Nat))) := fun u hu => ⟨HQ0.out.below hu, ⟨(HS0.out.below hu).lt, (HS0.out.below hu).c0, HYP.out u (HS0.out.below hu), (HS0.out.below hu).c2⟩, Nat.lt_of_lt_of_le hgL hu.size, HCL.out u hu⟩
    clear HQ0 HS0 HB0 hlt HCN HG hcL hcn d0 hv2 hp HI0 hyp
    have HGG : Hid (decide (ct = 1) = G) := hg
    clear hg
    by_cases hc1 : ct = 1
    · rw [decide_eq_true hc1] at HGG
      subst hc1
      refine wp_region_held (S := fun w9 => QH w9 B h ⟨.slice al h.cs.length kl, .slice am h.ps.length km, .slice ac qs.length kc, qs⟩ ∧ (b < w9.heap.size ∧ w9.cell? ⟨b, 0, none⟩ = some (.int .i64 y.kind) ∧ w9.cell? ⟨b, 1, none⟩ = some (.int .i64 (p : Nat)) ∧ w9.cell? ⟨b, 2, none⟩ = some (.int .i64 y.used)) ∧ gL < w9.heap.size ∧ w9.cell? ⟨gL, oL + p, none⟩ = some (.int .i64 ((1 : Nat) : Int))) (by kernel_rfl) ?_
      change wpAnyH _ _ _ _ _ _ _ _ (World.drew _)
      refine wpAnyH_take (i := 0) (v := .pointer (some ⟨B, 0, none⟩)) rfl (by kernel_rfl) (by kernel_rfl) (by kernel_rfl) (fun _ _ _ h => h) (Or.inl ⟨by kernel_rfl, fun w9 h9 => ?_⟩) (HSS.out _ HBD.out) ?_
      · go_simp
      refine wpAnyH_take (i := 1) (v := .pointer (some ⟨B, 0, none⟩)) rfl (by kernel_rfl) (by kernel_rfl) (by kernel_rfl) (fun _ _ _ h => h) (Or.inl ⟨by kernel_rfl, fun w9 h9 => ?_⟩) (HSS.out _ HBD.out) ?_
      · go_simp
      refine wpAnyH_take (i := 2) (v := .pointer (some ⟨B, 0, none⟩)) rfl (by kernel_rfl) (by kernel_rfl) (by kernel_rfl) (fun _ _ _ h => h) (Or.inl ⟨by kernel_rfl, fun w9 h9 => ?_⟩) (HSS.out _ HBD.out) ?_
      · go_simp
      refine wpAnyH_take (i := 3) (v := .agg #[.int .i64 1, .slice al h.cs.length kl]) rfl (by kernel_rfl) (by kernel_rfl) (by kernel_rfl) (fun _ _ _ h => h) (Or.inl ⟨by kernel_rfl, fun w9 h9 => ?_⟩) (HSS.out _ HBD.out) ?_
      · obtain ⟨⟨y9, x0, x1, x2, x3, x4, x5, _⟩, ⟨z9, z0, z1, z2⟩, q9, q0⟩ := h9; simp only at x1 x3 x4; go_simp
      refine wpAnyH_take (i := 4) (v := .agg #[.int .i64 y.kind, .int .i64 (p : Nat), .int .i64 y.used]) rfl (by kernel_rfl) (by kernel_rfl) (by kernel_rfl) (fun _ _ _ h => h) (Or.inl ⟨by kernel_rfl, fun w9 h9 => ?_⟩) (HSS.out _ HBD.out) ?_
      · obtain ⟨⟨y9, x0, x1, x2, x3, x4, x5, _⟩, ⟨z9, z0, z1, z2⟩, q9, q0⟩ := h9; simp only at x1 x3 x4; go_simp
      refine held_one 5 (by kernel_rfl) rfl (by kernel_rfl) fun K hK => ?_
      go_simp
      go_wp2_with (go_at_call 113; refine Calls.mono HLC.out ?_; rintro e v1 ⟨rfl, hu⟩; have HV1 : Hid (Below W0.heap.size W0 v1) := HBD.out.trans (hu.mono HBD.out.size); clear hu)
      refine hK _ _ (HSS.out _ HV1.out) ?_
      clear hK K
      refine wpAnyH_take (i := 6) (v := .bool true) rfl (by kernel_rfl) (by kernel_rfl) (by kernel_rfl) (fun _ _ _ h => h) (Or.inl ⟨by kernel_rfl, fun w9 h9 => ?_⟩) (HSS.out _ HV1.out) ?_
      · go_simp
      refine wpAnyH_take (i := 7) (v := .slice (some ⟨gL, oL, none⟩) h.cs.length kn) rfl (by kernel_rfl) (by kernel_rfl) (by kernel_rfl) (fun _ _ _ h => h) (Or.inl ⟨by kernel_rfl, fun w9 h9 => ?_⟩) (HSS.out _ HV1.out) ?_
      · go_simp
      refine wpAnyH_take (i := 8) (v := .pointer (some ⟨b, 1, none⟩)) rfl (by kernel_rfl) (by kernel_rfl) (by kernel_rfl) (fun _ _ _ h => h) (Or.inl ⟨by kernel_rfl, fun w9 h9 => ?_⟩) (HSS.out _ HV1.out) ?_
      · go_simp
      refine wpAnyH_take (i := 9) (v := .int .i64 (p : Nat)) rfl (by kernel_rfl) (by kernel_rfl) (by kernel_rfl) (fun _ _ _ h => h) (Or.inl ⟨by kernel_rfl, fun w9 h9 => ?_⟩) (HSS.out _ HV1.out) ?_
      · obtain ⟨⟨y9, x0, x1, x2, x3, x4, x5, _⟩, ⟨z9, z0, z1, z2⟩, q9, q0⟩ := h9; simp only at x1 x3 x4; go_simp
      refine wpAnyH_take (i := 10) (v := .pointer (some ⟨gL, oL + p, none⟩)) rfl (by kernel_rfl) (by kernel_rfl) (by kernel_rfl) (fun _ _ _ h => h) (Or.inl ⟨by kernel_rfl, fun w9 h9 => ?_⟩) (HSS.out _ HV1.out) ?_
      · go_simp
      refine wpAnyH_take (i := 11) (v := .int .i64 ((1 : Nat) : Int)) rfl (by kernel_rfl) (by kernel_rfl) (by kernel_rfl) (fun _ _ _ h => h) (Or.inl ⟨by kernel_rfl, fun w9 h9 => ?_⟩) (HSS.out _ HV1.out) ?_
      · obtain ⟨⟨y9, x0, x1, x2, x3, x4, x5, _⟩, ⟨z9, z0, z1, z2⟩, q9, q0⟩ := h9; simp only at x1 x3 x4; go_simp
      refine wpAnyH_take (i := 12) (v := .bool true) rfl (by kernel_rfl) (by kernel_rfl) (by kernel_rfl) (fun _ _ _ h => h) (Or.inl ⟨by kernel_rfl, fun w9 h9 => ?_⟩) (HSS.out _ HV1.out) ?_
      · go_simp
      refine wpAnyH_take (i := 13) (v := .bool true) rfl (by kernel_rfl) (by kernel_rfl) (by kernel_rfl) (fun _ _ _ h => h) (Or.inl ⟨by kernel_rfl, fun w9 h9 => ?_⟩) (HSS.out _ HV1.out) ?_
      · go_simp
      refine wpAnyH_take (i := 14) (v := .bool true) rfl (by kernel_rfl) (by kernel_rfl) (by kernel_rfl) (fun _ _ _ h => h) (Or.inl ⟨by kernel_rfl, fun w9 h9 => ?_⟩) (HSS.out _ HV1.out) ?_
      · go_simp
      refine wpAnyH_done (by kernel_rfl) ?_ _
      go_simp
      go_wp2
      go_ret
      exact ⟨ret_bool HGG.out, HWR.out _ HV1.out⟩
    · rw [decide_eq_false hc1] at HGG
      have hcb : (((ct : Nat) : Int) == 1) = false := beq_eq_false_iff_ne.2 (by omega)
      have hcj : ¬ ((ct : Nat) : Int) = 1 := by omega
      refine wp_region_held (S := fun w9 => QH w9 B h ⟨.slice al h.cs.length kl, .slice am h.ps.length km, .slice ac qs.length kc, qs⟩ ∧ (b < w9.heap.size ∧ w9.cell? ⟨b, 0, none⟩ = some (.int .i64 y.kind) ∧ w9.cell? ⟨b, 1, none⟩ = some (.int .i64 (p : Nat)) ∧ w9.cell? ⟨b, 2, none⟩ = some (.int .i64 y.used)) ∧ gL < w9.heap.size ∧ w9.cell? ⟨gL, oL + p, none⟩ = some (.int .i64 (ct : Nat))) (by kernel_rfl) ?_
      change wpAnyH _ _ _ _ _ _ _ _ (World.drew _)
      refine wpAnyH_take (i := 0) (v := .pointer (some ⟨B, 0, none⟩)) rfl (by kernel_rfl) (by kernel_rfl) (by kernel_rfl) (fun _ _ _ h => h) (Or.inl ⟨by kernel_rfl, fun w9 h9 => ?_⟩) (HSS.out _ HBD.out) ?_
      · go_simp
      refine wpAnyH_take (i := 1) (v := .pointer (some ⟨B, 0, none⟩)) rfl (by kernel_rfl) (by kernel_rfl) (by kernel_rfl) (fun _ _ _ h => h) (Or.inl ⟨by kernel_rfl, fun w9 h9 => ?_⟩) (HSS.out _ HBD.out) ?_
      · go_simp
      refine wpAnyH_take (i := 2) (v := .pointer (some ⟨B, 0, none⟩)) rfl (by kernel_rfl) (by kernel_rfl) (by kernel_rfl) (fun _ _ _ h => h) (Or.inl ⟨by kernel_rfl, fun w9 h9 => ?_⟩) (HSS.out _ HBD.out) ?_
      · go_simp
      refine wpAnyH_take (i := 3) (v := .agg #[.int .i64 1, .slice al h.cs.length kl]) rfl (by kernel_rfl) (by kernel_rfl) (by kernel_rfl) (fun _ _ _ h => h) (Or.inl ⟨by kernel_rfl, fun w9 h9 => ?_⟩) (HSS.out _ HBD.out) ?_
      · obtain ⟨⟨y9, x0, x1, x2, x3, x4, x5, _⟩, ⟨z9, z0, z1, z2⟩, q9, q0⟩ := h9; simp only at x1 x3 x4; go_simp
      refine wpAnyH_take (i := 4) (v := .agg #[.int .i64 y.kind, .int .i64 (p : Nat), .int .i64 y.used]) rfl (by kernel_rfl) (by kernel_rfl) (by kernel_rfl) (fun _ _ _ h => h) (Or.inl ⟨by kernel_rfl, fun w9 h9 => ?_⟩) (HSS.out _ HBD.out) ?_
      · obtain ⟨⟨y9, x0, x1, x2, x3, x4, x5, _⟩, ⟨z9, z0, z1, z2⟩, q9, q0⟩ := h9; simp only at x1 x3 x4; go_simp
      refine held_one 5 (by kernel_rfl) rfl (by kernel_rfl) fun K hK => ?_
      go_simp
      go_wp2_with (go_at_call 113; refine Calls.mono HLC.out ?_; rintro e v1 ⟨rfl, hu⟩; have HV1 : Hid (Below W0.heap.size W0 v1) := HBD.out.trans (hu.mono HBD.out.size); clear hu)
      refine hK _ _ (HSS.out _ HV1.out) ?_
      clear hK K
      refine wpAnyH_take (i := 6) (v := .bool true) rfl (by kernel_rfl) (by kernel_rfl) (by kernel_rfl) (fun _ _ _ h => h) (Or.inl ⟨by kernel_rfl, fun w9 h9 => ?_⟩) (HSS.out _ HV1.out) ?_
      · go_simp
      refine wpAnyH_take (i := 7) (v := .slice (some ⟨gL, oL, none⟩) h.cs.length kn) rfl (by kernel_rfl) (by kernel_rfl) (by kernel_rfl) (fun _ _ _ h => h) (Or.inl ⟨by kernel_rfl, fun w9 h9 => ?_⟩) (HSS.out _ HV1.out) ?_
      · go_simp
      refine wpAnyH_take (i := 8) (v := .pointer (some ⟨b, 1, none⟩)) rfl (by kernel_rfl) (by kernel_rfl) (by kernel_rfl) (fun _ _ _ h => h) (Or.inl ⟨by kernel_rfl, fun w9 h9 => ?_⟩) (HSS.out _ HV1.out) ?_
      · go_simp
      refine wpAnyH_take (i := 9) (v := .int .i64 (p : Nat)) rfl (by kernel_rfl) (by kernel_rfl) (by kernel_rfl) (fun _ _ _ h => h) (Or.inl ⟨by kernel_rfl, fun w9 h9 => ?_⟩) (HSS.out _ HV1.out) ?_
      · obtain ⟨⟨y9, x0, x1, x2, x3, x4, x5, _⟩, ⟨z9, z0, z1, z2⟩, q9, q0⟩ := h9; simp only at x1 x3 x4; go_simp
      refine wpAnyH_take (i := 10) (v := .pointer (some ⟨gL, oL + p, none⟩)) rfl (by kernel_rfl) (by kernel_rfl) (by kernel_rfl) (fun _ _ _ h => h) (Or.inl ⟨by kernel_rfl, fun w9 h9 => ?_⟩) (HSS.out _ HV1.out) ?_
      · go_simp
      refine wpAnyH_take (i := 11) (v := .int .i64 (ct : Nat)) rfl (by kernel_rfl) (by kernel_rfl) (by kernel_rfl) (fun _ _ _ h => h) (Or.inl ⟨by kernel_rfl, fun w9 h9 => ?_⟩) (HSS.out _ HV1.out) ?_
      · obtain ⟨⟨y9, x0, x1, x2, x3, x4, x5, _⟩, ⟨z9, z0, z1, z2⟩, q9, q0⟩ := h9; simp only at x1 x3 x4; go_simp
      refine wpAnyH_take (i := 12) (v := .bool false) rfl (by kernel_rfl) (by kernel_rfl) (by kernel_rfl) (fun _ _ _ h => h) (Or.inl ⟨by kernel_rfl, fun w9 h9 => ?_⟩) (HSS.out _ HV1.out) ?_
      · go_simp
      refine wpAnyH_take (i := 13) (v := .bool false) rfl (by kernel_rfl) (by kernel_rfl) (by kernel_rfl) (fun _ _ _ h => h) (Or.inl ⟨by kernel_rfl, fun w9 h9 => ?_⟩) (HSS.out _ HV1.out) ?_
      · go_simp
      refine wpAnyH_take (i := 14) (v := .bool false) rfl (by kernel_rfl) (by kernel_rfl) (by kernel_rfl) (fun _ _ _ h => h) (Or.inl ⟨by kernel_rfl, fun w9 h9 => ?_⟩) (HSS.out _ HV1.out) ?_
      · go_simp
      refine wpAnyH_done (by kernel_rfl) ?_ _
      go_simp
      go_wp2
      go_ret
      exact ⟨ret_bool HGG.out, HWR.out _ HV1.out⟩
end Go.Proofs.Ytomfbiiegcmmlaa
