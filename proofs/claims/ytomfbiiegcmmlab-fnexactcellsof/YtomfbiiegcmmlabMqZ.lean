import Derived.Test.YtomfbiiegcmmlabMq6
import Derived.Test.YtomfbiiegcmmlabIdxSL
import Derived.Test.YtomfbiiegcmmlabMh7
import Derived.Test.YtomfbiiegcmmlabHl
import Derived.Test.YtomfbiiegcmmlabMf6
namespace Go.Proofs.Ytomfbiiegcmmlab
open Go.ChangeShapes Go.WideShapes Go.ChangeAt Go.RowKit

set_option maxRecDepth 100000
/-- A slot that stands for a cell of its own. -/
def owB (h : MH) (y : SL) : Bool := ltB h.cs 1 y && decide (cntS h 1 y.pos = 1)
theorem ltB_cnt {h : MH} {y : SL} (hb : ltB h.cs 1 y = true) : ∃ (p : Nat) (hp : p < (ldL h.cs 1 (allS h)).length), y.pos = p ∧ (ldL h.cs 1 (allS h))[p] = (cntS h 1 y.pos : Nat) := by
  obtain ⟨p, hp, hl⟩ := ltB_pos hb
  refine ⟨p, by rw [ldL_len]; exact hl, hp, ?_⟩
  rw [hp]
  refine ldL_cnt hl ?_
  unfold ltB at hb
  rw [hp, inB_at hl, Bool.and_eq_true] at hb
  exact of_decide_eq_true hb.2
set_option maxHeartbeats 8000000 in
theorem ownsCell_any {w : World} {B : Nat} {h : MH} {a : HA} (hQ : QH w B h a) (hlc : h.cs.length ≤ 1048576) (y : SL) {lv : Value} (hI : Irow w lv (ldL h.cs 1 (allS h))) : Calls Try.prog 166 #[.pointer (some ⟨B, 0, none⟩), slA y, lv] w fun e w' => e = .returned (.bool (owB h y)) ∧ Below w.heap.size w w' := by
  obtain ⟨al, kl, el⟩ := hQ.row.cs.sl
  obtain ⟨am, km, em⟩ := hQ.row.ps.sl
  obtain ⟨ac, kc, ec⟩ := hQ.row.mg.sl
  obtain ⟨vc, vp, vg, qs⟩ := a
  simp only at el em ec
  subst el em ec
  obtain ⟨an, kn, en⟩ := hI.sl
  rw [ldL_len] at en
  subst en
  have HB0 : Hid (Below w.heap.size w (w.alloc (.cells #[.int .i64 y.kind, .int .i64 y.pos, .int .i64 y.used] 70))) := (Below.refl _ _).alloc (Nat.le_refl _) _
  have HS0 : Hid (SB (w.alloc (.cells #[.int .i64 y.kind, .int .i64 y.pos, .int .i64 y.used] 70)) w.heap.size y) := SB.new _ _ _
  have HQ0 : Hid (QH (w.alloc (.cells #[.int .i64 y.kind, .int .i64 y.pos, .int .i64 y.used] 70)) B h ⟨.slice al h.cs.length kl, .slice am h.ps.length km, .slice ac qs.length kc, qs⟩) := hQ.below HB0.out
  have HI0 : Hid (Irow (w.alloc (.cells #[.int .i64 y.kind, .int .i64 y.pos, .int .i64 y.used] 70)) (.slice an h.cs.length kn) (ldL h.cs 1 (allS h))) := hI.below HB0.out
  obtain ⟨G, hG⟩ : ∃ G, owB h y = G := ⟨_, rfl⟩
  rw [hG]
  unfold owB at hG
  have HG : Hid ((ltB h.cs 1 y && decide (cntS h 1 y.pos = 1)) = G) := hG
  have HCN : Hid (ltB h.cs 1 y = true → ∃ (p : Nat) (hp : p < (ldL h.cs 1 (allS h)).length), y.pos = p ∧ (ldL h.cs 1 (allS h))[p] = (cntS h 1 y.pos : Nat)) := fun hb => ltB_cnt hb
  clear hQ hG hI
  unfold slA
  go_enter Try.func166, Try.ntmps166
  go_upto_region 1 with fail
  generalize (w.alloc (.cells #[.int .i64 y.kind, .int .i64 y.pos, .int .i64 y.used] 70)) = W0 at *
  obtain ⟨b, hb⟩ : ∃ b, w.heap.size = b := ⟨_, rfl⟩
  rw [hb] at HS0 ⊢
  clear hb
  have HBD : Hid (Below W0.heap.size W0 W0.drew) := (Below.refl _ _).drew
  have HLC : Hid (Calls Try.prog 136 #[.agg #[.int .i64 1, .slice al h.cs.length kl], .agg #[.int .i64 y.kind, .int .i64 y.pos, .int .i64 y.used]] W0.drew fun e w' => e = .returned (.bool (ltB h.cs 1 y)) ∧ Below W0.drew.heap.size W0.drew w') := ledTo_cellNo (HQ0.out.below HBD.out).row.cs hlc 1 y
  have HWR : Hid (∀ u, Below W0.heap.size W0 u → Below w.heap.size w u) := fun u hu => HB0.out.trans (hu.mono HB0.out.size)
  cases hlt : ltB h.cs 1 y with
  | false =>
    rw [hlt] at HLC
    have hg : G = false := by rw [← HG.out, hlt]; rfl
    subst hg
    have HSS : Hid (∀ u, Below W0.heap.size W0 u → QH u B h ⟨.slice al h.cs.length kl, .slice am h.ps.length km, .slice ac qs.length kc, qs⟩ ∧ SB u b y) := fun u hu => ⟨HQ0.out.below hu, HS0.out.below hu⟩
    clear HQ0 HS0 HB0 hlt HCN HG
    refine wp_region_held (S := fun w9 => QH w9 B h ⟨.slice al h.cs.length kl, .slice am h.ps.length km, .slice ac qs.length kc, qs⟩ ∧ SB w9 b y) (by kernel_rfl) ?_
    change wpAnyH _ _ _ _ _ _ _ _ (World.drew _)
    refine wpAnyH_take (i := 0) (v := .pointer (some ⟨B, 0, none⟩)) rfl (by kernel_rfl) (by kernel_rfl) (by kernel_rfl) (fun _ _ _ h => h) (Or.inl ⟨by kernel_rfl, fun w9 h9 => ?_⟩) (HSS.out _ HBD.out) ?_
    · go_simp
    refine wpAnyH_take (i := 1) (v := .pointer (some ⟨B, 0, none⟩)) rfl (by kernel_rfl) (by kernel_rfl) (by kernel_rfl) (fun _ _ _ h => h) (Or.inl ⟨by kernel_rfl, fun w9 h9 => ?_⟩) (HSS.out _ HBD.out) ?_
    · go_simp
    refine wpAnyH_take (i := 2) (v := .pointer (some ⟨B, 0, none⟩)) rfl (by kernel_rfl) (by kernel_rfl) (by kernel_rfl) (fun _ _ _ h => h) (Or.inl ⟨by kernel_rfl, fun w9 h9 => ?_⟩) (HSS.out _ HBD.out) ?_
    · go_simp
    refine wpAnyH_take (i := 3) (v := .agg #[.int .i64 1, .slice al h.cs.length kl]) rfl (by kernel_rfl) (by kernel_rfl) (by kernel_rfl) (fun _ _ _ h => h) (Or.inl ⟨by kernel_rfl, fun w9 h9 => ?_⟩) (HSS.out _ HBD.out) ?_
    · obtain ⟨⟨y9, x0, x1, x2, x3, x4, x5, _⟩, ⟨z9, z0, z1, z2⟩⟩ := h9; simp only at x1 x3 x4; go_simp
    refine wpAnyH_take (i := 4) (v := .agg #[.int .i64 y.kind, .int .i64 y.pos, .int .i64 y.used]) rfl (by kernel_rfl) (by kernel_rfl) (by kernel_rfl) (fun _ _ _ h => h) (Or.inl ⟨by kernel_rfl, fun w9 h9 => ?_⟩) (HSS.out _ HBD.out) ?_
    · obtain ⟨⟨y9, x0, x1, x2, x3, x4, x5, _⟩, ⟨z9, z0, z1, z2⟩⟩ := h9; simp only at x1 x3 x4; go_simp
    refine held_one 5 (by kernel_rfl) rfl (by kernel_rfl) fun K hK => ?_
    go_simp
    go_wp2_with (go_at_call 136; refine Calls.mono HLC.out ?_; rintro e v1 ⟨rfl, hu⟩; have HV1 : Hid (Below W0.heap.size W0 v1) := HBD.out.trans (hu.mono HBD.out.size); clear hu)
    refine hK _ _ (HSS.out _ HV1.out) ?_
    clear hK K
    refine wpAnyH_take (i := 6) (v := .bool false) rfl (by kernel_rfl) (by kernel_rfl) (by kernel_rfl) (fun _ _ _ h => h) (Or.inl ⟨by kernel_rfl, fun w9 h9 => ?_⟩) (HSS.out _ HV1.out) ?_
    · go_simp
    refine wpAnyH_take (i := 7) (v := undef) rfl (by kernel_rfl) (by kernel_rfl) (by kernel_rfl) (fun _ _ _ h => h) (Or.inr ⟨by kernel_rfl, rfl⟩) (HSS.out _ HV1.out) ?_
    refine wpAnyH_take (i := 8) (v := undef) rfl (by kernel_rfl) (by kernel_rfl) (by kernel_rfl) (fun _ _ _ h => h) (Or.inr ⟨by kernel_rfl, rfl⟩) (HSS.out _ HV1.out) ?_
    refine wpAnyH_take (i := 9) (v := undef) rfl (by kernel_rfl) (by kernel_rfl) (by kernel_rfl) (fun _ _ _ h => h) (Or.inr ⟨by kernel_rfl, rfl⟩) (HSS.out _ HV1.out) ?_
    refine wpAnyH_take (i := 10) (v := undef) rfl (by kernel_rfl) (by kernel_rfl) (by kernel_rfl) (fun _ _ _ h => h) (Or.inr ⟨by kernel_rfl, rfl⟩) (HSS.out _ HV1.out) ?_
    refine wpAnyH_take (i := 11) (v := undef) rfl (by kernel_rfl) (by kernel_rfl) (by kernel_rfl) (fun _ _ _ h => h) (Or.inr ⟨by kernel_rfl, rfl⟩) (HSS.out _ HV1.out) ?_
    refine wpAnyH_take (i := 12) (v := undef) rfl (by kernel_rfl) (by kernel_rfl) (by kernel_rfl) (fun _ _ _ h => h) (Or.inr ⟨by kernel_rfl, rfl⟩) (HSS.out _ HV1.out) ?_
    refine wpAnyH_take (i := 13) (v := .bool false) rfl (by kernel_rfl) (by kernel_rfl) (by kernel_rfl) (fun _ _ _ h => h) (Or.inl ⟨by kernel_rfl, fun w9 h9 => ?_⟩) (HSS.out _ HV1.out) ?_
    · go_simp
    refine wpAnyH_take (i := 14) (v := .bool false) rfl (by kernel_rfl) (by kernel_rfl) (by kernel_rfl) (fun _ _ _ h => h) (Or.inl ⟨by kernel_rfl, fun w9 h9 => ?_⟩) (HSS.out _ HV1.out) ?_
    · go_simp
    refine wpAnyH_done (by kernel_rfl) ?_ _
    go_simp
    go_wp2
    go_ret
    exact ⟨rfl, HWR.out _ HV1.out⟩
  | true =>
    rw [hlt] at HLC
    obtain ⟨p, hp, hyp, hcn⟩ := HCN.out hlt
    have hg : decide (cntS h 1 y.pos = 1) = G := by rw [← HG.out, hlt, Bool.true_and]
    obtain ⟨gL, oL, capL, hvL, _, hgL, hcL⟩ := HI0.out.resolve_left (fun h => by rw [h.1] at hp; simp at hp)
    rw [ldL_len] at hvL
    injection hvL with hv1 hv2 hv3
    subst hv1 hv3
    have d0 := hcL p hp
    rw [hcn] at d0
    have HCL : Hid (∀ u, Below W0.heap.size W0 u → u.cell? ⟨gL, oL + p, none⟩ = some (.int .i64 (cntS h 1 y.pos : Nat))) := fun u hu => ((bcell hu).1 gL (oL + p) hgL).trans d0
    have hp0 : (0 : Int) ≤ (p : Int) := by omega
    have hp1 : (p : Int) < (h.cs.length : Int) := by rw [ldL_len] at hp; omega
    generalize cntS h 1 y.pos = ct at *
    have HYP : Hid (∀ u, SB u b y → u.cell? ⟨b, 1, none⟩ = some (.int .i64 (p : Nat))) := fun u hu => by
      have := hu.c1
      rw [hyp] at this
      exact this
    rw [hyp] at HLC
    have HSS : Hid (∀ u, Below W0.heap.size W0 u → QH u B h ⟨.slice al h.cs.length kl, .slice am h.ps.length km, .slice ac qs.length kc, qs⟩ ∧ (b < u.heap.size ∧ u.cell? ⟨b, 0, none⟩ = some (.int .i64 y.kind) ∧ u.cell? ⟨b, 1, none⟩ = some (.int .i64 (p : Nat)) ∧ u.cell? ⟨b, 2, none⟩ = some (.int .i64 y.used)) ∧ gL < u.heap.size ∧ u.cell? ⟨gL, oL + p, none⟩ = some (.int .i64 (ct : Nat))) := fun u hu => ⟨HQ0.out.below hu, ⟨(HS0.out.below hu).lt, (HS0.out.below hu).c0, HYP.out u (HS0.out.below hu), (HS0.out.below hu).c2⟩, Nat.lt_of_lt_of_le hgL hu.size, HCL.out u hu⟩
    clear HQ0 HS0 HB0 hlt HCN HG hcL hcn d0 hv2 hp HI0 hyp
    have HGG : Hid (decide (ct = 1) = G) := hg
    clear hg
    by_cases hc1 : ct = 1
    · rw [decide_eq_true hc1] at HGG
      subst hc1
      refine wp_region_held (S := fun w9 => QH w9 B h ⟨.slice al h.cs.length kl, .slice am h.ps.length km, .slice ac qs.length kc, qs⟩ ∧ (b < w9.heap.size ∧ w9.cell? ⟨b, 0, none⟩ = some (.int .i64 y.kind) ∧ w9.cell? ⟨b, 1, none⟩ = some (.int .i64 (p : Nat)) ∧ w9.cell? ⟨b, 2, none⟩ = some (.int .i64 y.used)) ∧ gL < w9.heap.size ∧ w9.cell? ⟨gL, oL + p, none⟩ = some (.int .i64 ((1 : Nat) : Int))) (by kernel_rfl) ?_
      change wpAnyH _ _ _ _ _ _ _ _ (World.drew _)
      refine wpAnyH_take (i := 0) (v := .pointer (some ⟨B, 0, none⟩)) rfl (by kernel_rfl) (by kernel_rfl) (by kernel_rfl) (fun _ _ _ h => h) (Or.inl ⟨by kernel_rfl, fun w9 h9 => ?_⟩) (HSS.out _ HBD.out) ?_
      · go_simp
      refine wpAnyH_take (i := 1) (v := .pointer (some ⟨B, 0, none⟩)) rfl (by kernel_rfl) (by kernel_rfl) (by kernel_rfl) (fun _ _ _ h => h) (Or.inl ⟨by kernel_rfl, fun w9 h9 => ?_⟩) (HSS.out _ HBD.out) ?_
      · go_simp
      refine wpAnyH_take (i := 2) (v := .pointer (some ⟨B, 0, none⟩)) rfl (by kernel_rfl) (by kernel_rfl) (by kernel_rfl) (fun _ _ _ h => h) (Or.inl ⟨by kernel_rfl, fun w9 h9 => ?_⟩) (HSS.out _ HBD.out) ?_
      · go_simp
      refine wpAnyH_take (i := 3) (v := .agg #[.int .i64 1, .slice al h.cs.length kl]) rfl (by kernel_rfl) (by kernel_rfl) (by kernel_rfl) (fun _ _ _ h => h) (Or.inl ⟨by kernel_rfl, fun w9 h9 => ?_⟩) (HSS.out _ HBD.out) ?_
      · obtain ⟨⟨y9, x0, x1, x2, x3, x4, x5, _⟩, ⟨z9, z0, z1, z2⟩, q9, q0⟩ := h9; simp only at x1 x3 x4; go_simp
      refine wpAnyH_take (i := 4) (v := .agg #[.int .i64 y.kind, .int .i64 (p : Nat), .int .i64 y.used]) rfl (by kernel_rfl) (by kernel_rfl) (by kernel_rfl) (fun _ _ _ h => h) (Or.inl ⟨by kernel_rfl, fun w9 h9 => ?_⟩) (HSS.out _ HBD.out) ?_
      · obtain ⟨⟨y9, x0, x1, x2, x3, x4, x5, _⟩, ⟨z9, z0, z1, z2⟩, q9, q0⟩ := h9; simp only at x1 x3 x4; go_simp
      refine held_one 5 (by kernel_rfl) rfl (by kernel_rfl) fun K hK => ?_
      go_simp
      go_wp2_with (go_at_call 136; refine Calls.mono HLC.out ?_; rintro e v1 ⟨rfl, hu⟩; have HV1 : Hid (Below W0.heap.size W0 v1) := HBD.out.trans (hu.mono HBD.out.size); clear hu)
      refine hK _ _ (HSS.out _ HV1.out) ?_
      clear hK K
      refine wpAnyH_take (i := 6) (v := .bool true) rfl (by kernel_rfl) (by kernel_rfl) (by kernel_rfl) (fun _ _ _ h => h) (Or.inl ⟨by kernel_rfl, fun w9 h9 => ?_⟩) (HSS.out _ HV1.out) ?_
      · go_simp
      refine wpAnyH_take (i := 7) (v := .slice (some ⟨gL, oL, none⟩) h.cs.length kn) rfl (by kernel_rfl) (by kernel_rfl) (by kernel_rfl) (fun _ _ _ h => h) (Or.inl ⟨by kernel_rfl, fun w9 h9 => ?_⟩) (HSS.out _ HV1.out) ?_
      · go_simp
      refine wpAnyH_take (i := 8) (v := .pointer (some ⟨b, 1, none⟩)) rfl (by kernel_rfl) (by kernel_rfl) (by kernel_rfl) (fun _ _ _ h => h) (Or.inl ⟨by kernel_rfl, fun w9 h9 => ?_⟩) (HSS.out _ HV1.out) ?_
      · go_simp
      refine wpAnyH_take (i := 9) (v := .int .i64 (p : Nat)) rfl (by kernel_rfl) (by kernel_rfl) (by kernel_rfl) (fun _ _ _ h => h) (Or.inl ⟨by kernel_rfl, fun w9 h9 => ?_⟩) (HSS.out _ HV1.out) ?_
      · obtain ⟨⟨y9, x0, x1, x2, x3, x4, x5, _⟩, ⟨z9, z0, z1, z2⟩, q9, q0⟩ := h9; simp only at x1 x3 x4; go_simp
      refine wpAnyH_take (i := 10) (v := .pointer (some ⟨gL, oL + p, none⟩)) rfl (by kernel_rfl) (by kernel_rfl) (by kernel_rfl) (fun _ _ _ h => h) (Or.inl ⟨by kernel_rfl, fun w9 h9 => ?_⟩) (HSS.out _ HV1.out) ?_
      · go_simp
      refine wpAnyH_take (i := 11) (v := .int .i64 ((1 : Nat) : Int)) rfl (by kernel_rfl) (by kernel_rfl) (by kernel_rfl) (fun _ _ _ h => h) (Or.inl ⟨by kernel_rfl, fun w9 h9 => ?_⟩) (HSS.out _ HV1.out) ?_
      · obtain ⟨⟨y9, x0, x1, x2, x3, x4, x5, _⟩, ⟨z9, z0, z1, z2⟩, q9, q0⟩ := h9; simp only at x1 x3 x4; go_simp
      refine wpAnyH_take (i := 12) (v := .bool true) rfl (by kernel_rfl) (by kernel_rfl) (by kernel_rfl) (fun _ _ _ h => h) (Or.inl ⟨by kernel_rfl, fun w9 h9 => ?_⟩) (HSS.out _ HV1.out) ?_
      · go_simp
      refine wpAnyH_take (i := 13) (v := .bool true) rfl (by kernel_rfl) (by kernel_rfl) (by kernel_rfl) (fun _ _ _ h => h) (Or.inl ⟨by kernel_rfl, fun w9 h9 => ?_⟩) (HSS.out _ HV1.out) ?_
      · go_simp
      refine wpAnyH_take (i := 14) (v := .bool true) rfl (by kernel_rfl) (by kernel_rfl) (by kernel_rfl) (fun _ _ _ h => h) (Or.inl ⟨by kernel_rfl, fun w9 h9 => ?_⟩) (HSS.out _ HV1.out) ?_
      · go_simp
      refine wpAnyH_done (by kernel_rfl) ?_ _
      go_simp
      go_wp2
      go_ret
      exact ⟨ret_bool HGG.out, HWR.out _ HV1.out⟩
    · rw [decide_eq_false hc1] at HGG
      have hcb : (((ct : Nat) : Int) == 1) = false := beq_eq_false_iff_ne.2 (by omega)
      have hcj : ¬ ((ct : Nat) : Int) = 1 := by omega
      refine wp_region_held (S := fun w9 => QH w9 B h ⟨.slice al h.cs.length kl, .slice am h.ps.length km, .slice ac qs.length kc, qs⟩ ∧ (b < w9.heap.size ∧ w9.cell? ⟨b, 0, none⟩ = some (.int .i64 y.kind) ∧ w9.cell? ⟨b, 1, none⟩ = some (.int .i64 (p : Nat)) ∧ w9.cell? ⟨b, 2, none⟩ = some (.int .i64 y.used)) ∧ gL < w9.heap.size ∧ w9.cell? ⟨gL, oL + p, none⟩ = some (.int .i64 (ct : Nat))) (by kernel_rfl) ?_
      change wpAnyH _ _ _ _ _ _ _ _ (World.drew _)
      refine wpAnyH_take (i := 0) (v := .pointer (some ⟨B, 0, none⟩)) rfl (by kernel_rfl) (by kernel_rfl) (by kernel_rfl) (fun _ _ _ h => h) (Or.inl ⟨by kernel_rfl, fun w9 h9 => ?_⟩) (HSS.out _ HBD.out) ?_
      · go_simp
      refine wpAnyH_take (i := 1) (v := .pointer (some ⟨B, 0, none⟩)) rfl (by kernel_rfl) (by kernel_rfl) (by kernel_rfl) (fun _ _ _ h => h) (Or.inl ⟨by kernel_rfl, fun w9 h9 => ?_⟩) (HSS.out _ HBD.out) ?_
      · go_simp
      refine wpAnyH_take (i := 2) (v := .pointer (some ⟨B, 0, none⟩)) rfl (by kernel_rfl) (by kernel_rfl) (by kernel_rfl) (fun _ _ _ h => h) (Or.inl ⟨by kernel_rfl, fun w9 h9 => ?_⟩) (HSS.out _ HBD.out) ?_
      · go_simp
      refine wpAnyH_take (i := 3) (v := .agg #[.int .i64 1, .slice al h.cs.length kl]) rfl (by kernel_rfl) (by kernel_rfl) (by kernel_rfl) (fun _ _ _ h => h) (Or.inl ⟨by kernel_rfl, fun w9 h9 => ?_⟩) (HSS.out _ HBD.out) ?_
      · obtain ⟨⟨y9, x0, x1, x2, x3, x4, x5, _⟩, ⟨z9, z0, z1, z2⟩, q9, q0⟩ := h9; simp only at x1 x3 x4; go_simp
      refine wpAnyH_take (i := 4) (v := .agg #[.int .i64 y.kind, .int .i64 (p : Nat), .int .i64 y.used]) rfl (by kernel_rfl) (by kernel_rfl) (by kernel_rfl) (fun _ _ _ h => h) (Or.inl ⟨by kernel_rfl, fun w9 h9 => ?_⟩) (HSS.out _ HBD.out) ?_
      · obtain ⟨⟨y9, x0, x1, x2, x3, x4, x5, _⟩, ⟨z9, z0, z1, z2⟩, q9, q0⟩ := h9; simp only at x1 x3 x4; go_simp
      refine held_one 5 (by kernel_rfl) rfl (by kernel_rfl) fun K hK => ?_
      go_simp
      go_wp2_with (go_at_call 136; refine Calls.mono HLC.out ?_; rintro e v1 ⟨rfl, hu⟩; have HV1 : Hid (Below W0.heap.size W0 v1) := HBD.out.trans (hu.mono HBD.out.size); clear hu)
      refine hK _ _ (HSS.out _ HV1.out) ?_
      clear hK K
      refine wpAnyH_take (i := 6) (v := .bool true) rfl (by kernel_rfl) (by kernel_rfl) (by kernel_rfl) (fun _ _ _ h => h) (Or.inl ⟨by kernel_rfl, fun w9 h9 => ?_⟩) (HSS.out _ HV1.out) ?_
      · go_simp
      refine wpAnyH_take (i := 7) (v := .slice (some ⟨gL, oL, none⟩) h.cs.length kn) rfl (by kernel_rfl) (by kernel_rfl) (by kernel_rfl) (fun _ _ _ h => h) (Or.inl ⟨by kernel_rfl, fun w9 h9 => ?_⟩) (HSS.out _ HV1.out) ?_
      · go_simp
      refine wpAnyH_take (i := 8) (v := .pointer (some ⟨b, 1, none⟩)) rfl (by kernel_rfl) (by kernel_rfl) (by kernel_rfl) (fun _ _ _ h => h) (Or.inl ⟨by kernel_rfl, fun w9 h9 => ?_⟩) (HSS.out _ HV1.out) ?_
      · go_simp
      refine wpAnyH_take (i := 9) (v := .int .i64 (p : Nat)) rfl (by kernel_rfl) (by kernel_rfl) (by kernel_rfl) (fun _ _ _ h => h) (Or.inl ⟨by kernel_rfl, fun w9 h9 => ?_⟩) (HSS.out _ HV1.out) ?_
      · obtain ⟨⟨y9, x0, x1, x2, x3, x4, x5, _⟩, ⟨z9, z0, z1, z2⟩, q9, q0⟩ := h9; simp only at x1 x3 x4; go_simp
      refine wpAnyH_take (i := 10) (v := .pointer (some ⟨gL, oL + p, none⟩)) rfl (by kernel_rfl) (by kernel_rfl) (by kernel_rfl) (fun _ _ _ h => h) (Or.inl ⟨by kernel_rfl, fun w9 h9 => ?_⟩) (HSS.out _ HV1.out) ?_
      · go_simp
      refine wpAnyH_take (i := 11) (v := .int .i64 (ct : Nat)) rfl (by kernel_rfl) (by kernel_rfl) (by kernel_rfl) (fun _ _ _ h => h) (Or.inl ⟨by kernel_rfl, fun w9 h9 => ?_⟩) (HSS.out _ HV1.out) ?_
      · obtain ⟨⟨y9, x0, x1, x2, x3, x4, x5, _⟩, ⟨z9, z0, z1, z2⟩, q9, q0⟩ := h9; simp only at x1 x3 x4; go_simp
      refine wpAnyH_take (i := 12) (v := .bool false) rfl (by kernel_rfl) (by kernel_rfl) (by kernel_rfl) (fun _ _ _ h => h) (Or.inl ⟨by kernel_rfl, fun w9 h9 => ?_⟩) (HSS.out _ HV1.out) ?_
      · go_simp
      refine wpAnyH_take (i := 13) (v := .bool false) rfl (by kernel_rfl) (by kernel_rfl) (by kernel_rfl) (fun _ _ _ h => h) (Or.inl ⟨by kernel_rfl, fun w9 h9 => ?_⟩) (HSS.out _ HV1.out) ?_
      · go_simp
      refine wpAnyH_take (i := 14) (v := .bool false) rfl (by kernel_rfl) (by kernel_rfl) (by kernel_rfl) (fun _ _ _ h => h) (Or.inl ⟨by kernel_rfl, fun w9 h9 => ?_⟩) (HSS.out _ HV1.out) ?_
      · go_simp
      refine wpAnyH_done (by kernel_rfl) ?_ _
      go_simp
      go_wp2
      go_ret
      exact ⟨ret_bool HGG.out, HWR.out _ HV1.out⟩

set_option maxRecDepth 100000
set_option maxHeartbeats 4000000 in
theorem notOwn_any {w : World} {B b3 b5 : Nat} {h : MH} {a : HA} (hQ : QH w B h a) (hlc : h.cs.length ≤ 1048576) (y : SL) {an : Option Addr} {nn kn : Nat} (hI : Irow w (.slice an nn kn) (ldL h.cs 1 (allS h))) (l3 : b3 < w.heap.size) (l5 : b5 < w.heap.size) (h3 : w.cell? ⟨b3, 0, none⟩ = some (.pointer (some ⟨B, 0, none⟩))) (h5 : w.cell? ⟨b5, 0, none⟩ = some (.slice an nn kn)) : Calls Try.prog 165 #[.agg #[.int .i64 y.kind, .int .i64 y.pos, .int .i64 y.used], .pointer (some ⟨b3, 0, none⟩), .pointer (some ⟨b5, 0, none⟩)] w fun e w' => e = .returned (.bool (!owB h y)) ∧ Below w.heap.size w w' := by
  have HB0 : Hid (Below w.heap.size w (w.alloc (.cells #[.int .i64 y.kind, .int .i64 y.pos, .int .i64 y.used] 70))) := (Below.refl _ _).alloc (Nat.le_refl _) _
  have HC : Hid (Calls Try.prog 166 #[.pointer (some ⟨B, 0, none⟩), .agg #[.int .i64 y.kind, .int .i64 y.pos, .int .i64 y.used], .slice an nn kn] (w.alloc (.cells #[.int .i64 y.kind, .int .i64 y.pos, .int .i64 y.used] 70)) fun e w' => e = .returned (.bool (owB h y)) ∧ Below (w.alloc (.cells #[.int .i64 y.kind, .int .i64 y.pos, .int .i64 y.used] 70)).heap.size (w.alloc (.cells #[.int .i64 y.kind, .int .i64 y.pos, .int .i64 y.used] 70)) w') := ownsCell_any (hQ.below HB0.out) hlc y (hI.below HB0.out)
  clear hQ hI
  generalize owB h y = G at *
  go_enter Try.func165, Try.ntmps165
  go_wp2_with (go_at_call 166; refine Calls.mono HC.out ?_; rintro e u1 ⟨rfl, hu⟩; have HU : Hid (Below w.heap.size w u1) := HB0.out.trans (hu.mono HB0.out.size); clear hu)
  go_ret
  exact ⟨rfl, HU.out⟩
set_option maxHeartbeats 4000000 in
theorem ownCells_any {w : World} {B : Nat} {h : MH} {a : HA} (hQ : QH w B h a) (hlc : h.cs.length ≤ 1048576) {sv : Value} {ss : List SL} (hs : SLrow w sv ss) (hsl : ss.length ≤ 1048576) {lv : Value} (hI : Irow w lv (ldL h.cs 1 (allS h))) : Calls Try.prog 158 #[.pointer (some ⟨B, 0, none⟩), sv, lv] w fun e w' => e = .returned (.bool (ss.all (owB h))) ∧ Below w.heap.size w w' := by
  obtain ⟨an, kn, rfl⟩ := hI.sl
  obtain ⟨ao, cap, rfl⟩ := hs.sl
  obtain ⟨W, hW⟩ : ∃ W, W = ((w.alloc (.cells #[.pointer (some ⟨B, 0, none⟩)] 73)).alloc (.cells #[.slice an (ldL h.cs 1 (allS h)).length kn] 65)) := ⟨_, rfl⟩
  have hB : Below w.heap.size w W := by rw [hW]; exact ((Below.refl _ _).alloc (Nat.le_refl _) _).alloc (by simp) _
  have hsz : W.heap.size = w.heap.size + 2 := by rw [hW]; simp
  have b3 : W.heap[w.heap.size]? = some (.cells #[.pointer (some ⟨B, 0, none⟩)] 73) := by rw [hW, Below.heap_alloc _ _ _ (by simp)]; exact heap_new _ _
  have b5 : W.heap[w.heap.size + 1]? = some (.cells #[.slice an (ldL h.cs 1 (allS h)).length kn] 65) := by rw [hW]; simpa using heap_new (w.alloc (.cells #[.pointer (some ⟨B, 0, none⟩)] 73)) (.cells #[.slice an (ldL h.cs 1 (allS h)).length kn] 65)
  have c3 : W.cell? ⟨w.heap.size, 0, none⟩ = some (.pointer (some ⟨B, 0, none⟩)) := by simp only [World.cell?, b3]; rfl
  have c5 : W.cell? ⟨w.heap.size + 1, 0, none⟩ = some (.slice an (ldL h.cs 1 (allS h)).length kn) := by simp only [World.cell?, b5]; rfl
  have HC : Hid _ := containsSL_any (hs.below hB) hsl 165 #[.pointer (some ⟨w.heap.size, 0, none⟩), .pointer (some ⟨w.heap.size + 1, 0, none⟩)] (fun x => !owB h x) (fun xs w' => by kernel_rfl) (fun x w' hb => notOwn_any ((hQ.below hB).below hb) hlc x ((hI.below hB).below hb) (by have := hb.size; omega) (by have := hb.size; omega) (((bcell hb).1 w.heap.size 0 (by omega)).trans c3) (((bcell hb).1 (w.heap.size + 1) 0 (by omega)).trans c5))
  have e0 : ss.any (fun x => !owB h x) = !ss.all (owB h) := by rw [List.not_all_eq_any_not]
  rw [e0] at HC
  have HB : Hid (Below w.heap.size w W) := hB
  generalize ss.all (owB h) = G at *
  clear hQ hs hI hB b3 b5 c3 c5 e0 hsz
  subst hW
  go_enter Try.func158, Try.ntmps158
  go_wp2_with (go_at_call 164; refine Calls.mono HC.out ?_; rintro e u1 ⟨rfl, hu⟩; have HU : Hid (Below w.heap.size w u1) := HB.out.trans (hu.mono HB.out.size); clear hu)
  go_ret
  exact ⟨ret_bool (by simp), HU.out⟩
/-- A guest has a group of that number. -/
def hgB (n : Nat) (x : Int) : Bool := decide (0 ≤ x ∧ (x + 1) * 4 ≤ (n : Int))
set_option maxHeartbeats 4000000 in
theorem hasGroup_any {w : World} {g o n : Nat} {as1 : Option Addr} {ks : Nat} (hc : w.cell? ⟨g, o, none⟩ = some (.slice as1 n ks)) (hn : n ≤ 32) (x : Int) : Calls Try.prog 138 #[.pointer (some ⟨g, o, none⟩), .int .i64 x] w fun e w' => e = .returned (.bool (hgB n x)) ∧ Below w.heap.size w w' := by
  unfold hgB
  by_cases h0 : 0 ≤ x
  · obtain ⟨q, hq⟩ : ∃ q : Nat, n / 4 = q := ⟨_, rfl⟩
    have hqi : ((n : Int)).tdiv 4 = (q : Int) := by rw [Int.tdiv_eq_ediv_of_nonneg (by omega)]; omega
    have hqe : ((n : Int)) / 4 = (q : Int) := by omega
    have HQ : Hid (decide (0 ≤ x ∧ (x + 1) * 4 ≤ (n : Int)) = decide (x < (q : Int))) := (show _ = _ from decide_eq_decide.2 (by omega))
    rw [HQ.out]
    clear hq
    go_enter Try.func138, Try.ntmps138
    go_wp2
    go_ret
    exact ⟨rfl, Below.refl _ _⟩
  · rw [decide_eq_false (by omega)]
    go_enter Try.func138, Try.ntmps138
    go_wp2
    go_ret
    exact ⟨rfl, Below.refl _ _⟩
set_option maxHeartbeats 4000000 in
theorem group_any {w : World} {g o n : Nat} {g2 o2 ks : Nat} (hc : w.cell? ⟨g, o, none⟩ = some (.slice (some ⟨g2, o2, none⟩) n ks)) (hn : n ≤ 32) (hk : n ≤ ks) (N : Nat) (hN : (N + 1) * 4 ≤ n) : Calls Try.prog 140 #[.pointer (some ⟨g, o, none⟩), .int .i64 (N : Nat)] w fun e w' => e = .returned (.slice (some ⟨g2, o2 + N * 4 * 3, none⟩) 4 (ks - N * 4)) ∧ w' = w := by
  obtain ⟨M, hM⟩ : ∃ M : Nat, N * 4 = M := ⟨_, rfl⟩
  obtain ⟨N1, hN1⟩ : ∃ N1 : Nat, N + 1 = N1 := ⟨_, rfl⟩
  have h1 : ((N : Nat) : Int) * 4 = (M : Int) := by omega
  have h2 : ((N : Nat) : Int) + 1 = (N1 : Int) := by omega
  have h3 : ((N1 : Nat) : Int) * 4 = ((M + 4 : Nat) : Int) := by omega
  have hN8 : N ≤ 8 := by omega
  have hN18 : N1 ≤ 9 := by omega
  have hM32 : M ≤ 32 := by omega
  have hMk : M + 4 ≤ ks := by omega
  obtain ⟨M4, hM4⟩ : ∃ M4 : Nat, M + 4 = M4 := ⟨_, rfl⟩
  rw [hM4] at h3 hMk
  have q1 : (0 : Int) ≤ (M : Int) := by omega
  have q2 : (M : Int) ≤ (M4 : Int) := by omega
  have q3 : (M4 : Int) ≤ (ks : Int) := by omega
  have q4 : M ≤ M4 := by omega
  have HE : Hid (M4 - M = 4) := (show M4 - M = 4 by omega)
  rw [hM]
  clear hM hN1 hN hM4
  go_enter Try.func140, Try.ntmps140
  go_wp2
  go_ret
  exact ⟨by rw [HE.out]; rfl, rfl⟩

set_option maxRecDepth 100000
/-- A slot follows upon the first one. -/
def eqK (ss : List SL) (k : Nat) : Bool := (ss.getD k sZ0).pos == IntKind.i64.wrap ((ss.getD 0 sZ0).pos + (k : Int))
/-- Four slots may be a huge group. -/
def mbB (h : MH) (ss : List SL) : Bool := (List.range 4).all (eqK ss) && (((ss.getD 0 sZ0).pos.tmod 4 == 0) && ss.all (owB h))
set_option maxHeartbeats 8000000 in
theorem mayBeHuge_any {w : World} {B : Nat} {h : MH} {a : HA} (hQ : QH w B h a) (hlc : h.cs.length ≤ 1048576) {g2 o2 k2 : Nat} {ss : List SL} (hs : SLrow w (.slice (some ⟨g2, o2, none⟩) 4 k2) ss) (hss : ss.length = 4) {lv : Value} (hI : Irow w lv (ldL h.cs 1 (allS h))) : Calls Try.prog 139 #[.pointer (some ⟨B, 0, none⟩), .slice (some ⟨g2, o2, none⟩) 4 k2, lv] w fun e w' => e = .returned (.bool (mbB h ss)) ∧ Below w.heap.size w w' := by
  obtain ⟨an, kn, rfl⟩ := hI.sl
  have HOC : Hid (∀ u, Below w.heap.size w u → Calls Try.prog 158 #[.pointer (some ⟨B, 0, none⟩), .slice (some ⟨g2, o2, none⟩) 4 k2, .slice an (ldL h.cs 1 (allS h)).length kn] u fun e w' => e = .returned (.bool (ss.all (owB h))) ∧ Below u.heap.size u w') := fun u hu => ownCells_any (hQ.below hu) hlc (hs.below hu) (by omega) (hI.below hu)
  obtain ⟨g3, o3, cap3, hv, _, hg, hc⟩ := hs.resolve_left (fun h => by rw [h.1] at hss; simp at hss)
  injection hv with hv1 hv2 hv3
  injection hv1 with hv4
  injection hv4 with hv5 hv6
  subst hv5 hv6 hv3
  have HCC : Hid (∀ u k (hk : k < ss.length), Below w.heap.size w u → u.cell? ⟨g2, o2 + k * 3, none⟩ = some (.int .i64 ss[k].kind) ∧ u.cell? ⟨g2, o2 + k * 3 + 1, none⟩ = some (.int .i64 ss[k].pos) ∧ u.cell? ⟨g2, o2 + k * 3 + 2, none⟩ = some (.int .i64 ss[k].used)) := fun u k hk hu => hc.below hu hg k hk
  obtain ⟨f, hf⟩ : ∃ f, (ss.getD 0 sZ0).pos = f := ⟨_, rfl⟩
  have hf0 : ss[0].pos = f := by rw [← hf, List.getD_eq_getElem?_getD, List.getElem?_eq_getElem (by omega), Option.getD_some]
  have d0 := (hc 0 (by omega)).2.1
  rw [hf0] at d0
  simp only [Nat.zero_mul, Nat.add_zero] at d0
  obtain ⟨G, hG⟩ : ∃ G, mbB h ss = G := ⟨_, rfl⟩
  rw [hG]
  unfold mbB at hG
  rw [hf] at hG
  have HEK : Hid (∀ k (hk : k < ss.length), eqK ss k = (ss[k].pos == IntKind.i64.wrap (f + (k : Int)))) := fun k hk => by
    unfold eqK
    rw [hf, List.getD_eq_getElem?_getD, List.getElem?_eq_getElem hk, Option.getD_some]
  have HNO : Hid (∀ k, k < 4 → eqK ss k = false → G = false) := fun k hk he => by rw [← hG, allB_no' hk he, Bool.false_and]
  have HYS : Hid ((∀ k, k < 4 → eqK ss k = true) → ((f.tmod 4 == 0) && ss.all (owB h)) = G) := fun h1 => by
    rw [← hG, List.all_eq_true.2 (fun k hk => h1 k (List.mem_range.1 hk)), Bool.true_and]
  have HSS : Hid (ss.length = 4) := hss
  generalize ss.all (owB h) = oc at *
  clear hG hf hf0 hQ hI hs hc hv2 hss
  have hb1 : (o2 + 1 : Nat) = o2 + 1 := rfl
  clear hb1
  go_enter Try.func139, Try.ntmps139
  go_wp2
  go_loopw [16] (fun i wr => ∃ k : Nat, k ≤ 4 ∧ i = .int .i64 k ∧ (∀ j, j < k → eqK ss j = true) ∧ Below w.heap.size w wr) (fun i _ => 4 - (intOf i).toNat)
  case atStart => exact ⟨0, by omega, rfl, fun j hj => absurd hj (Nat.not_lt_zero _), Below.refl _ _⟩
  case round =>
    obtain ⟨k, hk, rfl, hal, hb⟩ := hrel
    have HA : Hid (∀ j, j < k → eqK ss j = true) := hal
    have HB : Hid (Below w.heap.size w wr) := hb
    clear hal
    by_cases hlt : k < 4
    · have hkl : k < ss.length := by rw [HSS.out]; exact hlt
      obtain ⟨e0, e1, e2⟩ := HCC.out wr k hkl hb
      have he := HEK.out k hkl
      have HX : Hid (eqK ss k = false → G = false) := fun h => HNO.out k hlt h
      have HX2 : Hid (eqK ss k = true → ∀ j, j < k + 1 → eqK ss j = true) := fun h j hj => by
        rcases Nat.lt_succ_iff_lt_or_eq.1 hj with h2 | h2
        · exact HA.out j h2
        · subst h2; exact h
      have hk0 : (0 : Int) ≤ (k : Int) := by omega
      have hk1 : (k : Int) < 4 := by omega
      have hgw : g2 < wr.heap.size := Nat.lt_of_lt_of_le hg hb.size
      generalize ss[k] = y at *
      have HB2 : Hid (Below w.heap.size w (wr.alloc (.cells #[.int .i64 y.kind, .int .i64 y.pos, .int .i64 y.used] 70))) := hb.alloc hb.size _
      obtain ⟨z, hz⟩ : ∃ z, IntKind.i64.wrap (f + (k : Int)) = z := ⟨_, rfl⟩
      rw [hz] at he
      clear hb
      cases hq : (y.pos == z) with
      | true =>
        have HYY : Hid _ := HX2.out (by rw [he, hq])
        have hq2 : (y.pos != z) = false := by simp [bne, hq]
        clear he
        go_wp2
        exact ⟨⟨k + 1, by omega, by simp, HYY.out, HB2.out⟩, by simp [intOf]; omega⟩
      | false =>
        have hg0 := HX.out (by rw [he, hq])
        subst hg0
        have hq2 : (y.pos != z) = true := by simp [bne, hq]
        clear he
        go_wp2
        go_ret
        exact ⟨rfl, HB2.out⟩
    · obtain rfl : k = 4 := by omega
      have hyy := HYS.out HA.out
      obtain ⟨r, hr⟩ : ∃ r, f.tmod 4 = r := ⟨_, rfl⟩
      rw [hr] at hyy
      have HYY : Hid ((r == 0 && oc) = G) := hyy
      clear hyy
      cases hq : (r == 0) with
      | true =>
        rw [hq, Bool.true_and] at HYY
        go_wp2_with (go_at_call 158; refine Calls.mono (HOC.out _ HB.out) ?_; rintro e v1 ⟨rfl, hu⟩; have HU : Hid (Below w.heap.size w v1) := HB.out.trans (hu.mono HB.out.size); clear hu)
        go_ret
        exact ⟨ret_bool HYY.out, HU.out⟩
      | false =>
        rw [hq, Bool.false_and] at HYY
        go_wp2
        go_ret
        exact ⟨ret_bool HYY.out, HB.out⟩

set_option maxRecDepth 100000
def grp (ss : List SL) (N : Nat) : List SL := (ss.drop (N * 4)).take 4
theorem grp_len {ss : List SL} {N : Nat} (h : (N + 1) * 4 ≤ ss.length) : (grp ss N).length = 4 := by
  unfold grp
  rw [List.length_take, List.length_drop]
  omega
theorem grp_at {ss : List SL} {N : Nat} (h : (N + 1) * 4 ≤ ss.length) (k : Nat) (hk : k < (grp ss N).length) : (grp ss N)[k] = ss[N * 4 + k]'(by rw [grp_len h] at hk; omega) := by
  simp only [grp, List.getElem_take, List.getElem_drop]
theorem SLrow.sub {w : World} {g2 o2 n ks : Nat} {ss : List SL} (hs : SLrow w (.slice (some ⟨g2, o2, none⟩) n ks) ss) {N : Nat} (h : (N + 1) * 4 ≤ ss.length) : n = ss.length ∧ n ≤ ks ∧ SLrow w (.slice (some ⟨g2, o2 + N * 4 * 3, none⟩) 4 (ks - N * 4)) (grp ss N) := by
  obtain ⟨g3, o3, cap3, hv, hcap, hg, hc⟩ := hs.resolve_left (fun h2 => by rw [h2.1] at h; simp at h)
  injection hv with hv1 hv2 hv3
  injection hv1 with hv4
  injection hv4 with hv5 hv6
  subst hv5 hv6 hv3
  refine ⟨hv2, by omega, .inr ⟨g2, o2 + N * 4 * 3, ks - N * 4, by rw [grp_len h], by rw [grp_len h]; omega, hg, fun k hk => ?_⟩⟩
  have hk2 : N * 4 + k < ss.length := by rw [grp_len h] at hk; omega
  rw [grp_at h k hk]
  have := hc (N * 4 + k) hk2
  rw [show o2 + N * 4 * 3 + k * 3 = o2 + (N * 4 + k) * 3 by omega]
  exact this
/-- What is asked of the groups, one behind the other. -/
def hkB (h : MH) (ss : List SL) : Int → List Int → Bool
  | _, [] => true
  | A, x :: xs => decide (A < x) && (hgB ss.length x && (mbB h (grp ss x.toNat) && hkB h ss x xs))
set_option maxHeartbeats 8000000 in
theorem hugeRight_any {w : World} {B : Nat} {h : MH} {a : HA} (hQ : QH w B h a) (hlc : h.cs.length ≤ 1048576) {gg og : Nat} (hgl : gg < w.heap.size) {sv hv : Value} {ss : List SL} {hs : List Int} (c0 : w.cell? ⟨gg, og, none⟩ = some sv) (hsr : SLrow w sv ss) (hn : ss.length ≤ 32) (c2 : w.cell? ⟨gg, og + 2, none⟩ = some hv) (hh : Irow w hv hs) (hhl : hs.length ≤ 1048576) {lv : Value} (hI : Irow w lv (ldL h.cs 1 (allS h))) : Calls Try.prog 111 #[.pointer (some ⟨B, 0, none⟩), .pointer (some ⟨gg, og, none⟩), lv] w fun e w' => e = .returned (.bool (hkB h ss (-1) hs)) ∧ Below w.heap.size w w' := by
  obtain ⟨an, kn, rfl⟩ := hI.sl
  obtain ⟨as1, ks, rfl⟩ := hsr.sl
  obtain ⟨ah, kh, rfl⟩ := hh.sl
  have HHG : Hid (∀ u x, Below w.heap.size w u → Calls Try.prog 138 #[.pointer (some ⟨gg, og, none⟩), .int .i64 x] u fun e w' => e = .returned (.bool (hgB ss.length x)) ∧ Below u.heap.size u w') := fun u x hu => hasGroup_any (((bcell hu).1 gg og hgl).trans c0) hn x
  have HMB : Hid (∀ u (g2 o2 k2 : Nat) (zs : List SL), Below w.heap.size w u → SLrow u (.slice (some ⟨g2, o2, none⟩) 4 k2) zs → zs.length = 4 → Calls Try.prog 139 #[.pointer (some ⟨B, 0, none⟩), .slice (some ⟨g2, o2, none⟩) 4 k2, .slice an (ldL h.cs 1 (allS h)).length kn] u fun e w' => e = .returned (.bool (mbB h zs)) ∧ Below u.heap.size u w') := fun u g2 o2 k2 zs hu h1 h2 => mayBeHuge_any (hQ.below hu) hlc h1 h2 (hI.below hu)
  have HSR : Hid (SLrow w (.slice as1 ss.length ks) ss) := hsr
  have HC0 : Hid (w.cell? ⟨gg, og, none⟩ = some (.slice as1 ss.length ks)) := c0
  have HHR : Hid (Irow w (.slice ah hs.length kh) hs) := hh
  obtain ⟨G, hG⟩ : ∃ G, hkB h ss (-1) hs = G := ⟨_, rfl⟩
  rw [hG]
  have HG : Hid (hkB h ss (-1) (hs.drop 0) = G) := hG
  clear hQ hI hsr hh hG c0
  go_enter Try.func111, Try.ntmps111
  go_wp2
  go_loopw [7, 15] (fun x i wr => ∃ (k : Nat) (A : Int), k ≤ hs.length ∧ i = .int .i64 k ∧ x = .int .i64 A ∧ hkB h ss A (hs.drop k) = G ∧ Below w.heap.size w wr) (fun _ i _ => hs.length - (intOf i).toNat)
  case atStart => exact ⟨0, -1, Nat.zero_le _, rfl, rfl, HG.out, Below.refl _ _⟩
  case round =>
    obtain ⟨k, A, hk, rfl, rfl, hG, hb⟩ := hrel
    have HB : Hid (Below w.heap.size w wr) := hb
    by_cases hlt : k < hs.length
    · obtain ⟨g, o, cap2, hv, _, hg, hc⟩ := HHR.out.resolve_left (fun h => by rw [h.1] at hlt; simp at hlt)
      injection hv with hv1 hv2 hv3
      subst hv1 hv3
      have d0 := hc.below hb hg k hlt
      rw [List.drop_eq_getElem_cons hlt] at hG
      have hG2 : (decide (A < hs[k]) && (hgB ss.length hs[k] && (mbB h (grp ss hs[k].toNat) && hkB h ss hs[k] (hs.drop (k + 1))))) = G := hG
      generalize hs[k] = x at *
      have hk0 : (0 : Int) ≤ (k : Int) := by omega
      have hk1 : (k : Int) < (hs.length : Int) := by omega
      have hgw : g < wr.heap.size := Nat.lt_of_lt_of_le hg hb.size
      clear hc hv2 hb hG
      by_cases hA : A < x
      case neg =>
        rw [decide_eq_false hA, Bool.false_and] at hG2
        subst hG2
        have hAl : x ≤ A := by omega
        go_wp2
        go_ret
        exact ⟨rfl, HB.out⟩
      rw [decide_eq_true hA, Bool.true_and] at hG2
      have hAl : ¬ x ≤ A := by omega
      cases hgr : hgB ss.length x with
      | false =>
        rw [hgr, Bool.false_and] at hG2
        subst hG2
        have HH : Hid _ := HHG.out _ x HB.out
        rw [hgr] at HH
        clear hgr
        go_wp2_with (go_at_call 138; refine Calls.mono HH.out ?_; rintro e v1 ⟨rfl, hu⟩; have HV1 : Hid (Below w.heap.size w v1) := HB.out.trans (hu.mono HB.out.size); clear hu)
        go_ret
        exact ⟨rfl, HV1.out⟩
      | true =>
        rw [hgr, Bool.true_and] at hG2
        have HH : Hid _ := HHG.out _ x HB.out
        rw [hgr] at HH
        have hgg := of_decide_eq_true hgr
        obtain ⟨M, rfl⟩ : ∃ M : Nat, x = (M : Int) := ⟨x.toNat, by omega⟩
        rw [Int.toNat_natCast] at hG2
        have hM : (M + 1) * 4 ≤ ss.length := by omega
        obtain ⟨g2, o2, cap4, hv4, _, _, _⟩ := HSR.out.resolve_left (fun h2 => by rw [h2.1] at hM; simp at hM)
        injection hv4 with hw1 hw2 hw3
        subst hw1 hw3
        obtain ⟨_, hks, hsub⟩ := HSR.out.sub hM
        have HSUB : Hid (SLrow w (.slice (some ⟨g2, o2 + M * 4 * 3, none⟩) 4 (ks - M * 4)) (grp ss M)) := hsub
        have HGR : Hid (∀ u, Below w.heap.size w u → Calls Try.prog 140 #[.pointer (some ⟨gg, og, none⟩), .int .i64 (M : Nat)] u fun e w' => e = .returned (.slice (some ⟨g2, o2 + M * 4 * 3, none⟩) 4 (ks - M * 4)) ∧ w' = u) := fun u hu => group_any (((bcell hu).1 gg og hgl).trans HC0.out) hn hks M hM
        have HMM : Hid (∀ u, Below w.heap.size w u → Calls Try.prog 139 #[.pointer (some ⟨B, 0, none⟩), .slice (some ⟨g2, o2 + M * 4 * 3, none⟩) 4 (ks - M * 4), .slice an (ldL h.cs 1 (allS h)).length kn] u fun e w' => e = .returned (.bool (mbB h (grp ss M))) ∧ Below u.heap.size u w') := fun u hu => HMB.out u _ _ _ _ hu (HSUB.out.below hu) (grp_len hM)
        clear hgr hsub hw2
        generalize mbB h (grp ss M) = mb at *
        have HG2 : Hid _ := hG2
        clear hG2
        cases mb with
        | false =>
          have hg0 : G = false := HG2.out.symm
          subst hg0
          go_wp2_with (first | (go_at_call 138; refine Calls.mono HH.out ?_; rintro e v1 ⟨rfl, hu⟩; have HV1 : Hid (Below w.heap.size w v1) := HB.out.trans (hu.mono HB.out.size); clear hu) | (go_at_call 140; refine Calls.mono (HGR.out _ HV1.out) ?_; rintro e uu ⟨rfl, hu⟩; rw [hu]; clear hu) | (go_at_call 139; refine Calls.mono (HMM.out _ HV1.out) ?_; rintro e v2 ⟨rfl, hu⟩; have HV2 : Hid (Below w.heap.size w v2) := HV1.out.trans (hu.mono HV1.out.size); clear hu))
          go_ret
          exact ⟨rfl, HV2.out⟩
        | true =>
          rw [Bool.true_and] at HG2
          go_wp2_with (first | (go_at_call 138; refine Calls.mono HH.out ?_; rintro e v1 ⟨rfl, hu⟩; have HV1 : Hid (Below w.heap.size w v1) := HB.out.trans (hu.mono HB.out.size); clear hu) | (go_at_call 140; refine Calls.mono (HGR.out _ HV1.out) ?_; rintro e uu ⟨rfl, hu⟩; rw [hu]; clear hu) | (go_at_call 139; refine Calls.mono (HMM.out _ HV1.out) ?_; rintro e v2 ⟨rfl, hu⟩; have HV2 : Hid (Below w.heap.size w v2) := HV1.out.trans (hu.mono HV1.out.size); clear hu))
          exact ⟨⟨k + 1, _, hlt, by simp, rfl, HG2.out, HV2.out⟩, by simp [intOf]; omega⟩
    · obtain rfl : k = hs.length := by omega
      rw [List.drop_length] at hG
      have hg : G = true := hG.symm
      subst hg
      go_wp2
      go_ret
      exact ⟨rfl, HB.out⟩

set_option maxRecDepth 100000
def grsB (h : MH) : Bool := h.gs.all (fun g => hkB h g.ss (-1) g.hs)
set_option maxHeartbeats 8000000 in
theorem groupsRight_any {w : World} {B : Nat} {h : MH} {a : HA} (hQ : QH w B h a) (hL : HLen h) (hg8 : h.gs.length ≤ 8) (hs32 : ∀ k (hk : k < h.gs.length), h.gs[k].ss.length ≤ 32) : Calls Try.prog 74 #[.pointer (some ⟨B, 0, none⟩)] w fun e w' => e = .returned (.bool (grsB h)) ∧ Below w.heap.size w w' := by
  obtain ⟨al, kl, el⟩ := hQ.row.cs.sl
  obtain ⟨am, km, em⟩ := hQ.row.ps.sl
  obtain ⟨ac, kc, ec⟩ := hQ.row.mg.sl
  rw [hQ.row.gi.len] at ec
  obtain ⟨vc, vp, vg, qs⟩ := a
  simp only at el em ec
  subst el em ec
  have HQ : Hid (QH w B h ⟨.slice al h.cs.length kl, .slice am h.ps.length km, .slice ac h.gs.length kc, qs⟩) := hQ
  have HQU : Hid (∀ u, Below w.heap.size w u → QH u B h ⟨.slice al h.cs.length kl, .slice am h.ps.length km, .slice ac h.gs.length kc, qs⟩) := fun u hu => HQ.out.below hu
  have HBD : Hid (Below w.heap.size w w.drew) := (Below.refl _ _).drew
  have HLC : Hid (∀ u Bm, Below w.heap.size w u → Bm < u.heap.size → u.cell? ⟨Bm, 0, none⟩ = some (.pointer (some ⟨B, 0, none⟩)) → Calls Try.prog 109 #[.agg #[.int .i64 1, .slice al h.cs.length kl], .func (.func 135) #[] #[.pointer (some ⟨Bm, 0, none⟩)]] u fun r w' => (∃ v, r = .returned v ∧ Irow w' v (ldL h.cs 1 (allS h))) ∧ Below u.heap.size u w') := fun u Bm hu h1 h2 => leads_cellNo (HQ.out.below hu) hg8 hs32 (HQ.out.below hu).row.cs hL.c 1 Bm h1 h2
  obtain ⟨G, hG⟩ : ∃ G, grsB h = G := ⟨_, rfl⟩
  rw [hG]
  unfold grsB at hG
  have HNO : Hid (∀ k (hk : k < h.gs.length), hkB h h.gs[k].ss (-1) h.gs[k].hs = false → G = false) := fun k hk he => by
    rw [← hG, List.all_eq_false]
    exact ⟨_, List.getElem_mem hk, by rw [he]; decide⟩
  have HYS : Hid ((∀ k (hk : k < h.gs.length), hkB h h.gs[k].ss (-1) h.gs[k].hs = true) → G = true) := fun h1 => by
    rw [← hG, List.all_eq_true]
    intro x hx
    obtain ⟨j, hj, rfl⟩ := List.getElem_of_mem hx
    exact h1 j hj
  have HL : Hid (HLen h) := hL
  have HS32 : Hid (∀ k (hk : k < h.gs.length), h.gs[k].ss.length ≤ 32) := hs32
  clear hQ hs32 hG hL
  go_enter Try.func74, Try.ntmps74
  go_wp2_with fail
  refine wp_region_held (S := fun w9 => QH w9 B h ⟨.slice al h.cs.length kl, .slice am h.ps.length km, .slice ac h.gs.length kc, qs⟩) (by kernel_rfl) ?_
  change wpAnyH _ _ _ _ _ _ _ _ (World.drew _)
  refine wpAnyH_take (i := 0) (v := .pointer (some ⟨B, 0, none⟩)) rfl (by kernel_rfl) (by kernel_rfl) (by kernel_rfl) (fun _ _ _ h => h) (Or.inl ⟨by kernel_rfl, fun w9 h9 => ?_⟩) (HQU.out _ HBD.out) ?_
  · go_simp
  refine wpAnyH_take (i := 1) (v := .pointer (some ⟨B, 0, none⟩)) rfl (by kernel_rfl) (by kernel_rfl) (by kernel_rfl) (fun _ _ _ h => h) (Or.inl ⟨by kernel_rfl, fun w9 h9 => ?_⟩) (HQU.out _ HBD.out) ?_
  · go_simp
  refine wpAnyH_take (i := 2) (v := .pointer (some ⟨B, 0, none⟩)) rfl (by kernel_rfl) (by kernel_rfl) (by kernel_rfl) (fun _ _ _ h => h) (Or.inl ⟨by kernel_rfl, fun w9 h9 => ?_⟩) (HQU.out _ HBD.out) ?_
  · go_simp
  refine wpAnyH_take (i := 3) (v := .agg #[.int .i64 1, .slice al h.cs.length kl]) rfl (by kernel_rfl) (by kernel_rfl) (by kernel_rfl) (fun _ _ _ h => h) (Or.inl ⟨by kernel_rfl, fun w9 h9 => ?_⟩) (HQU.out _ HBD.out) ?_
  · obtain ⟨y9, x0, x1, x2, x3, x4, x5, _⟩ := h9; simp only at x1 x3 x4; go_simp
  refine wpAnyH_take (i := 4) (v := .pointer (some ⟨B, 0, none⟩)) rfl (by kernel_rfl) (by kernel_rfl) (by kernel_rfl) (fun _ _ _ h => h) (Or.inl ⟨by kernel_rfl, fun w9 h9 => ?_⟩) (HQU.out _ HBD.out) ?_
  · go_simp
  refine held_one 5 (by kernel_rfl) rfl (by kernel_rfl) fun K hK => ?_
  go_simp
  go_wp2_with (go_at_call 107; refine Calls.mono (slots_any B _) ?_; rintro e v1 ⟨⟨Bm, rfl, hbm1, hbm2⟩, hu⟩; have hv1 : Below w.heap.size w v1 := HBD.out.trans (hu.mono HBD.out.size); clear hu)
  refine hK _ _ (HQU.out _ hv1) ?_
  clear hK K
  refine held_one 6 (by kernel_rfl) rfl (by kernel_rfl) fun K hK => ?_
  go_simp
  go_wp2_with (go_at_call 109; refine Calls.mono (HLC.out _ Bm hv1 hbm1 hbm2) ?_; rintro e v2 ⟨⟨vv, rfl, hI⟩, hu⟩; obtain ⟨a9, k9, rfl⟩ := hI.sl; have hv2 : Below w.heap.size w v2 := hv1.trans (hu.mono hv1.size); rw [ldL_len] at hI; simp only [ldL_len]; clear hu)
  refine hK _ _ (HQU.out _ hv2) ?_
  clear hK K
  refine wpAnyH_take (i := 7) (v := .slice a9 h.cs.length k9) rfl (by kernel_rfl) (by kernel_rfl) (by kernel_rfl) (fun _ _ _ h => h) (Or.inl ⟨by kernel_rfl, fun w9 h9 => ?_⟩) (HQU.out _ hv2) ?_
  · go_simp
  refine wpAnyH_done (by kernel_rfl) ?_ _
  go_simp
  have HIL : Hid (Irow v2 (.slice a9 h.cs.length k9) (ldL h.cs 1 (allS h))) := hI
  have HV2 : Hid (Below w.heap.size w v2) := hv2
  obtain ⟨y9, x0, x1, x2, x3, x4, x5, _⟩ := HQU.out _ hv2
  simp only at x1 x3 x4
  clear hI hv2
  go_wp2
  go_loopw [17] (fun i wr => ∃ k : Nat, k ≤ h.gs.length ∧ i = .int .i64 k ∧ (∀ j (hj : j < h.gs.length), j < k → hkB h h.gs[j].ss (-1) h.gs[j].hs = true) ∧ Below v2.heap.size v2 wr) (fun i _ => h.gs.length - (intOf i).toNat)
  case atStart => exact ⟨0, Nat.zero_le _, rfl, fun j _ hj => absurd hj (Nat.not_lt_zero _), Below.refl _ _⟩
  case round =>
    obtain ⟨k, hk, rfl, hal, hb⟩ := hrel
    have HA : Hid (∀ j (hj : j < h.gs.length), j < k → hkB h h.gs[j].ss (-1) h.gs[j].hs = true) := hal
    have HB : Hid (Below w.heap.size w wr) := HV2.out.trans (hb.mono HV2.out.size)
    have HBV : Hid (Below v2.heap.size v2 wr) := hb
    clear hal x0 x1 x2 x3 x4 x5
    by_cases hlt : k < h.gs.length
    · have hQr := HQU.out wr HB.out
      have hkq : k < qs.length := by have := HQ.out.row.gi.len; simp only at this; omega
      obtain ⟨g, o, cap2, hv, _, hg, hc⟩ := HQ.out.row.mg.resolve_left (fun h => by simp only at h; rw [h.1] at hkq; simp at hkq)
      simp only at hv hc hkq
      injection hv with hv1 hv2 hv3
      subst hv1 hv3
      obtain ⟨e0, e1, e2⟩ := hc.below HB.out hg k hkq
      obtain ⟨d1, d2, d3⟩ := hQr.row.gi.el k hkq hlt
      simp only at d1 d2 d3
      have hgw : g < wr.heap.size := Nat.lt_of_lt_of_le hg HB.out.size
      have HHR : Hid (Calls Try.prog 111 #[.pointer (some ⟨B, 0, none⟩), .pointer (some ⟨g, o + k * 3, none⟩), .slice a9 h.cs.length k9] wr fun e w' => e = .returned (.bool (hkB h h.gs[k].ss (-1) h.gs[k].hs)) ∧ Below wr.heap.size wr w') := hugeRight_any hQr HL.out.c hgw e0 d2 (HS32.out k hlt) e2 d3 (HL.out.u k hlt) (HIL.out.below HBV.out)
      have HX : Hid (hkB h h.gs[k].ss (-1) h.gs[k].hs = false → G = false) := fun h => HNO.out k hlt h
      have HX2 : Hid (hkB h h.gs[k].ss (-1) h.gs[k].hs = true → ∀ j (hj : j < h.gs.length), j < k + 1 → hkB h h.gs[j].ss (-1) h.gs[j].hs = true) := fun h j hl hj => by
        rcases Nat.lt_succ_iff_lt_or_eq.1 hj with h2 | h2
        · exact HA.out j hl h2
        · subst h2; exact h
      obtain ⟨y9, x0, x1, x2, x3, x4, x5, _⟩ := hQr
      simp only at x1 x3 x4
      have hk0 : (0 : Int) ≤ (k : Int) := by omega
      have hk1 : (k : Int) < (h.gs.length : Int) := by omega
      generalize hkB h h.gs[k].ss (-1) h.gs[k].hs = hb2 at *
      clear hc d1 d2 d3 hv2 hb e0 e1 e2
      cases hb2 with
      | false =>
        have hg0 := HX.out rfl
        subst hg0
        go_wp2_with (go_at_call 111; refine Calls.mono HHR.out ?_; rintro e v3 ⟨rfl, hu⟩; have HV3 : Hid (Below w.heap.size w v3) := HB.out.trans (hu.mono HB.out.size); clear hu)
        go_ret
        exact ⟨rfl, HV3.out⟩
      | true =>
        have HYY : Hid _ := HX2.out rfl
        go_wp2_with (go_at_call 111; refine Calls.mono HHR.out ?_; rintro e v3 ⟨rfl, hu⟩; have HV3 : Hid (Below v2.heap.size v2 v3) := HBV.out.trans (hu.mono HBV.out.size); clear hu)
        exact ⟨⟨k + 1, hlt, by simp, HYY.out, HV3.out⟩, by simp [intOf]; omega⟩
    · obtain rfl : k = h.gs.length := by omega
      have hg := HYS.out (fun j hj => HA.out j hj hj)
      subst hg
      go_wp2
      go_ret
      exact ⟨rfl, HB.out⟩
/-- A right host, as the program asks for it. -/
def irB (h : MH) : Bool := (mtB h.cs && mtB h.ps) && (bdB h && (arB h && (eiB h && grsB h)))
theorem bdB_lens {h : MH} (x : bdB h = true) : h.gs.length ≤ 8 ∧ ∀ k (hk : k < h.gs.length), h.gs[k].ss.length ≤ 32 := by
  unfold bdB at x
  simp only [Bool.and_eq_true, decide_eq_true_eq] at x
  refine ⟨x.2.1, fun k hk => ?_⟩
  have := List.all_eq_true.1 x.2.2.2 _ (List.getElem_mem hk)
  unfold bgB at this
  simp only [Bool.and_eq_true, decide_eq_true_eq] at this
  exact this.1
set_option maxHeartbeats 8000000 in
theorem hostRight_any {w u : World} {B : Nat} {h : MH} {a : HA} (x : PH w u B h a) (hL : HLen h) : Calls Try.prog 39 #[.pointer (some ⟨B, 0, none⟩)] u fun e w' => e = .returned (.bool (irB h)) ∧ Below u.heap.size u w' := by
  have hQ := x.qh
  obtain ⟨al, kl, el⟩ := hQ.row.cs.sl
  obtain ⟨am, km, em⟩ := hQ.row.ps.sl
  obtain ⟨ac, kc, ec⟩ := hQ.row.mg.sl
  have HQ : Hid (QH u B h a) := hQ
  have HP : Hid (PH w u B h a) := x
  have HQC : Hid (∀ v, Below u.heap.size u v → v.cell? ⟨B, 0, none⟩ = some (.int .i64 1) ∧ v.cell? ⟨B, 1, none⟩ = some (.slice al h.cs.length kl) ∧ v.cell? ⟨B, 2, none⟩ = some (.int .i64 2) ∧ v.cell? ⟨B, 3, none⟩ = some (.slice am h.ps.length km) ∧ B < v.heap.size) := fun v hv => by
    have q := HQ.out.below hv
    exact ⟨q.c0, by rw [q.c1, el], q.c2, by rw [q.c3, em], q.lt⟩
  have HRC : Hid (∀ v, Below u.heap.size u v → Calls Try.prog 69 #[.agg #[.int .i64 1, .slice al h.cs.length kl]] v fun e w' => e = .returned (.bool (mtB h.cs)) ∧ Below v.heap.size v w') := fun v hv => by
    have := right_cellNo (HQ.out.below hv).row.cs hL.c 1
    rw [el] at this
    exact this
  have HRP : Hid (∀ v, Below u.heap.size u v → Calls Try.prog 70 #[.agg #[.int .i64 2, .slice am h.ps.length km]] v fun e w' => e = .returned (.bool (mtB h.ps)) ∧ Below v.heap.size v w') := fun v hv => by
    have := right_placeNo (HQ.out.below hv).row.ps hL.p 2
    rw [em] at this
    exact this
  have HBN : Hid (∀ v, Below u.heap.size u v → Calls Try.prog 71 #[.pointer (some ⟨B, 0, none⟩)] v fun e w' => e = .returned (.bool (bdB h)) ∧ Below v.heap.size v w') := fun v hv => bounded_any (HP.out.step hv) hL
  have HSR : Hid (bdB h = true → ∀ v, Below u.heap.size u v → Calls Try.prog 72 #[.pointer (some ⟨B, 0, none⟩)] v fun e w' => e = .returned (.bool (arB h)) ∧ Below v.heap.size v w') := fun hb v hv => slotsRight_any (HQ.out.below hv) hL.c hL.p (bdB_lens hb).1 (bdB_lens hb).2
  have HEL : Hid (bdB h = true → ∀ v, Below u.heap.size u v → Calls Try.prog 73 #[.pointer (some ⟨B, 0, none⟩)] v fun e w' => e = .returned (.bool (eiB h)) ∧ Below v.heap.size v w') := fun hb v hv => eachLed_any (HQ.out.below hv) hL.c hL.p (bdB_lens hb).1 (bdB_lens hb).2
  have HGR : Hid (bdB h = true → ∀ v, Below u.heap.size u v → Calls Try.prog 74 #[.pointer (some ⟨B, 0, none⟩)] v fun e w' => e = .returned (.bool (grsB h)) ∧ Below v.heap.size v w') := fun hb v hv => groupsRight_any (HQ.out.below hv) hL (bdB_lens hb).1 (bdB_lens hb).2
  obtain ⟨G, hG⟩ : ∃ G, irB h = G := ⟨_, rfl⟩
  rw [hG]
  unfold irB at hG
  obtain ⟨q0, q1, q2, q3, ql⟩ := HQC.out u (Below.refl _ _)
  clear x hQ hL el em ec HP
  generalize mtB h.cs = m1 at *
  generalize mtB h.ps = m2 at *
  generalize bdB h = bd at *
  generalize arB h = ar at *
  generalize eiB h = ei at *
  generalize grsB h = gr at *
  have HG : Hid (((m1 && m2) && (bd && (ar && (ei && gr)))) = G) := hG
  clear hG
  cases m1 with
  | false =>
    have hg : G = false := by rw [← HG.out]; simp
    subst hg
    clear HG
    go_enter Try.func39, Try.ntmps39
    go_wp2_with ((go_at_call 69; refine Calls.mono (HRC.out _ (Below.refl _ _)) ?_; rintro e n1 ⟨rfl, hu⟩; have HNn1 : Hid (Below u.heap.size u n1) := hu; have qq := HQC.out _ HNn1.out; obtain ⟨q0, q1, q2, q3, ql⟩ := qq; clear hu))
    go_ret
    exact ⟨rfl, HNn1.out⟩
  | true =>
  cases m2 with
  | false =>
    have hg : G = false := by rw [← HG.out]; simp
    subst hg
    clear HG
    go_enter Try.func39, Try.ntmps39
    go_wp2_with (first | (go_at_call 69; refine Calls.mono (HRC.out _ (Below.refl _ _)) ?_; rintro e n1 ⟨rfl, hu⟩; have HNn1 : Hid (Below u.heap.size u n1) := hu; have qq := HQC.out _ HNn1.out; obtain ⟨q0, q1, q2, q3, ql⟩ := qq; clear hu) | (go_at_call 70; refine Calls.mono (HRP.out _ HNn1.out) ?_; rintro e n2 ⟨rfl, hu⟩; have HNn2 : Hid (Below u.heap.size u n2) := HNn1.out.trans (hu.mono HNn1.out.size); clear hu))
    go_ret
    exact ⟨rfl, HNn2.out⟩
  | true =>
  cases bd with
  | false =>
    have hg : G = false := by rw [← HG.out]; simp
    subst hg
    clear HG
    go_enter Try.func39, Try.ntmps39
    go_wp2_with (first | (go_at_call 69; refine Calls.mono (HRC.out _ (Below.refl _ _)) ?_; rintro e n1 ⟨rfl, hu⟩; have HNn1 : Hid (Below u.heap.size u n1) := hu; have qq := HQC.out _ HNn1.out; obtain ⟨q0, q1, q2, q3, ql⟩ := qq; clear hu) | (go_at_call 70; refine Calls.mono (HRP.out _ HNn1.out) ?_; rintro e n2 ⟨rfl, hu⟩; have HNn2 : Hid (Below u.heap.size u n2) := HNn1.out.trans (hu.mono HNn1.out.size); clear hu) | (go_at_call 71; refine Calls.mono (HBN.out _ HNn2.out) ?_; rintro e n3 ⟨rfl, hu⟩; have HNn3 : Hid (Below u.heap.size u n3) := HNn2.out.trans (hu.mono HNn2.out.size); clear hu))
    go_ret
    exact ⟨rfl, HNn3.out⟩
  | true =>
  have HSR2 : Hid _ := HSR.out rfl
  have HEL2 : Hid _ := HEL.out rfl
  have HGR2 : Hid _ := HGR.out rfl
  clear HSR HEL HGR
  cases ar with
  | false =>
    have hg : G = false := by rw [← HG.out]; simp
    subst hg
    clear HG
    go_enter Try.func39, Try.ntmps39
    go_wp2_with (first | (go_at_call 69; refine Calls.mono (HRC.out _ (Below.refl _ _)) ?_; rintro e n1 ⟨rfl, hu⟩; have HNn1 : Hid (Below u.heap.size u n1) := hu; have qq := HQC.out _ HNn1.out; obtain ⟨q0, q1, q2, q3, ql⟩ := qq; clear hu) | (go_at_call 70; refine Calls.mono (HRP.out _ HNn1.out) ?_; rintro e n2 ⟨rfl, hu⟩; have HNn2 : Hid (Below u.heap.size u n2) := HNn1.out.trans (hu.mono HNn1.out.size); clear hu) | (go_at_call 71; refine Calls.mono (HBN.out _ HNn2.out) ?_; rintro e n3 ⟨rfl, hu⟩; have HNn3 : Hid (Below u.heap.size u n3) := HNn2.out.trans (hu.mono HNn2.out.size); clear hu) | (go_at_call 72; refine Calls.mono (HSR2.out _ HNn3.out) ?_; rintro e n4 ⟨rfl, hu⟩; have HNn4 : Hid (Below u.heap.size u n4) := HNn3.out.trans (hu.mono HNn3.out.size); clear hu))
    go_ret
    exact ⟨rfl, HNn4.out⟩
  | true =>
  cases ei with
  | false =>
    have hg : G = false := by rw [← HG.out]; simp
    subst hg
    clear HG
    go_enter Try.func39, Try.ntmps39
    go_wp2_with (first | (go_at_call 69; refine Calls.mono (HRC.out _ (Below.refl _ _)) ?_; rintro e n1 ⟨rfl, hu⟩; have HNn1 : Hid (Below u.heap.size u n1) := hu; have qq := HQC.out _ HNn1.out; obtain ⟨q0, q1, q2, q3, ql⟩ := qq; clear hu) | (go_at_call 70; refine Calls.mono (HRP.out _ HNn1.out) ?_; rintro e n2 ⟨rfl, hu⟩; have HNn2 : Hid (Below u.heap.size u n2) := HNn1.out.trans (hu.mono HNn1.out.size); clear hu) | (go_at_call 71; refine Calls.mono (HBN.out _ HNn2.out) ?_; rintro e n3 ⟨rfl, hu⟩; have HNn3 : Hid (Below u.heap.size u n3) := HNn2.out.trans (hu.mono HNn2.out.size); clear hu) | (go_at_call 72; refine Calls.mono (HSR2.out _ HNn3.out) ?_; rintro e n4 ⟨rfl, hu⟩; have HNn4 : Hid (Below u.heap.size u n4) := HNn3.out.trans (hu.mono HNn3.out.size); clear hu) | (go_at_call 73; refine Calls.mono (HEL2.out _ HNn4.out) ?_; rintro e n5 ⟨rfl, hu⟩; have HNn5 : Hid (Below u.heap.size u n5) := HNn4.out.trans (hu.mono HNn4.out.size); clear hu))
    go_ret
    exact ⟨rfl, HNn5.out⟩
  | true =>
  have hg : G = gr := by rw [← HG.out]; simp
  subst hg
  clear HG
  go_enter Try.func39, Try.ntmps39
  go_wp2_with (first | (go_at_call 69; refine Calls.mono (HRC.out _ (Below.refl _ _)) ?_; rintro e n1 ⟨rfl, hu⟩; have HNn1 : Hid (Below u.heap.size u n1) := hu; have qq := HQC.out _ HNn1.out; obtain ⟨q0, q1, q2, q3, ql⟩ := qq; clear hu) | (go_at_call 70; refine Calls.mono (HRP.out _ HNn1.out) ?_; rintro e n2 ⟨rfl, hu⟩; have HNn2 : Hid (Below u.heap.size u n2) := HNn1.out.trans (hu.mono HNn1.out.size); clear hu) | (go_at_call 71; refine Calls.mono (HBN.out _ HNn2.out) ?_; rintro e n3 ⟨rfl, hu⟩; have HNn3 : Hid (Below u.heap.size u n3) := HNn2.out.trans (hu.mono HNn2.out.size); clear hu) | (go_at_call 72; refine Calls.mono (HSR2.out _ HNn3.out) ?_; rintro e n4 ⟨rfl, hu⟩; have HNn4 : Hid (Below u.heap.size u n4) := HNn3.out.trans (hu.mono HNn3.out.size); clear hu) | (go_at_call 73; refine Calls.mono (HEL2.out _ HNn4.out) ?_; rintro e n5 ⟨rfl, hu⟩; have HNn5 : Hid (Below u.heap.size u n5) := HNn4.out.trans (hu.mono HNn4.out.size); clear hu) | (go_at_call 74; refine Calls.mono (HGR2.out _ HNn5.out) ?_; rintro e n6 ⟨rfl, hu⟩; have HNn6 : Hid (Below u.heap.size u n6) := HNn5.out.trans (hu.mono HNn5.out.size); clear hu))
  go_ret
  exact ⟨rfl, HNn6.out⟩

set_option maxRecDepth 100000
/-- Rising from a number on. -/
def rsF : Int → List Int → Prop
  | _, [] => True
  | A, x :: xs => A < x ∧ rsF x xs
theorem rk_succ (x y : Int) (ys : List Int) (j : Nat) : rk (x :: y :: ys) (j + 2) = rk (y :: ys) (j + 1) := by
  unfold rk
  simp
theorem ris_cons : ∀ (xs : List Int) (x : Int), risB (x :: xs) = true ↔ rsF x xs := by
  intro xs
  induction xs with
  | nil =>
    intro x
    refine ⟨fun _ => trivial, fun _ => allB_iff.2 fun k hk => ?_⟩
    have : k = 0 := by simp at hk; omega
    subst this
    rfl
  | cons y ys ih =>
    intro x
    have h1 : risB (x :: y :: ys) = true ↔ x < y ∧ risB (y :: ys) = true := by
      unfold risB
      rw [allB_iff, allB_iff]
      constructor
      · intro h
        refine ⟨?_, fun k hk => ?_⟩
        · have := h 1 (by simp)
          unfold rk at this
          simpa using this
        · cases k with
          | zero => rfl
          | succ k =>
            rw [← rk_succ x]
            exact h (k + 2) (by simp at hk ⊢; omega)
      · rintro ⟨hxy, h⟩ k hk
        match k, hk with
        | 0, _ => rfl
        | 1, _ => unfold rk; simpa using hxy
        | k + 2, hk =>
          rw [rk_succ]
          exact h (k + 1) (by simp at hk ⊢; omega)
    rw [h1, ih]
    rfl
theorem hk_iff (h : MH) (ss : List SL) : ∀ (hs : List Int) (A : Int), hkB h ss A hs = true ↔ rsF A hs ∧ ∀ x ∈ hs, hgB ss.length x = true ∧ mbB h (grp ss x.toNat) = true := by
  intro hs
  induction hs with
  | nil => intro A; simp [hkB, rsF]
  | cons x xs ih =>
    intro A
    unfold hkB rsF
    simp only [Bool.and_eq_true, decide_eq_true_eq, ih, List.mem_cons, forall_eq_or_imp]
    constructor
    · rintro ⟨h1, h2, h3, h4, h5⟩
      exact ⟨⟨h1, h4⟩, ⟨h2, h3⟩, h5⟩
    · rintro ⟨⟨h1, h4⟩, ⟨h2, h3⟩, h5⟩
      exact ⟨h1, h2, h3, h4, h5⟩
theorem getD_at {α : Type} {l : List α} {k : Nat} {d : α} (hk : k < l.length) : l.getD k d = l[k] := by
  rw [List.getD_eq_getElem?_getD, List.getElem?_eq_getElem hk, Option.getD_some]
theorem tmod_zero (f : Int) : (f.tmod 4 == 0) = decide (f % 4 = 0) := by
  rw [Bool.eq_iff_iff]
  simp only [beq_iff_eq, decide_eq_true_eq]
  constructor
  · intro h
    exact Int.emod_eq_zero_of_dvd (Int.dvd_of_tmod_eq_zero h)
  · intro h
    exact Int.tmod_eq_zero_of_dvd (Int.dvd_of_emod_eq_zero h)
/-- A group is right for the one as for the other, where all slots are right and cells are few. -/
theorem mb_gr {h : MH} {ss : List SL} (hsl : ss.all (slB h) = true) (hcs : h.cs.length ≤ 64) {x : Int} (hx : hgB ss.length x = true) : mbB h (grp ss x.toNat) = grB h ss x := by
  have hx2 := of_decide_eq_true hx
  obtain ⟨N, rfl⟩ : ∃ N : Nat, x = (N : Int) := ⟨x.toNat, by omega⟩
  rw [Int.toNat_natCast]
  have hN : (N + 1) * 4 ≤ ss.length := by omega
  have hl := grp_len hN
  have hat : ∀ k (hk : k < 4), (grp ss N).getD k sZ0 = ss[N * 4 + k]'(by omega) := fun k hk => by
    rw [getD_at (by omega)]
    exact grp_at hN k (by omega)
  have hgd : ∀ k (hk : k < 4), ss.getD (N * 4 + k) sZ0 = ss[N * 4 + k]'(by omega) := fun k hk => getD_at (by omega)
  have hsr : ∀ k (hk : k < 4), slB h (ss[N * 4 + k]'(by omega)) = true := fun k hk => List.all_eq_true.1 hsl _ (List.getElem_mem _)
  have hld : ∀ y, slB h y = true → y.kind = 1 → inB h.cs y.pos = true := fun y hy hk => by
    unfold slB at hy
    simp only [Bool.and_eq_true] at hy
    have := hy.1.1
    unfold ldB at this
    rw [if_neg (by omega), if_pos hk] at this
    exact this
  have hpos : ∀ y : SL, inB h.cs y.pos = true → 0 ≤ y.pos ∧ y.pos < 64 := fun y hy => by
    unfold inB at hy
    simp only [Bool.and_eq_true, decide_eq_true_eq] at hy
    omega
  have how : ∀ y, slB h y = true → (owB h y = true ↔ y.kind = 1 ∧ cntS h 1 y.pos = 1) := fun y hy => by
    unfold owB ltB
    simp only [Bool.and_eq_true, beq_iff_eq, decide_eq_true_eq]
    constructor
    · rintro ⟨⟨h1, _⟩, h3⟩
      exact ⟨h1, h3⟩
    · rintro ⟨h1, h3⟩
      exact ⟨⟨h1, hld y hy h1⟩, h3⟩
  have hall : (grp ss N).all (owB h) = true ↔ ∀ k (hk : k < 4), owB h (ss[N * 4 + k]'(by omega)) = true := by
    rw [List.all_eq_true]
    constructor
    · intro h2 k hk
      have := h2 _ (List.getElem_mem (show k < (grp ss N).length by omega))
      rw [grp_at hN] at this
      exact this
    · intro h2 y hy
      obtain ⟨k, hk, rfl⟩ := List.getElem_of_mem hy
      rw [grp_at hN]
      exact h2 k (by omega)
  unfold mbB grB
  rw [Int.toNat_natCast, decide_eq_true (show 0 ≤ (N : Int) ∧ ((N : Int) + 1) * 4 ≤ (ss.length : Int) by omega), Bool.true_and, tmod_zero]
  have hfs : fsG ss N = ((grp ss N).getD 0 sZ0).pos := by
    unfold fsG
    rw [hat 0 (by omega)]
    have := hgd 0 (by omega)
    simp only [Nat.add_zero] at this ⊢
    rw [this]
  rw [hfs, Bool.eq_iff_iff]
  generalize hf : ((grp ss N).getD 0 sZ0).pos = f
  simp only [Bool.and_eq_true, List.all_eq_true, List.mem_range, decide_eq_true_eq]
  rw [show (∀ y ∈ grp ss N, owB h y = true) ↔ (grp ss N).all (owB h) = true from by rw [List.all_eq_true]]
  rw [hall]
  have hok : ∀ k (hk : k < 4), okG h ss f N k = true ↔ (ss[N * 4 + k]'(by omega)).kind = 1 ∧ (ss[N * 4 + k]'(by omega)).pos = f + (k : Int) ∧ cntS h 1 (ss[N * 4 + k]'(by omega)).pos = 1 := fun k hk => by
    unfold okG
    rw [hgd k hk]
    simp only [Bool.and_eq_true, beq_iff_eq, and_assoc]
  have heq : ∀ k (hk : k < 4), eqK (grp ss N) k = true ↔ (ss[N * 4 + k]'(by omega)).pos = IntKind.i64.wrap (f + (k : Int)) := fun k hk => by
    unfold eqK
    rw [hat k hk, hf, beq_iff_eq]
  have hf0 : f = (ss[N * 4 + 0]'(by omega)).pos := by rw [← hf, hat 0 (by omega)]
  constructor
  · rintro ⟨h1, h2, h3⟩
    refine ⟨fun k hk => (hok k hk).2 ?_, h2⟩
    have ho := (how _ (hsr k hk)).1 (h3 k hk)
    refine ⟨ho.1, ?_, ho.2⟩
    have hf1 := (how _ (hsr 0 (by omega))).1 (h3 0 (by omega))
    have hfb := hpos _ (hld _ (hsr 0 (by omega)) hf1.1)
    rw [← hf0] at hfb
    have := (heq k hk).1 (h1 k hk)
    rw [this, IntKind.wrap_i64]
    omega
  · rintro ⟨h1, h2⟩
    refine ⟨fun k hk => (heq k hk).2 ?_, h2, fun k hk => ?_⟩
    · have h3 := (hok k hk).1 (h1 k hk)
      have h4 := (hok 0 (by omega)).1 (h1 0 (by omega))
      have hfb := hpos _ (hld _ (hsr 0 (by omega)) h4.1)
      rw [← hf0] at hfb
      rw [h3.2.1, IntKind.wrap_i64]
      omega
    · have h3 := (hok k hk).1 (h1 k hk)
      exact (how _ (hsr k hk)).2 ⟨h3.1, h3.2.2⟩
theorem grB_hg {h : MH} {ss : List SL} {x : Int} (hx : grB h ss x = true) : hgB ss.length x = true := by
  unfold grB at hx
  simp only [Bool.and_eq_true] at hx
  exact hx.1.1
theorem hk_gr {h : MH} {ss : List SL} (hsl : ss.all (slB h) = true) (hcs : h.cs.length ≤ 64) (hs : List Int) : hkB h ss (-1) hs = (risB hs && hs.all (grB h ss)) := by
  rw [Bool.eq_iff_iff, hk_iff, Bool.and_eq_true, List.all_eq_true]
  have hg : (∀ x ∈ hs, hgB ss.length x = true ∧ mbB h (grp ss x.toNat) = true) ↔ ∀ x ∈ hs, grB h ss x = true := by
    constructor
    · intro h1 x hx
      rw [← mb_gr hsl hcs (h1 x hx).1]
      exact (h1 x hx).2
    · intro h1 x hx
      have h2 := grB_hg (h1 x hx)
      exact ⟨h2, by rw [mb_gr hsl hcs h2]; exact h1 x hx⟩
  rw [hg]
  cases hs with
  | nil =>
    simp [rsF, risB, allB]
  | cons x xs =>
    rw [ris_cons]
    constructor
    · rintro ⟨h1, h2⟩
      exact ⟨h1.2, h2⟩
    · rintro ⟨h1, h2⟩
      have h3 := of_decide_eq_true (grB_hg (h2 x (by simp)))
      exact ⟨⟨by omega, h1⟩, h2⟩
theorem irB_mhB (h : MH) : irB h = mhB h := by
  unfold irB mhB m0B eiB
  have hf : ∀ (p : SL → Bool), (allS h).all p = h.gs.all (fun g => g.ss.all p) := fun p => by
    unfold allS
    rw [List.all_flatMap]
  by_cases hm1 : mtB h.cs = true
  case neg =>
    have : mtB h.cs = false := by simpa using hm1
    rw [this]; simp
  have hcs : h.cs.length ≤ 64 := by
    unfold mtB at hm1
    simp only [Bool.and_eq_true, decide_eq_true_eq] at hm1
    exact hm1.1
  rw [Bool.eq_iff_iff]
  simp only [Bool.and_eq_true, bdB, tmB, arB, grsB, hf, allB, List.all_eq_true, decide_eq_true_eq, and_assoc]
  constructor
  · rintro ⟨h1, h2, h3, h4, h5, h6, h7, h8, h9, h10, h11⟩
    refine ⟨h1, h2, h3, h4, h5, h6, fun g hg => ?_, h9, h10⟩
    have hb := h7 g hg
    have hk := h11 g hg
    have hsl : g.ss.all (slB h) = true := List.all_eq_true.2 (h8 g hg)
    rw [hk_gr hsl hcs, Bool.and_eq_true] at hk
    unfold bgB drB at hb
    simp only [Bool.and_eq_true, decide_eq_true_eq] at hb
    unfold guB g0B
    simp only [Bool.and_eq_true, decide_eq_true_eq]
    exact ⟨⟨⟨⟨⟨hb.1, hb.2.1⟩, hk.1⟩, hb.2.2⟩, hsl⟩, hk.2⟩
  · rintro ⟨h1, h2, h3, h4, h5, h6, h7, h9, h10⟩
    have hg : ∀ g ∈ h.gs, (g.ss.length ≤ 32 ∧ g.d.size ≤ 4 ∧ nxt g.d g.ss.length true < 0) ∧ g.ss.all (slB h) = true ∧ risB g.hs = true ∧ g.hs.all (grB h g.ss) = true := fun g hg => by
      have := h7 g hg
      unfold guB g0B at this
      simp only [Bool.and_eq_true, decide_eq_true_eq] at this
      obtain ⟨⟨⟨⟨⟨a1, a2⟩, a3⟩, a4⟩, a5⟩, a6⟩ := this
      exact ⟨⟨a1, a2, a4⟩, a5, a3, a6⟩
    refine ⟨h1, h2, h3, h4, h5, h6, fun g hgm => ?_, fun g hgm => List.all_eq_true.1 (hg g hgm).2.1, h9, h10, fun g hgm => ?_⟩
    · unfold bgB drB
      simp only [Bool.and_eq_true, decide_eq_true_eq]
      exact (hg g hgm).1
    · rw [hk_gr (hg g hgm).2.1 hcs, (hg g hgm).2.2.1, (hg g hgm).2.2.2]
      rfl

set_option maxRecDepth 100000
theorem totM_all : ∀ gs : List GS, ((gs.flatMap (·.ss)).length : Int) ≤ totM gs := by
  intro gs
  induction gs with
  | nil => simp [totM]
  | cons g gs ih =>
    rw [List.flatMap_cons, List.length_append]
    unfold totM
    have := totM_nn gs
    omega
theorem szH_all {h : MH} (x : szH h = true) : (allS h).length ≤ 1048576 := by
  unfold szH at x
  have h2 := of_decide_eq_true x
  have h3 := totS_nn h.cs
  have h4 := totS_nn h.ps
  have h5 := totM_all h.gs
  unfold allS
  omega
/-- A program's host in a box. -/
structure HB2 (u : World) (b : Nat) (h : MH) (a : HA) : Prop where
  box : u.heap[b]? = some (.cells #[a.vc, a.vp, a.vg, .int .i64 h.time] 30 (0, 0))
  row : HRows u h a
theorem HB2.lt {u : World} {b : Nat} {h : MH} {a : HA} (x : HB2 u b h a) : b < u.heap.size := (Array.getElem?_eq_some_iff.1 x.box).1
theorem HB2.step {u u' : World} {b : Nat} {h : MH} {a : HA} (x : HB2 u b h a) (hb : Below u.heap.size u u') : HB2 u' b h a := ⟨(hb.block _ x.lt).trans x.box, x.row.below hb⟩
theorem HB2.new {u : World} {h : MH} {a : HA} (x : HRows u h a) : HB2 (u.alloc (.cells #[a.vc, a.vp, a.vg, .int .i64 h.time] 30)) u.heap.size h a := ⟨heap_new _ _, x.below ((Below.refl _ _).alloc (Nat.le_refl _) _)⟩
theorem HB2.cel {u : World} {b : Nat} {h : MH} {a : HA} (x : HB2 u b h a) : u.cell? ⟨b, 0, none⟩ = some a.vc ∧ u.cell? ⟨b, 1, none⟩ = some a.vp ∧ u.cell? ⟨b, 2, none⟩ = some a.vg ∧ u.cell? ⟨b, 3, none⟩ = some (.int .i64 h.time) := by
  have := x.box
  simp [World.cell?, this]
theorem HOwn.sl {w : World} {B : Nat} {h : MH} {a : HA} (x : HOwn w B h a) : ∃ al kl am km ac kc qs, a = ⟨.slice al h.cs.length kl, .slice am h.ps.length km, .slice ac qs.length kc, qs⟩ := by
  obtain ⟨vc, vp, vg, qs⟩ := a
  obtain ⟨al, kl, e1⟩ := s_sl x.cs
  obtain ⟨am, km, e2⟩ := s_sl x.ps
  obtain ⟨ac, kc, e3⟩ := mg_sl x.mg
  simp only at e1 e2 e3
  subst e1 e2 e3
  exact ⟨_, _, _, _, _, _, _, rfl⟩
end Go.Proofs.Ytomfbiiegcmmlab
