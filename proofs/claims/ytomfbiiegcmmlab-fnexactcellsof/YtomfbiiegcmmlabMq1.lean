import Derived.Test.YtomfbiiegcmmlabMp5
import Derived.Test.YtomfbiiegcmmlabHl
namespace Go.Proofs.Ytomfbiiegcmmlab
open Go.ChangeShapes Go.WideShapes Go.ChangeAt Go.RowKit

set_option maxRecDepth 100000
/-- A host at work behind a pointer. -/
structure QH (u : World) (B : Nat) (h : MH) (a : HA) : Prop where
  lt : B < u.heap.size
  c0 : u.cell? ⟨B, 0, none⟩ = some (.int .i64 1)
  c1 : u.cell? ⟨B, 1, none⟩ = some a.vc
  c2 : u.cell? ⟨B, 2, none⟩ = some (.int .i64 2)
  c3 : u.cell? ⟨B, 3, none⟩ = some a.vp
  c4 : u.cell? ⟨B, 4, none⟩ = some a.vg
  c5 : u.cell? ⟨B, 5, none⟩ = some (.int .i64 h.time)
  row : HRows u h a
theorem QH.below {w w' : World} {B : Nat} {h : MH} {a : HA} (x : QH w B h a) (hb : Below w.heap.size w w') : QH w' B h a :=
  ⟨Nat.lt_of_lt_of_le x.lt hb.size, ((bcell hb).1 B 0 x.lt).trans x.c0, ((bcell hb).1 B 1 x.lt).trans x.c1, ((bcell hb).1 B 2 x.lt).trans x.c2, ((bcell hb).1 B 3 x.lt).trans x.c3, ((bcell hb).1 B 4 x.lt).trans x.c4, ((bcell hb).1 B 5 x.lt).trans x.c5, x.row.below hb⟩
theorem PH.qh {w u : World} {B : Nat} {h : MH} {a : HA} (x : PH w u B h a) : QH u B h a := by
  have hb := x.box
  refine ⟨x.lt, ?_, ?_, ?_, ?_, ?_, ?_, x.row.below x.bel⟩ <;> simp [World.cell?, hb]
/-- A slot in its box. -/
structure SB (u : World) (b : Nat) (x : SL) : Prop where
  lt : b < u.heap.size
  c0 : u.cell? ⟨b, 0, none⟩ = some (.int .i64 x.kind)
  c1 : u.cell? ⟨b, 1, none⟩ = some (.int .i64 x.pos)
  c2 : u.cell? ⟨b, 2, none⟩ = some (.int .i64 x.used)
theorem SB.below {w w' : World} {b : Nat} {x : SL} (s : SB w b x) (hb : Below w.heap.size w w') : SB w' b x :=
  ⟨Nat.lt_of_lt_of_le s.lt hb.size, ((bcell hb).1 b 0 s.lt).trans s.c0, ((bcell hb).1 b 1 s.lt).trans s.c1, ((bcell hb).1 b 2 s.lt).trans s.c2⟩
theorem SB.new (w : World) (x : SL) (t : TypeId) : SB (w.alloc (.cells #[.int .i64 x.kind, .int .i64 x.pos, .int .i64 x.used] t)) w.heap.size x := by
  obtain ⟨c0, c1, c2, _⟩ := cel3 (heap_new w (.cells #[.int .i64 x.kind, .int .i64 x.pos, .int .i64 x.used] t))
  exact ⟨by simp, c0, c1, c2⟩
theorem ldB_of (h : MH) (x : SL) : ldB h x = ((x.kind == 0 && x.pos == 0) || (ltB h.cs 1 x || ltB h.ps 2 x)) := by
  unfold ldB ltB
  by_cases k0 : x.kind = 0
  · rw [if_pos k0, k0]; simp
    by_cases p : x.pos = 0 <;> simp [p]
  · rw [if_neg k0, show (x.kind == 0) = false from by simpa using k0]
    by_cases k1 : x.kind = 1
    · rw [if_pos k1, k1]; simp
    · rw [if_neg k1, show (x.kind == 1) = false from by simpa using k1]
      by_cases k2 : x.kind = 2
      · rw [if_pos k2, k2]; simp
      · rw [if_neg k2, show (x.kind == 2) = false from by simpa using k2]; simp
set_option maxHeartbeats 8000000 in
theorem isSlot_any {w : World} {B : Nat} {h : MH} {a : HA} (hq : QH w B h a) (hlc : h.cs.length ≤ 1048576) (hlp : h.ps.length ≤ 1048576) (x : SL) : Calls Try.prog 108 #[.pointer (some ⟨B, 0, none⟩), slA x] w fun e w' => e = .returned (.bool (slB h x)) ∧ Below w.heap.size w w' := by
  obtain ⟨al, kl, el⟩ := hq.row.cs.sl
  obtain ⟨am, km, em⟩ := hq.row.ps.sl
  obtain ⟨ac, kc, ec⟩ := hq.row.mg.sl
  obtain ⟨vc, vp, vg, qs⟩ := a
  simp only at el em ec
  subst el em ec
  have HB0 : Hid (Below w.heap.size w (w.alloc (.cells #[.int .i64 x.kind, .int .i64 x.pos, .int .i64 x.used] 70))) := (Below.refl _ _).alloc (Nat.le_refl _) _
  have HS0 : Hid (SB (w.alloc (.cells #[.int .i64 x.kind, .int .i64 x.pos, .int .i64 x.used] 70)) w.heap.size x) := SB.new _ _ _
  have HQ0 : Hid (QH (w.alloc (.cells #[.int .i64 x.kind, .int .i64 x.pos, .int .i64 x.used] 70)) B h ⟨.slice al h.cs.length kl, .slice am h.ps.length km, .slice ac qs.length kc, qs⟩) := hq.below HB0.out
  obtain ⟨G, hG⟩ : ∃ G, slB h x = G := ⟨_, rfl⟩
  rw [hG]
  unfold slB at hG
  have HG : Hid (((ldB h x && decide (0 ≤ x.used)) && decide (x.used ≤ h.time)) = G) := hG
  have HLD : Hid (ldB h x = ((x.kind == 0 && x.pos == 0) || (ltB h.cs 1 x || ltB h.ps 2 x))) := ldB_of h x
  clear hq hG
  unfold slA
  go_enter Try.func108, Try.ntmps108
  go_upto_region 1 with fail
  generalize (w.alloc (.cells #[.int .i64 x.kind, .int .i64 x.pos, .int .i64 x.used] 70)) = W0 at *
  obtain ⟨b, hb⟩ : ∃ b, w.heap.size = b := ⟨_, rfl⟩
  rw [hb] at HS0 ⊢
  clear hb
  have HSS : Hid (∀ u, Below W0.heap.size W0 u → QH u B h ⟨.slice al h.cs.length kl, .slice am h.ps.length km, .slice ac qs.length kc, qs⟩ ∧ SB u b x) := fun u hu => ⟨HQ0.out.below hu, HS0.out.below hu⟩
  have HLC : Hid (∀ u, Below W0.heap.size W0 u → Calls Try.prog 136 #[.agg #[.int .i64 1, .slice al h.cs.length kl], .agg #[.int .i64 x.kind, .int .i64 x.pos, .int .i64 x.used]] u fun e w' => e = .returned (.bool (ltB h.cs 1 x)) ∧ Below u.heap.size u w') := fun u hu => ledTo_cellNo (HQ0.out.below hu).row.cs hlc 1 x
  have HLP : Hid (∀ u, Below W0.heap.size W0 u → Calls Try.prog 137 #[.agg #[.int .i64 2, .slice am h.ps.length km], .agg #[.int .i64 x.kind, .int .i64 x.pos, .int .i64 x.used]] u fun e w' => e = .returned (.bool (ltB h.ps 2 x)) ∧ Below u.heap.size u w') := fun u hu => ledTo_placeNo (HQ0.out.below hu).row.ps hlp 2 x
  have HWR : Hid (∀ u, Below W0.heap.size W0 u → Below w.heap.size w u) := fun u hu => HB0.out.trans (hu.mono HB0.out.size)
  clear HQ0 HB0
  generalize ltB h.cs 1 x = C at *
  generalize ltB h.ps 2 x = Pp at *
  generalize ldB h x = L at *
  go_cut [5] (fun s5 wc => s5 = .bool (x.kind == 0 && x.pos == 0) ∧ wc = W0)
  case first =>
    have c0 := HS0.out.c0
    have c1 := HS0.out.c1
    have ll := HS0.out.lt
    cases hk : (x.kind == 0) with
    | false =>
      go_wp2
      go_meet
      case rel => exact ⟨by rw [hk]; rfl, rfl⟩
    | true =>
      cases hp : (x.pos == 0) with
      | false =>
        go_wp2
        go_meet
        case rel => exact ⟨by rw [hk, hp]; rfl, rfl⟩
      | true =>
        go_wp2
        go_meet
        case rel => exact ⟨by rw [hk, hp]; rfl, rfl⟩
  case rest =>
  obtain ⟨rfl, hw⟩ := hcut
  have hw2 := hw.symm
  subst hw2
  clear hw
  generalize (x.kind == 0 && x.pos == 0) = Nn at *
  go_upto_region 2 with fail
  have HBD : Hid (Below W0.heap.size W0 W0.drew) := (Below.refl _ _).drew
  go_cut [6] (fun s6 wx => s6 = .bool L ∧ Below W0.heap.size W0 wx)
  case first =>
    cases Nn with
    | true =>
      have hL : L = true := by rw [HLD.out]; rfl
      subst hL
      refine wp_region_held (S := fun w9 => QH w9 B h ⟨.slice al h.cs.length kl, .slice am h.ps.length km, .slice ac qs.length kc, qs⟩ ∧ SB w9 b x) (by kernel_rfl) ?_
      change wpAnyH _ _ _ _ _ _ _ _ (World.drew _)
      refine wpAnyH_take (i := 0) (v := .bool true) rfl (by kernel_rfl) (by kernel_rfl) (by kernel_rfl) (fun _ _ _ h => h) (Or.inl ⟨by kernel_rfl, fun w9 h9 => ?_⟩) (HSS.out _ HBD.out) ?_
      · go_simp
      refine wpAnyH_take (i := 1) (v := .bool true) rfl (by kernel_rfl) (by kernel_rfl) (by kernel_rfl) (fun _ _ _ h => h) (Or.inl ⟨by kernel_rfl, fun w9 h9 => ?_⟩) (HSS.out _ HBD.out) ?_
      · go_simp
      refine wpAnyH_take (i := 2) (v := undef) rfl (by kernel_rfl) (by kernel_rfl) (by kernel_rfl) (fun _ _ _ h => h) (Or.inr ⟨by kernel_rfl, rfl⟩) (HSS.out _ HBD.out) ?_
      refine wpAnyH_take (i := 3) (v := undef) rfl (by kernel_rfl) (by kernel_rfl) (by kernel_rfl) (fun _ _ _ h => h) (Or.inr ⟨by kernel_rfl, rfl⟩) (HSS.out _ HBD.out) ?_
      refine wpAnyH_take (i := 4) (v := undef) rfl (by kernel_rfl) (by kernel_rfl) (by kernel_rfl) (fun _ _ _ h => h) (Or.inr ⟨by kernel_rfl, rfl⟩) (HSS.out _ HBD.out) ?_
      refine wpAnyH_take (i := 5) (v := undef) rfl (by kernel_rfl) (by kernel_rfl) (by kernel_rfl) (fun _ _ _ h => h) (Or.inr ⟨by kernel_rfl, rfl⟩) (HSS.out _ HBD.out) ?_
      refine wpAnyH_take (i := 6) (v := undef) rfl (by kernel_rfl) (by kernel_rfl) (by kernel_rfl) (fun _ _ _ h => h) (Or.inr ⟨by kernel_rfl, rfl⟩) (HSS.out _ HBD.out) ?_
      refine wpAnyH_take (i := 7) (v := undef) rfl (by kernel_rfl) (by kernel_rfl) (by kernel_rfl) (fun _ _ _ h => h) (Or.inr ⟨by kernel_rfl, rfl⟩) (HSS.out _ HBD.out) ?_
      refine wpAnyH_take (i := 8) (v := .bool true) rfl (by kernel_rfl) (by kernel_rfl) (by kernel_rfl) (fun _ _ _ h => h) (Or.inl ⟨by kernel_rfl, fun w9 h9 => ?_⟩) (HSS.out _ HBD.out) ?_
      · go_simp
      refine wpAnyH_take (i := 9) (v := .bool true) rfl (by kernel_rfl) (by kernel_rfl) (by kernel_rfl) (fun _ _ _ h => h) (Or.inl ⟨by kernel_rfl, fun w9 h9 => ?_⟩) (HSS.out _ HBD.out) ?_
      · go_simp
      refine wpAnyH_take (i := 10) (v := undef) rfl (by kernel_rfl) (by kernel_rfl) (by kernel_rfl) (fun _ _ _ h => h) (Or.inr ⟨by kernel_rfl, rfl⟩) (HSS.out _ HBD.out) ?_
      refine wpAnyH_take (i := 11) (v := undef) rfl (by kernel_rfl) (by kernel_rfl) (by kernel_rfl) (fun _ _ _ h => h) (Or.inr ⟨by kernel_rfl, rfl⟩) (HSS.out _ HBD.out) ?_
      refine wpAnyH_take (i := 12) (v := undef) rfl (by kernel_rfl) (by kernel_rfl) (by kernel_rfl) (fun _ _ _ h => h) (Or.inr ⟨by kernel_rfl, rfl⟩) (HSS.out _ HBD.out) ?_
      refine wpAnyH_take (i := 13) (v := undef) rfl (by kernel_rfl) (by kernel_rfl) (by kernel_rfl) (fun _ _ _ h => h) (Or.inr ⟨by kernel_rfl, rfl⟩) (HSS.out _ HBD.out) ?_
      refine wpAnyH_take (i := 14) (v := undef) rfl (by kernel_rfl) (by kernel_rfl) (by kernel_rfl) (fun _ _ _ h => h) (Or.inr ⟨by kernel_rfl, rfl⟩) (HSS.out _ HBD.out) ?_
      refine wpAnyH_take (i := 15) (v := undef) rfl (by kernel_rfl) (by kernel_rfl) (by kernel_rfl) (fun _ _ _ h => h) (Or.inr ⟨by kernel_rfl, rfl⟩) (HSS.out _ HBD.out) ?_
      refine wpAnyH_take (i := 16) (v := .bool true) rfl (by kernel_rfl) (by kernel_rfl) (by kernel_rfl) (fun _ _ _ h => h) (Or.inl ⟨by kernel_rfl, fun w9 h9 => ?_⟩) (HSS.out _ HBD.out) ?_
      · go_simp
      refine wpAnyH_take (i := 17) (v := .bool true) rfl (by kernel_rfl) (by kernel_rfl) (by kernel_rfl) (fun _ _ _ h => h) (Or.inl ⟨by kernel_rfl, fun w9 h9 => ?_⟩) (HSS.out _ HBD.out) ?_
      · go_simp
      refine wpAnyH_done (by kernel_rfl) ?_ _
      go_simp
      go_wp2
      go_meet
      case rel => exact ⟨rfl, HBD.out⟩
    | false =>
      rw [Bool.false_or] at HLD
      cases C with
      | true =>
        have hL : L = true := by rw [HLD.out]; rfl
        subst hL
        refine wp_region_held (S := fun w9 => QH w9 B h ⟨.slice al h.cs.length kl, .slice am h.ps.length km, .slice ac qs.length kc, qs⟩ ∧ SB w9 b x) (by kernel_rfl) ?_
        change wpAnyH _ _ _ _ _ _ _ _ (World.drew _)
        refine wpAnyH_take (i := 0) (v := .bool false) rfl (by kernel_rfl) (by kernel_rfl) (by kernel_rfl) (fun _ _ _ h => h) (Or.inl ⟨by kernel_rfl, fun w9 h9 => ?_⟩) (HSS.out _ HBD.out) ?_
        · go_simp
        refine wpAnyH_take (i := 1) (v := .bool false) rfl (by kernel_rfl) (by kernel_rfl) (by kernel_rfl) (fun _ _ _ h => h) (Or.inl ⟨by kernel_rfl, fun w9 h9 => ?_⟩) (HSS.out _ HBD.out) ?_
        · go_simp
        refine wpAnyH_take (i := 2) (v := .pointer (some ⟨B, 0, none⟩)) rfl (by kernel_rfl) (by kernel_rfl) (by kernel_rfl) (fun _ _ _ h => h) (Or.inl ⟨by kernel_rfl, fun w9 h9 => ?_⟩) (HSS.out _ HBD.out) ?_
        · go_simp
        refine wpAnyH_take (i := 3) (v := .pointer (some ⟨B, 0, none⟩)) rfl (by kernel_rfl) (by kernel_rfl) (by kernel_rfl) (fun _ _ _ h => h) (Or.inl ⟨by kernel_rfl, fun w9 h9 => ?_⟩) (HSS.out _ HBD.out) ?_
        · go_simp
        refine wpAnyH_take (i := 4) (v := .pointer (some ⟨B, 0, none⟩)) rfl (by kernel_rfl) (by kernel_rfl) (by kernel_rfl) (fun _ _ _ h => h) (Or.inl ⟨by kernel_rfl, fun w9 h9 => ?_⟩) (HSS.out _ HBD.out) ?_
        · go_simp
        refine wpAnyH_take (i := 5) (v := .agg #[.int .i64 1, .slice al h.cs.length kl]) rfl (by kernel_rfl) (by kernel_rfl) (by kernel_rfl) (fun _ _ _ h => h) (Or.inl ⟨by kernel_rfl, fun w9 h9 => ?_⟩) (HSS.out _ HBD.out) ?_
        · obtain ⟨⟨y9, x0, x1, x2, x3, x4, x5, _⟩, ⟨z9, z0, z1, z2⟩⟩ := h9; simp only at x1 x3 x4; go_simp
        refine wpAnyH_take (i := 6) (v := .agg #[.int .i64 x.kind, .int .i64 x.pos, .int .i64 x.used]) rfl (by kernel_rfl) (by kernel_rfl) (by kernel_rfl) (fun _ _ _ h => h) (Or.inl ⟨by kernel_rfl, fun w9 h9 => ?_⟩) (HSS.out _ HBD.out) ?_
        · obtain ⟨⟨y9, x0, x1, x2, x3, x4, x5, _⟩, ⟨z9, z0, z1, z2⟩⟩ := h9; simp only at x1 x3 x4; go_simp
        refine held_one 7 (by kernel_rfl) rfl (by kernel_rfl) fun K hK => ?_
        go_simp
        go_wp2_with (go_at_call 136; refine Calls.mono (HLC.out _ HBD.out) ?_; rintro e v1 ⟨rfl, hu⟩; have HV1 : Hid (Below W0.heap.size W0 v1) := HBD.out.trans (hu.mono HBD.out.size); clear hu)
        refine hK _ _ (HSS.out _ HV1.out) ?_
        clear hK K
        refine wpAnyH_take (i := 8) (v := .bool true) rfl (by kernel_rfl) (by kernel_rfl) (by kernel_rfl) (fun _ _ _ h => h) (Or.inl ⟨by kernel_rfl, fun w9 h9 => ?_⟩) (HSS.out _ HV1.out) ?_
        · go_simp
        refine wpAnyH_take (i := 9) (v := .bool true) rfl (by kernel_rfl) (by kernel_rfl) (by kernel_rfl) (fun _ _ _ h => h) (Or.inl ⟨by kernel_rfl, fun w9 h9 => ?_⟩) (HSS.out _ HV1.out) ?_
        · go_simp
        refine wpAnyH_take (i := 10) (v := undef) rfl (by kernel_rfl) (by kernel_rfl) (by kernel_rfl) (fun _ _ _ h => h) (Or.inr ⟨by kernel_rfl, rfl⟩) (HSS.out _ HV1.out) ?_
        refine wpAnyH_take (i := 11) (v := undef) rfl (by kernel_rfl) (by kernel_rfl) (by kernel_rfl) (fun _ _ _ h => h) (Or.inr ⟨by kernel_rfl, rfl⟩) (HSS.out _ HV1.out) ?_
        refine wpAnyH_take (i := 12) (v := undef) rfl (by kernel_rfl) (by kernel_rfl) (by kernel_rfl) (fun _ _ _ h => h) (Or.inr ⟨by kernel_rfl, rfl⟩) (HSS.out _ HV1.out) ?_
        refine wpAnyH_take (i := 13) (v := undef) rfl (by kernel_rfl) (by kernel_rfl) (by kernel_rfl) (fun _ _ _ h => h) (Or.inr ⟨by kernel_rfl, rfl⟩) (HSS.out _ HV1.out) ?_
        refine wpAnyH_take (i := 14) (v := undef) rfl (by kernel_rfl) (by kernel_rfl) (by kernel_rfl) (fun _ _ _ h => h) (Or.inr ⟨by kernel_rfl, rfl⟩) (HSS.out _ HV1.out) ?_
        refine wpAnyH_take (i := 15) (v := undef) rfl (by kernel_rfl) (by kernel_rfl) (by kernel_rfl) (fun _ _ _ h => h) (Or.inr ⟨by kernel_rfl, rfl⟩) (HSS.out _ HV1.out) ?_
        refine wpAnyH_take (i := 16) (v := .bool true) rfl (by kernel_rfl) (by kernel_rfl) (by kernel_rfl) (fun _ _ _ h => h) (Or.inl ⟨by kernel_rfl, fun w9 h9 => ?_⟩) (HSS.out _ HV1.out) ?_
        · go_simp
        refine wpAnyH_take (i := 17) (v := .bool true) rfl (by kernel_rfl) (by kernel_rfl) (by kernel_rfl) (fun _ _ _ h => h) (Or.inl ⟨by kernel_rfl, fun w9 h9 => ?_⟩) (HSS.out _ HV1.out) ?_
        · go_simp
        refine wpAnyH_done (by kernel_rfl) ?_ _
        go_simp
        go_wp2
        go_meet
        case rel => exact ⟨rfl, HV1.out⟩
      | false =>
        rw [Bool.false_or] at HLD
        have hL : L = Pp := HLD.out
        subst hL
        refine wp_region_held (S := fun w9 => QH w9 B h ⟨.slice al h.cs.length kl, .slice am h.ps.length km, .slice ac qs.length kc, qs⟩ ∧ SB w9 b x) (by kernel_rfl) ?_
        change wpAnyH _ _ _ _ _ _ _ _ (World.drew _)
        refine wpAnyH_take (i := 0) (v := .bool false) rfl (by kernel_rfl) (by kernel_rfl) (by kernel_rfl) (fun _ _ _ h => h) (Or.inl ⟨by kernel_rfl, fun w9 h9 => ?_⟩) (HSS.out _ HBD.out) ?_
        · go_simp
        refine wpAnyH_take (i := 1) (v := .bool false) rfl (by kernel_rfl) (by kernel_rfl) (by kernel_rfl) (fun _ _ _ h => h) (Or.inl ⟨by kernel_rfl, fun w9 h9 => ?_⟩) (HSS.out _ HBD.out) ?_
        · go_simp
        refine wpAnyH_take (i := 2) (v := .pointer (some ⟨B, 0, none⟩)) rfl (by kernel_rfl) (by kernel_rfl) (by kernel_rfl) (fun _ _ _ h => h) (Or.inl ⟨by kernel_rfl, fun w9 h9 => ?_⟩) (HSS.out _ HBD.out) ?_
        · go_simp
        refine wpAnyH_take (i := 3) (v := .pointer (some ⟨B, 0, none⟩)) rfl (by kernel_rfl) (by kernel_rfl) (by kernel_rfl) (fun _ _ _ h => h) (Or.inl ⟨by kernel_rfl, fun w9 h9 => ?_⟩) (HSS.out _ HBD.out) ?_
        · go_simp
        refine wpAnyH_take (i := 4) (v := .pointer (some ⟨B, 0, none⟩)) rfl (by kernel_rfl) (by kernel_rfl) (by kernel_rfl) (fun _ _ _ h => h) (Or.inl ⟨by kernel_rfl, fun w9 h9 => ?_⟩) (HSS.out _ HBD.out) ?_
        · go_simp
        refine wpAnyH_take (i := 5) (v := .agg #[.int .i64 1, .slice al h.cs.length kl]) rfl (by kernel_rfl) (by kernel_rfl) (by kernel_rfl) (fun _ _ _ h => h) (Or.inl ⟨by kernel_rfl, fun w9 h9 => ?_⟩) (HSS.out _ HBD.out) ?_
        · obtain ⟨⟨y9, x0, x1, x2, x3, x4, x5, _⟩, ⟨z9, z0, z1, z2⟩⟩ := h9; simp only at x1 x3 x4; go_simp
        refine wpAnyH_take (i := 6) (v := .agg #[.int .i64 x.kind, .int .i64 x.pos, .int .i64 x.used]) rfl (by kernel_rfl) (by kernel_rfl) (by kernel_rfl) (fun _ _ _ h => h) (Or.inl ⟨by kernel_rfl, fun w9 h9 => ?_⟩) (HSS.out _ HBD.out) ?_
        · obtain ⟨⟨y9, x0, x1, x2, x3, x4, x5, _⟩, ⟨z9, z0, z1, z2⟩⟩ := h9; simp only at x1 x3 x4; go_simp
        refine held_one 7 (by kernel_rfl) rfl (by kernel_rfl) fun K hK => ?_
        go_simp
        go_wp2_with (go_at_call 136; refine Calls.mono (HLC.out _ HBD.out) ?_; rintro e v1 ⟨rfl, hu⟩; have HV1 : Hid (Below W0.heap.size W0 v1) := HBD.out.trans (hu.mono HBD.out.size); clear hu)
        refine hK _ _ (HSS.out _ HV1.out) ?_
        clear hK K
        refine wpAnyH_take (i := 8) (v := .bool false) rfl (by kernel_rfl) (by kernel_rfl) (by kernel_rfl) (fun _ _ _ h => h) (Or.inl ⟨by kernel_rfl, fun w9 h9 => ?_⟩) (HSS.out _ HV1.out) ?_
        · go_simp
        refine wpAnyH_take (i := 9) (v := .bool false) rfl (by kernel_rfl) (by kernel_rfl) (by kernel_rfl) (fun _ _ _ h => h) (Or.inl ⟨by kernel_rfl, fun w9 h9 => ?_⟩) (HSS.out _ HV1.out) ?_
        · go_simp
        refine wpAnyH_take (i := 10) (v := .pointer (some ⟨B, 0, none⟩)) rfl (by kernel_rfl) (by kernel_rfl) (by kernel_rfl) (fun _ _ _ h => h) (Or.inl ⟨by kernel_rfl, fun w9 h9 => ?_⟩) (HSS.out _ HV1.out) ?_
        · go_simp
        refine wpAnyH_take (i := 11) (v := .pointer (some ⟨B, 0, none⟩)) rfl (by kernel_rfl) (by kernel_rfl) (by kernel_rfl) (fun _ _ _ h => h) (Or.inl ⟨by kernel_rfl, fun w9 h9 => ?_⟩) (HSS.out _ HV1.out) ?_
        · go_simp
        refine wpAnyH_take (i := 12) (v := .pointer (some ⟨B, 2, none⟩)) rfl (by kernel_rfl) (by kernel_rfl) (by kernel_rfl) (fun _ _ _ h => h) (Or.inl ⟨by kernel_rfl, fun w9 h9 => ?_⟩) (HSS.out _ HV1.out) ?_
        · go_simp
        refine wpAnyH_take (i := 13) (v := .agg #[.int .i64 2, .slice am h.ps.length km]) rfl (by kernel_rfl) (by kernel_rfl) (by kernel_rfl) (fun _ _ _ h => h) (Or.inl ⟨by kernel_rfl, fun w9 h9 => ?_⟩) (HSS.out _ HV1.out) ?_
        · obtain ⟨⟨y9, x0, x1, x2, x3, x4, x5, _⟩, ⟨z9, z0, z1, z2⟩⟩ := h9; simp only at x1 x3 x4; go_simp
        refine wpAnyH_take (i := 14) (v := .agg #[.int .i64 x.kind, .int .i64 x.pos, .int .i64 x.used]) rfl (by kernel_rfl) (by kernel_rfl) (by kernel_rfl) (fun _ _ _ h => h) (Or.inl ⟨by kernel_rfl, fun w9 h9 => ?_⟩) (HSS.out _ HV1.out) ?_
        · obtain ⟨⟨y9, x0, x1, x2, x3, x4, x5, _⟩, ⟨z9, z0, z1, z2⟩⟩ := h9; simp only at x1 x3 x4; go_simp
        refine held_one 15 (by kernel_rfl) rfl (by kernel_rfl) fun K hK => ?_
        go_simp
        go_wp2_with (go_at_call 137; refine Calls.mono (HLP.out _ HV1.out) ?_; rintro e v2 ⟨rfl, hu⟩; have HV2 : Hid (Below W0.heap.size W0 v2) := HV1.out.trans (hu.mono HV1.out.size); clear hu)
        refine hK _ _ (HSS.out _ HV2.out) ?_
        clear hK K
        refine wpAnyH_take (i := 16) (v := .bool L) rfl (by kernel_rfl) (by kernel_rfl) (by kernel_rfl) (fun _ _ _ h => h) (Or.inl ⟨by kernel_rfl, fun w9 h9 => ?_⟩) (HSS.out _ HV2.out) ?_
        · go_simp
        refine wpAnyH_take (i := 17) (v := .bool L) rfl (by kernel_rfl) (by kernel_rfl) (by kernel_rfl) (fun _ _ _ h => h) (Or.inl ⟨by kernel_rfl, fun w9 h9 => ?_⟩) (HSS.out _ HV2.out) ?_
        · go_simp
        refine wpAnyH_done (by kernel_rfl) ?_ _
        go_simp
        go_wp2
        go_meet
        case rel => exact ⟨rfl, HV2.out⟩
  case rest =>
  obtain ⟨rfl, hbe⟩ := hcut
  have HBE : Hid (Below W0.heap.size W0 wc) := hbe
  have HBD2 : Hid (Below W0.heap.size W0 wc.drew) := hbe.trans ((Below.refl _ _).drew.mono hbe.size)
  clear hbe HLC HLP HLD
  go_upto_region 3 with fail
  cases L with
  | false =>
    have hg : G = false := by rw [← HG.out]; rfl
    subst hg
    refine wp_region_held (S := fun w9 => QH w9 B h ⟨.slice al h.cs.length kl, .slice am h.ps.length km, .slice ac qs.length kc, qs⟩ ∧ SB w9 b x) (by kernel_rfl) ?_
    change wpAnyH _ _ _ _ _ _ _ _ (World.drew _)
    refine wpAnyH_take (i := 0) (v := .bool false) rfl (by kernel_rfl) (by kernel_rfl) (by kernel_rfl) (fun _ _ _ h => h) (Or.inl ⟨by kernel_rfl, fun w9 h9 => ?_⟩) (HSS.out _ HBD2.out) ?_
    · go_simp
    refine wpAnyH_take (i := 1) (v := .bool false) rfl (by kernel_rfl) (by kernel_rfl) (by kernel_rfl) (fun _ _ _ h => h) (Or.inl ⟨by kernel_rfl, fun w9 h9 => ?_⟩) (HSS.out _ HBD2.out) ?_
    · go_simp
    refine wpAnyH_take (i := 2) (v := undef) rfl (by kernel_rfl) (by kernel_rfl) (by kernel_rfl) (fun _ _ _ h => h) (Or.inr ⟨by kernel_rfl, rfl⟩) (HSS.out _ HBD2.out) ?_
    refine wpAnyH_take (i := 3) (v := undef) rfl (by kernel_rfl) (by kernel_rfl) (by kernel_rfl) (fun _ _ _ h => h) (Or.inr ⟨by kernel_rfl, rfl⟩) (HSS.out _ HBD2.out) ?_
    refine wpAnyH_take (i := 4) (v := undef) rfl (by kernel_rfl) (by kernel_rfl) (by kernel_rfl) (fun _ _ _ h => h) (Or.inr ⟨by kernel_rfl, rfl⟩) (HSS.out _ HBD2.out) ?_
    refine wpAnyH_take (i := 5) (v := .bool false) rfl (by kernel_rfl) (by kernel_rfl) (by kernel_rfl) (fun _ _ _ h => h) (Or.inl ⟨by kernel_rfl, fun w9 h9 => ?_⟩) (HSS.out _ HBD2.out) ?_
    · go_simp
    refine wpAnyH_take (i := 6) (v := .bool false) rfl (by kernel_rfl) (by kernel_rfl) (by kernel_rfl) (fun _ _ _ h => h) (Or.inl ⟨by kernel_rfl, fun w9 h9 => ?_⟩) (HSS.out _ HBD2.out) ?_
    · go_simp
    refine wpAnyH_take (i := 7) (v := undef) rfl (by kernel_rfl) (by kernel_rfl) (by kernel_rfl) (fun _ _ _ h => h) (Or.inr ⟨by kernel_rfl, rfl⟩) (HSS.out _ HBD2.out) ?_
    refine wpAnyH_take (i := 8) (v := undef) rfl (by kernel_rfl) (by kernel_rfl) (by kernel_rfl) (fun _ _ _ h => h) (Or.inr ⟨by kernel_rfl, rfl⟩) (HSS.out _ HBD2.out) ?_
    refine wpAnyH_take (i := 9) (v := undef) rfl (by kernel_rfl) (by kernel_rfl) (by kernel_rfl) (fun _ _ _ h => h) (Or.inr ⟨by kernel_rfl, rfl⟩) (HSS.out _ HBD2.out) ?_
    refine wpAnyH_take (i := 10) (v := undef) rfl (by kernel_rfl) (by kernel_rfl) (by kernel_rfl) (fun _ _ _ h => h) (Or.inr ⟨by kernel_rfl, rfl⟩) (HSS.out _ HBD2.out) ?_
    refine wpAnyH_take (i := 11) (v := undef) rfl (by kernel_rfl) (by kernel_rfl) (by kernel_rfl) (fun _ _ _ h => h) (Or.inr ⟨by kernel_rfl, rfl⟩) (HSS.out _ HBD2.out) ?_
    refine wpAnyH_take (i := 12) (v := undef) rfl (by kernel_rfl) (by kernel_rfl) (by kernel_rfl) (fun _ _ _ h => h) (Or.inr ⟨by kernel_rfl, rfl⟩) (HSS.out _ HBD2.out) ?_
    refine wpAnyH_take (i := 13) (v := undef) rfl (by kernel_rfl) (by kernel_rfl) (by kernel_rfl) (fun _ _ _ h => h) (Or.inr ⟨by kernel_rfl, rfl⟩) (HSS.out _ HBD2.out) ?_
    refine wpAnyH_take (i := 14) (v := .bool false) rfl (by kernel_rfl) (by kernel_rfl) (by kernel_rfl) (fun _ _ _ h => h) (Or.inl ⟨by kernel_rfl, fun w9 h9 => ?_⟩) (HSS.out _ HBD2.out) ?_
    · go_simp
    refine wpAnyH_take (i := 15) (v := .bool false) rfl (by kernel_rfl) (by kernel_rfl) (by kernel_rfl) (fun _ _ _ h => h) (Or.inl ⟨by kernel_rfl, fun w9 h9 => ?_⟩) (HSS.out _ HBD2.out) ?_
    · go_simp
    refine wpAnyH_done (by kernel_rfl) ?_ _
    go_simp
    go_wp2
    go_ret
    exact ⟨rfl, HWR.out _ HBD2.out⟩
  | true =>
  rw [Bool.true_and] at HG
  by_cases h0 : 0 ≤ x.used
  case neg =>
    have hg : G = false := by rw [← HG.out, decide_eq_false h0]; rfl
    subst hg
    have hd0 : decide (0 ≤ x.used) = false := decide_eq_false h0
    refine wp_region_held (S := fun w9 => QH w9 B h ⟨.slice al h.cs.length kl, .slice am h.ps.length km, .slice ac qs.length kc, qs⟩ ∧ SB w9 b x) (by kernel_rfl) ?_
    change wpAnyH _ _ _ _ _ _ _ _ (World.drew _)
    refine wpAnyH_take (i := 0) (v := .bool true) rfl (by kernel_rfl) (by kernel_rfl) (by kernel_rfl) (fun _ _ _ h => h) (Or.inl ⟨by kernel_rfl, fun w9 h9 => ?_⟩) (HSS.out _ HBD2.out) ?_
    · go_simp
    refine wpAnyH_take (i := 1) (v := .bool true) rfl (by kernel_rfl) (by kernel_rfl) (by kernel_rfl) (fun _ _ _ h => h) (Or.inl ⟨by kernel_rfl, fun w9 h9 => ?_⟩) (HSS.out _ HBD2.out) ?_
    · go_simp
    refine wpAnyH_take (i := 2) (v := .pointer (some ⟨b, 2, none⟩)) rfl (by kernel_rfl) (by kernel_rfl) (by kernel_rfl) (fun _ _ _ h => h) (Or.inl ⟨by kernel_rfl, fun w9 h9 => ?_⟩) (HSS.out _ HBD2.out) ?_
    · go_simp
    refine wpAnyH_take (i := 3) (v := .int .i64 x.used) rfl (by kernel_rfl) (by kernel_rfl) (by kernel_rfl) (fun _ _ _ h => h) (Or.inl ⟨by kernel_rfl, fun w9 h9 => ?_⟩) (HSS.out _ HBD2.out) ?_
    · obtain ⟨⟨y9, x0, x1, x2, x3, x4, x5, _⟩, ⟨z9, z0, z1, z2⟩⟩ := h9; simp only at x1 x3 x4; go_simp
    refine wpAnyH_take (i := 4) (v := .bool false) rfl (by kernel_rfl) (by kernel_rfl) (by kernel_rfl) (fun _ _ _ h => h) (Or.inl ⟨by kernel_rfl, fun w9 h9 => ?_⟩) (HSS.out _ HBD2.out) ?_
    · go_simp; all_goals omega
    refine wpAnyH_take (i := 5) (v := .bool false) rfl (by kernel_rfl) (by kernel_rfl) (by kernel_rfl) (fun _ _ _ h => h) (Or.inl ⟨by kernel_rfl, fun w9 h9 => ?_⟩) (HSS.out _ HBD2.out) ?_
    · go_simp
    refine wpAnyH_take (i := 6) (v := .bool false) rfl (by kernel_rfl) (by kernel_rfl) (by kernel_rfl) (fun _ _ _ h => h) (Or.inl ⟨by kernel_rfl, fun w9 h9 => ?_⟩) (HSS.out _ HBD2.out) ?_
    · go_simp
    refine wpAnyH_take (i := 7) (v := undef) rfl (by kernel_rfl) (by kernel_rfl) (by kernel_rfl) (fun _ _ _ h => h) (Or.inr ⟨by kernel_rfl, rfl⟩) (HSS.out _ HBD2.out) ?_
    refine wpAnyH_take (i := 8) (v := undef) rfl (by kernel_rfl) (by kernel_rfl) (by kernel_rfl) (fun _ _ _ h => h) (Or.inr ⟨by kernel_rfl, rfl⟩) (HSS.out _ HBD2.out) ?_
    refine wpAnyH_take (i := 9) (v := undef) rfl (by kernel_rfl) (by kernel_rfl) (by kernel_rfl) (fun _ _ _ h => h) (Or.inr ⟨by kernel_rfl, rfl⟩) (HSS.out _ HBD2.out) ?_
    refine wpAnyH_take (i := 10) (v := undef) rfl (by kernel_rfl) (by kernel_rfl) (by kernel_rfl) (fun _ _ _ h => h) (Or.inr ⟨by kernel_rfl, rfl⟩) (HSS.out _ HBD2.out) ?_
    refine wpAnyH_take (i := 11) (v := undef) rfl (by kernel_rfl) (by kernel_rfl) (by kernel_rfl) (fun _ _ _ h => h) (Or.inr ⟨by kernel_rfl, rfl⟩) (HSS.out _ HBD2.out) ?_
    refine wpAnyH_take (i := 12) (v := undef) rfl (by kernel_rfl) (by kernel_rfl) (by kernel_rfl) (fun _ _ _ h => h) (Or.inr ⟨by kernel_rfl, rfl⟩) (HSS.out _ HBD2.out) ?_
    refine wpAnyH_take (i := 13) (v := undef) rfl (by kernel_rfl) (by kernel_rfl) (by kernel_rfl) (fun _ _ _ h => h) (Or.inr ⟨by kernel_rfl, rfl⟩) (HSS.out _ HBD2.out) ?_
    refine wpAnyH_take (i := 14) (v := .bool false) rfl (by kernel_rfl) (by kernel_rfl) (by kernel_rfl) (fun _ _ _ h => h) (Or.inl ⟨by kernel_rfl, fun w9 h9 => ?_⟩) (HSS.out _ HBD2.out) ?_
    · go_simp
    refine wpAnyH_take (i := 15) (v := .bool false) rfl (by kernel_rfl) (by kernel_rfl) (by kernel_rfl) (fun _ _ _ h => h) (Or.inl ⟨by kernel_rfl, fun w9 h9 => ?_⟩) (HSS.out _ HBD2.out) ?_
    · go_simp
    refine wpAnyH_done (by kernel_rfl) ?_ _
    go_simp
    go_wp2
    go_ret
    exact ⟨rfl, HWR.out _ HBD2.out⟩
  have hd0 : decide (0 ≤ x.used) = true := decide_eq_true h0
  rw [hd0, Bool.true_and] at HG
  have hg : decide (x.used ≤ h.time) = G := HG.out
  subst hg
  refine wp_region_held (S := fun w9 => QH w9 B h ⟨.slice al h.cs.length kl, .slice am h.ps.length km, .slice ac qs.length kc, qs⟩ ∧ SB w9 b x) (by kernel_rfl) ?_
  change wpAnyH _ _ _ _ _ _ _ _ (World.drew _)
  refine wpAnyH_take (i := 0) (v := .bool true) rfl (by kernel_rfl) (by kernel_rfl) (by kernel_rfl) (fun _ _ _ h => h) (Or.inl ⟨by kernel_rfl, fun w9 h9 => ?_⟩) (HSS.out _ HBD2.out) ?_
  · go_simp
  refine wpAnyH_take (i := 1) (v := .bool true) rfl (by kernel_rfl) (by kernel_rfl) (by kernel_rfl) (fun _ _ _ h => h) (Or.inl ⟨by kernel_rfl, fun w9 h9 => ?_⟩) (HSS.out _ HBD2.out) ?_
  · go_simp
  refine wpAnyH_take (i := 2) (v := .pointer (some ⟨b, 2, none⟩)) rfl (by kernel_rfl) (by kernel_rfl) (by kernel_rfl) (fun _ _ _ h => h) (Or.inl ⟨by kernel_rfl, fun w9 h9 => ?_⟩) (HSS.out _ HBD2.out) ?_
  · go_simp
  refine wpAnyH_take (i := 3) (v := .int .i64 x.used) rfl (by kernel_rfl) (by kernel_rfl) (by kernel_rfl) (fun _ _ _ h => h) (Or.inl ⟨by kernel_rfl, fun w9 h9 => ?_⟩) (HSS.out _ HBD2.out) ?_
  · obtain ⟨⟨y9, x0, x1, x2, x3, x4, x5, _⟩, ⟨z9, z0, z1, z2⟩⟩ := h9; simp only at x1 x3 x4; go_simp
  refine wpAnyH_take (i := 4) (v := .bool true) rfl (by kernel_rfl) (by kernel_rfl) (by kernel_rfl) (fun _ _ _ h => h) (Or.inl ⟨by kernel_rfl, fun w9 h9 => ?_⟩) (HSS.out _ HBD2.out) ?_
  · go_simp; all_goals omega
  refine wpAnyH_take (i := 5) (v := .bool true) rfl (by kernel_rfl) (by kernel_rfl) (by kernel_rfl) (fun _ _ _ h => h) (Or.inl ⟨by kernel_rfl, fun w9 h9 => ?_⟩) (HSS.out _ HBD2.out) ?_
  · go_simp
  refine wpAnyH_take (i := 6) (v := .bool true) rfl (by kernel_rfl) (by kernel_rfl) (by kernel_rfl) (fun _ _ _ h => h) (Or.inl ⟨by kernel_rfl, fun w9 h9 => ?_⟩) (HSS.out _ HBD2.out) ?_
  · go_simp
  refine wpAnyH_take (i := 7) (v := .pointer (some ⟨b, 2, none⟩)) rfl (by kernel_rfl) (by kernel_rfl) (by kernel_rfl) (fun _ _ _ h => h) (Or.inl ⟨by kernel_rfl, fun w9 h9 => ?_⟩) (HSS.out _ HBD2.out) ?_
  · go_simp
  refine wpAnyH_take (i := 8) (v := .int .i64 x.used) rfl (by kernel_rfl) (by kernel_rfl) (by kernel_rfl) (fun _ _ _ h => h) (Or.inl ⟨by kernel_rfl, fun w9 h9 => ?_⟩) (HSS.out _ HBD2.out) ?_
  · obtain ⟨⟨y9, x0, x1, x2, x3, x4, x5, _⟩, ⟨z9, z0, z1, z2⟩⟩ := h9; simp only at x1 x3 x4; go_simp
  refine wpAnyH_take (i := 9) (v := .pointer (some ⟨B, 0, none⟩)) rfl (by kernel_rfl) (by kernel_rfl) (by kernel_rfl) (fun _ _ _ h => h) (Or.inl ⟨by kernel_rfl, fun w9 h9 => ?_⟩) (HSS.out _ HBD2.out) ?_
  · go_simp
  refine wpAnyH_take (i := 10) (v := .pointer (some ⟨B, 0, none⟩)) rfl (by kernel_rfl) (by kernel_rfl) (by kernel_rfl) (fun _ _ _ h => h) (Or.inl ⟨by kernel_rfl, fun w9 h9 => ?_⟩) (HSS.out _ HBD2.out) ?_
  · go_simp
  refine wpAnyH_take (i := 11) (v := .pointer (some ⟨B, 5, none⟩)) rfl (by kernel_rfl) (by kernel_rfl) (by kernel_rfl) (fun _ _ _ h => h) (Or.inl ⟨by kernel_rfl, fun w9 h9 => ?_⟩) (HSS.out _ HBD2.out) ?_
  · go_simp
  refine wpAnyH_take (i := 12) (v := .int .i64 h.time) rfl (by kernel_rfl) (by kernel_rfl) (by kernel_rfl) (fun _ _ _ h => h) (Or.inl ⟨by kernel_rfl, fun w9 h9 => ?_⟩) (HSS.out _ HBD2.out) ?_
  · obtain ⟨⟨y9, x0, x1, x2, x3, x4, x5, _⟩, ⟨z9, z0, z1, z2⟩⟩ := h9; simp only at x1 x3 x4; go_simp
  refine wpAnyH_take (i := 13) (v := .bool (decide (x.used ≤ h.time))) rfl (by kernel_rfl) (by kernel_rfl) (by kernel_rfl) (fun _ _ _ h => h) (Or.inl ⟨by kernel_rfl, fun w9 h9 => ?_⟩) (HSS.out _ HBD2.out) ?_
  · go_simp; all_goals omega
  refine wpAnyH_take (i := 14) (v := .bool (decide (x.used ≤ h.time))) rfl (by kernel_rfl) (by kernel_rfl) (by kernel_rfl) (fun _ _ _ h => h) (Or.inl ⟨by kernel_rfl, fun w9 h9 => ?_⟩) (HSS.out _ HBD2.out) ?_
  · go_simp
  refine wpAnyH_take (i := 15) (v := .bool (decide (x.used ≤ h.time))) rfl (by kernel_rfl) (by kernel_rfl) (by kernel_rfl) (fun _ _ _ h => h) (Or.inl ⟨by kernel_rfl, fun w9 h9 => ?_⟩) (HSS.out _ HBD2.out) ?_
  · go_simp
  refine wpAnyH_done (by kernel_rfl) ?_ _
  go_simp
  go_wp2
  go_ret
  exact ⟨rfl, HWR.out _ HBD2.out⟩
end Go.Proofs.Ytomfbiiegcmmlab
