import Derived.Test.YtcglpigmellfcabSg1
import Derived.Test.YtcglpigmellfcabHl
namespace Go.Proofs.Ytcglpigmellfcab
open Go.ChangeShapes Go.WideShapes Go.ChangeAt Go.RowKit

def mkB (zs : List Int) (m : Int) : Bool := rgB zs && decide (0 ≤ m) && decide (m < 2 ^ zs.length)
theorem pow_le8 : ∀ n : Nat, n ≤ 8 → (2 : Int) ^ n ≤ 256
  | 0, _ => by decide
  | 1, _ => by decide
  | 2, _ => by decide
  | 3, _ => by decide
  | 4, _ => by decide
  | 5, _ => by decide
  | 6, _ => by decide
  | 7, _ => by decide
  | 8, _ => by decide
  | n + 9, h => absurd h (by omega)
theorem w64pow (n : Nat) (h : n ≤ 8) : wrap64 (2 ^ n) = 2 ^ n := by
  have h1 := pow_le8 n h
  have h2 : (0 : Int) < 2 ^ n := Int.pow_pos (by omega)
  generalize (2 : Int) ^ n = x at *
  unfold wrap64
  omega
set_option maxRecDepth 100000 in
set_option maxHeartbeats 4000000 in
theorem l15Mask_any {w : World} {v : Value} {zs : List Int} (h : Irow w v zs) (hl : zs.length ≤ 1048576) (m : Int) : Calls Try.prog 77 #[v, .int .i64 m] w fun e w' => e = .returned (.bool (mkB zs m)) ∧ Below w.heap.size w w' := by
  have H : Hid _ := l15Regs_any h hl
  obtain ⟨ao, cap, rfl⟩ := h.sl
  clear h
  cases hr : rgB zs
  · rw [hr] at H
    have E : Hid (mkB zs m = false) := (show mkB zs m = false by unfold mkB; rw [hr]; rfl)
    clear hr
    go_enter Try.func77, Try.ntmps77
    go_wp2_with (go_at_call 141; refine Calls.mono H.out ?_; rintro e u1 ⟨rfl, hu1⟩)
    go_ret
    exact ⟨ret_bool E.out.symm, hu1⟩
  · rw [hr] at H
    obtain ⟨r1, r2, -⟩ := rgB_b hr
    have E : Hid (mkB zs m = (decide (0 ≤ m) && decide (m < 2 ^ zs.length))) := (show mkB zs m = _ by unfold mkB; rw [hr]; rfl)
    clear hr
    cases h0 : decide (0 ≤ m)
    · rw [h0] at E
      go_enter Try.func77, Try.ntmps77
      go_wp2_with (go_at_call 141; refine Calls.mono H.out ?_; rintro e u1 ⟨rfl, hu1⟩)
      go_ret
      exact ⟨ret_bool E.out.symm, hu1⟩
    · rw [h0] at E
      have hp := w64pow zs.length r2
      go_enter Try.func77, Try.ntmps77
      go_wp2_with (go_at_call 141; refine Calls.mono H.out ?_; rintro e u1 ⟨rfl, hu1⟩)
      go_ret
      exact ⟨ret_bool E.out.symm, hu1⟩
/-- The bit of a register in a mask. -/
def mkT (m : Int) (k : Nat) : Bool := bits .and .i64 (m / 2 ^ k) 1 == 1
/-- The key behind the first k registers. -/
def kyK (root : ByteArray) (zs : List Int) (m : Int) : Nat → ByteArray
  | 0 => root
  | k + 1 => if mkT m k = true then kyK root zs m k ++ pw k ++ pw (zs.getD k 0) else kyK root zs m k
theorem kyK_size (root : ByteArray) (zs : List Int) (m : Int) : ∀ k, (kyK root zs m k).size ≤ root.size + 8 * k
  | 0 => Nat.le_refl _
  | k + 1 => by
    have ih := kyK_size root zs m k
    rw [kyK]
    split
    · rw [ByteArray.size_append, ByteArray.size_append, pw_size, pw_size]
      omega
    · omega
set_option maxRecDepth 100000 in
set_option maxHeartbeats 4000000 in
theorem keyOf_any {w : World} {v : Value} {zs : List Int} (h : Irow w v zs) (hl : zs.length ≤ 8) (root : ByteArray) (m : Int) (hr : root.size ≤ 4096) :
    Calls Try.prog 74 #[.string root, v, .int .i64 m] w fun e w' => ∃ r, e = .returned r ∧ KY w' r (kyK root zs m zs.length) ∧ Below w.heap.size w w' := by
  obtain ⟨ao, cap, rfl⟩ := h.sl
  have HR : Hid (Irow w (.slice ao zs.length cap) zs) := h
  clear h
  have hcv := bwk_conv w root
  have HK0 : Hid (KY (Lib.bytesWorld w 5 root) (.slice (some ⟨w.heap.size, 0, none⟩) root.size (grownCap w root.size 0 5)) root) := ky_conv w root
  have HB0 : Hid (Below w.heap.size w (Lib.bytesWorld w 5 root)) := bw_below w root
  generalize Lib.bytesWorld w 5 root = w1 at *
  generalize grownCap w root.size 0 5 = c0 at *
  go_enter Try.func74, Try.ntmps74
  go_wp2
  go_loopw [7, 14] (fun y i wr => ∃ k : Nat, k ≤ zs.length ∧ i = .int .i64 k ∧ KY wr y (kyK root zs m k) ∧ Below w.heap.size w wr) (fun _ i _ => zs.length - (intOf i).toNat)
  case atStart => exact ⟨0, Nat.zero_le _, rfl, HK0.out, HB0.out⟩
  case round =>
    obtain ⟨k, hk, rfl, hky, hb⟩ := hrel
    clear HK0 HB0
    obtain ⟨g1, c1, rfl, _⟩ := hky.sl
    have HB : Hid (Below w.heap.size w wr) := hb
    have HK : Hid (KY wr (.slice (some ⟨g1, 0, none⟩) (kyK root zs m k).size c1) (kyK root zs m k)) := hky
    clear hky
    have hsz := kyK_size root zs m k
    by_cases hlt : k < zs.length
    · obtain ⟨g, o, cap2, hv, _, hg, hc⟩ := HR.out.resolve_left (fun h => by rw [h.1] at hlt; simp at hlt)
      injection hv with hv1 hv2 hv3
      subst hv1 hv3
      have d0 := hc.below hb hg k hlt
      have hgw : g < wr.heap.size := Nat.lt_of_lt_of_le hg hb.size
      have HZ : Hid (zs.getD k 0 = zs[k]) := (show zs.getD k 0 = zs[k] by simp [List.getD, List.getElem?_eq_getElem hlt])
      have HN : Hid (kyK root zs m (k + 1) = if mkT m k = true then kyK root zs m k ++ pw k ++ pw (zs.getD k 0) else kyK root zs m k) := rfl
      rw [HZ.out] at HN
      generalize zs[k] = z at *
      have hk0 : (0 : Int) ≤ (k : Int) := by omega
      have hk1 : (k : Int) < (zs.length : Int) := by omega
      have HP : Hid ((kyK root zs m k).size + (pw k).size + (pw z).size ≤ 1048576) := (show (kyK root zs m k).size + (pw k).size + (pw z).size ≤ 1048576 by rw [pw_size, pw_size]; omega)
      clear hc hb
      generalize kyK root zs m k = S at *
      cases hT : mkT m k
      · have ht : (bits .and .i64 (m / 2 ^ k) 1 == 1) = false := hT
        have HN2 : Hid (kyK root zs m (k + 1) = S) := (show kyK root zs m (k + 1) = S by rw [HN.out, hT]; rfl)
        clear hT HN HP
        go_wp2
        exact ⟨⟨k + 1, hlt, by go_num, by rw [HN2.out]; exact HK.out, HB.out⟩, by simp [intOf]; omega⟩
      · have ht : (bits .and .i64 (m / 2 ^ k) 1 == 1) = true := hT
        have HN2 : Hid (kyK root zs m (k + 1) = S ++ pw k ++ pw z) := (show kyK root zs m (k + 1) = _ by rw [HN.out, hT]; rfl)
        clear hT HN
        go_wp2_with fail
        refine (implPutWord_any _ _).mono ?_
        rintro e u1 ⟨rfl, hb1⟩
        have HB1 : Hid _ := hb1
        clear hb1
        go_wp2_with fail
        refine (implPutWord_any _ _).mono ?_
        rintro e u2 ⟨rfl, hb2⟩
        have HB2 : Hid (Below wr.heap.size wr u2) := HB1.out.trans (hb2.mono HB1.out.size)
        clear hb2 HB1
        go_wp2_with fail
        refine (with_two (HK.out.below HB2.out) _ _ HP.out).mono ?_
        rw [← HN2.out]
        rintro e u3 ⟨r, rfl, hk3, hb3⟩
        have HB3 : Hid (Below w.heap.size w u3) := HB.out.trans ((HB2.out.trans (hb3.mono HB2.out.size)).mono HB.out.size)
        have HK3 : Hid _ := hk3
        obtain ⟨g3, c3, rfl, _⟩ := hk3.sl
        clear hk3 hb3
        go_wp2
        exact ⟨⟨k + 1, hlt, by go_num, HK3.out, HB3.out⟩, by simp [intOf]; omega⟩
    · obtain rfl : k = zs.length := by omega
      clear hb
      go_wp2
      go_ret
      exact ⟨_, rfl, HK.out, HB.out⟩
set_option maxRecDepth 100000 in
set_option maxHeartbeats 4000000 in
theorem l15Key_any {w : World} {v : Value} {zs : List Int} (h : Irow w v zs) (hl : zs.length ≤ 8) (root : ByteArray) (m : Int) (hr : root.size ≤ 4096) :
    Calls Try.prog 78 #[.string root, v, .int .i64 m] w fun e w' => e = .returned (.string (kyK root zs m zs.length)) ∧ Below w.heap.size w w' := by
  obtain ⟨ao, cap, rfl⟩ := h.sl
  have HR : Hid (Irow w (.slice ao zs.length cap) zs) := h
  clear h
  go_enter Try.func78, Try.ntmps78
  go_wp2
  go_loopw [0, 7] (fun y i wr => ∃ k : Nat, k ≤ zs.length ∧ i = .int .i64 k ∧ y = .string (kyK root zs m k) ∧ Below w.heap.size w wr) (fun _ i _ => zs.length - (intOf i).toNat)
  case atStart => exact ⟨0, Nat.zero_le _, rfl, rfl, Below.refl _ _⟩
  case round =>
    obtain ⟨k, hk, rfl, rfl, hb⟩ := hrel
    have HB : Hid (Below w.heap.size w wr) := hb
    have hsz := kyK_size root zs m k
    by_cases hlt : k < zs.length
    · obtain ⟨g, o, cap2, hv, _, hg, hc⟩ := HR.out.resolve_left (fun h => by rw [h.1] at hlt; simp at hlt)
      injection hv with hv1 hv2 hv3
      subst hv1 hv3
      have d0 := hc.below hb hg k hlt
      have hgw : g < wr.heap.size := Nat.lt_of_lt_of_le hg hb.size
      have HZ : Hid (zs.getD k 0 = zs[k]) := (show zs.getD k 0 = zs[k] by simp [List.getD, List.getElem?_eq_getElem hlt])
      have HN : Hid (kyK root zs m (k + 1) = if mkT m k = true then kyK root zs m k ++ pw k ++ pw (zs.getD k 0) else kyK root zs m k) := rfl
      rw [HZ.out] at HN
      generalize zs[k] = z at *
      have HDD : Hid (∀ u, Below w.heap.size w u → u.cell? ⟨g, o + k, none⟩ = some (.int .i64 z) ∧ g < u.heap.size) := (fun u hu => ⟨((bcell hu).1 g (o + k) hg).trans (((bcell hb).1 g (o + k) hg).symm.trans d0), Nat.lt_of_lt_of_le hg hu.size⟩)
      have hk0 : (0 : Int) ≤ (k : Int) := by omega
      have hk1 : (k : Int) < (zs.length : Int) := by omega
      clear hc hb
      generalize kyK root zs m k = S at *
      cases hT : mkT m k
      · have ht : (bits .and .i64 (m / 2 ^ k) 1 == 1) = false := hT
        have HN2 : Hid (kyK root zs m (k + 1) = S) := (show kyK root zs m (k + 1) = S by rw [HN.out, hT]; rfl)
        clear hT HN
        go_wp2
        exact ⟨⟨k + 1, hlt, by go_num, by rw [HN2.out], HB.out⟩, by simp [intOf]; omega⟩
      · have ht : (bits .and .i64 (m / 2 ^ k) 1 == 1) = true := hT
        have HN2 : Hid (kyK root zs m (k + 1) = S ++ pw k ++ pw z) := (show kyK root zs m (k + 1) = _ by rw [HN.out, hT]; rfl)
        clear hT HN
        have p1 : (pw k).size ≤ 4 := Nat.le_of_eq (pw_size _)
        have p2 : (pw z).size ≤ 4 := Nat.le_of_eq (pw_size _)
        have p3 : (S ++ pw k).size ≤ 8000 := by rw [ByteArray.size_append]; omega
        have a1 := fun w => run_string_add_sum (P := Try.prog) w S (pw k) (by omega)
        have a2 := fun w => run_string_add_sum (P := Try.prog) w (S ++ pw k) (pw z) (by omega)
        have HD : Hid (∀ u, Below w.heap.size w u → u.cell? ⟨g, o + k, none⟩ = some (.int .i64 z) ∧ g < u.heap.size) := HDD.out
        have HBD : Hid (Below w.heap.size w wr.drew) := HB.out.trans ((Below.refl _ _).drew.mono HB.out.size)
        clear HDD d0 hgw
        go_wp2_with fail
        refine wp_region_held (S := fun w9 => w9.cell? ⟨g, o + k, none⟩ = some (.int .i64 z) ∧ g < w9.heap.size) (by kernel_rfl) ?_
        change wpAnyH _ _ _ _ _ _ _ _ (World.drew _)
        refine wpAnyH_take (i := 0) (v := .string S) rfl (by kernel_rfl) (by kernel_rfl) (by kernel_rfl) (fun _ _ _ h => h) (Or.inl ⟨by kernel_rfl, fun w9 h9 => ?_⟩) (HD.out _ HBD.out) ?_
        · go_simp
        refine wpAnyH_take (i := 1) (v := .int .i64 (k : Nat)) rfl (by kernel_rfl) (by kernel_rfl) (by kernel_rfl) (fun _ _ _ h => h) (Or.inl ⟨by kernel_rfl, fun w9 h9 => ?_⟩) (HD.out _ HBD.out) ?_
        · go_simp
        refine wpAnyH_take (i := 4) (v := .slice (some ⟨g, o, none⟩) zs.length cap) rfl (by kernel_rfl) (by kernel_rfl) (by kernel_rfl) (fun _ _ _ h => h) (Or.inl ⟨by kernel_rfl, fun w9 h9 => ?_⟩) (HD.out _ HBD.out) ?_
        · go_simp
        refine wpAnyH_take (i := 5) (v := .int .i64 (k : Nat)) rfl (by kernel_rfl) (by kernel_rfl) (by kernel_rfl) (fun _ _ _ h => h) (Or.inl ⟨by kernel_rfl, fun w9 h9 => ?_⟩) (HD.out _ HBD.out) ?_
        · go_simp
        refine wpAnyH_take (i := 6) (v := .pointer (some ⟨g, o + k, none⟩)) rfl (by kernel_rfl) (by kernel_rfl) (by kernel_rfl) (fun _ _ _ h => h) (Or.inl ⟨by kernel_rfl, fun w9 h9 => ?_⟩) (HD.out _ HBD.out) ?_
        · go_simp
        refine wpAnyH_take (i := 7) (v := .int .i64 z) rfl (by kernel_rfl) (by kernel_rfl) (by kernel_rfl) (fun _ _ _ h => h) (Or.inl ⟨by kernel_rfl, fun w9 h9 => ?_⟩) (HD.out _ HBD.out) ?_
        · obtain ⟨x0, x1⟩ := h9; go_simp
        refine held_one 2 (by kernel_rfl) rfl (by kernel_rfl) fun K hK => ?_
        go_simp
        go_wp2_with (go_at_call 142; refine Calls.mono (specPutWord_any _ _) ?_; rintro e v1 ⟨rfl, hu⟩; have HV1 : Hid (Below w.heap.size w v1) := HBD.out.trans (hu.mono HBD.out.size); clear hu)
        refine hK _ _ (HD.out _ HV1.out) ?_
        clear hK K
        refine wpAnyH_take (i := 3) (v := .string (S ++ pw k)) rfl (by kernel_rfl) (by kernel_rfl) (by kernel_rfl) (fun _ _ _ h => h) (Or.inl ⟨by kernel_rfl, fun w9 h9 => ?_⟩) (HD.out _ HV1.out) ?_
        · go_simp
        refine held_one 8 (by kernel_rfl) rfl (by kernel_rfl) fun K hK => ?_
        go_simp
        go_wp2_with (go_at_call 142; refine Calls.mono (specPutWord_any _ _) ?_; rintro e v2 ⟨rfl, hu⟩; have HV2 : Hid (Below w.heap.size w v2) := HV1.out.trans (hu.mono HV1.out.size); clear hu)
        refine hK _ _ (HD.out _ HV2.out) ?_
        clear hK K
        refine wpAnyH_take (i := 9) (v := .string (S ++ pw k ++ pw z)) rfl (by kernel_rfl) (by kernel_rfl) (by kernel_rfl) (fun _ _ _ h => h) (Or.inl ⟨by kernel_rfl, fun w9 h9 => ?_⟩) (HD.out _ HV2.out) ?_
        · go_simp
        refine wpAnyH_take (i := 10) (v := .string (S ++ pw k ++ pw z)) rfl (by kernel_rfl) (by kernel_rfl) (by kernel_rfl) (fun _ _ _ h => h) (Or.inl ⟨by kernel_rfl, fun w9 h9 => ?_⟩) (HD.out _ HV2.out) ?_
        · go_simp
        refine wpAnyH_done (by kernel_rfl) ?_ _
        go_simp
        rw [← HN2.out]
        go_wp2
        exact ⟨⟨k + 1, hlt, by go_num, rfl, HV2.out⟩, by simp [intOf]; omega⟩
    · obtain rfl : k = zs.length := by omega
      clear hb
      go_wp2
      go_ret
      exact ⟨rfl, HB.out⟩
end Go.Proofs.Ytcglpigmellfcab
