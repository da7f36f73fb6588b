import Derived.Test.YtdddldkcojamkabFc2
import Derived.Deep.DeepCutAuto
namespace Go.Proofs.Ytdddldkcojamkab
open Go.ChangeShapes Go.WideShapes Go.ChangeAt Go.RowKit

theorem slTo (s : ByteArray) (b : Nat) (y : Int) (hy : y = b) (h2 : b ≤ s.size) (w : World) : Sem.run Try.prog (Instr.slice 9 (.string s) none (some (.int .i64 y)) none) w = .ok (.string (s.extract 0 b)) w := by
  subst hy
  rw [run_slice_string_to_if _ _ _ _ _ Try.underlying9, if_pos (by omega)]
  rfl
theorem crV_size (s : ByteArray) (tw : Int) (d : ByteArray) : (crV s tw d).size = d.size := by
  show (crK (hdS s tw) d.data.toList d.size).toArray.size = d.size
  rw [List.size_toArray, crK_len]
  simp
theorem eq_str (a : ByteArray) : (a.toList == a.toList) = true := beq_self_eq_true _
set_option maxRecDepth 100000 in
set_option maxHeartbeats 4000000 in
theorem walkFC (a : Option Addr) (len cap : Nat) (w : World) (hcode : CodeAt w w.heap.size a len) (hl : len ≤ 1048576) :
    Calls Try.prog 8 #[.slice a len cap] w fun e w' => e = .returned (.bool true) ∧ Below w.heap.size w w' := by
  have HC : Hid (CodeAt w w.heap.size a len) := hcode
  clear hcode
  have e0 : decide (1048576 < (len : Int)) = false := decide_eq_false (by omega)
  go_enter Try.func8, Try.ntmps8
  go_wp2_with fail
  refine (drawCrypt_any a len cap w HC.out hl).mono ?_
  rintro e w1 ⟨s, tw, d, rfl, hs, hd, hb1⟩
  have HB1 : Hid (Below w.heap.size w w1) := hb1
  clear hb1
  have HIM : Hid (∀ u, Calls Try.prog 27 #[.string s, .int .i64 tw, .string d] u fun e w' => e = .returned (.string (cryV s tw d)) ∧ Below u.heap.size u w') := fun u => implCrypt_any s tw d u (by omega) (by omega)
  have HSP : Hid (∀ u, Calls Try.prog 28 #[.string s, .int .i64 tw, .string d] u fun e w' => e = .returned (.string (cryV s tw d)) ∧ Below u.heap.size u w') := fun u => specCrypt_any s tw d u
  cases hk : decide (4096 < (s.size : Int))
  · have hk2 : s.size ≤ 4096 := by have := of_decide_eq_false hk; omega
    have hcv : cryV s tw d = crV s tw d := cryV_in hk2 (by omega)
    rw [hcv] at HIM HSP
    have hcs := crV_size s tw d
    have HI2 : Hid (∀ u, Calls Try.prog 27 #[.string s, .int .i64 tw, .string (crV s tw d)] u fun e w' => e = .returned (.string d) ∧ Below u.heap.size u w') := (fun u => by
      have h := implCrypt_any s tw (crV s tw d) u (by omega) (by rw [hcs]; omega)
      rw [cryV_in hk2 (by rw [hcs]; omega), crV_twice] at h
      exact h)
    have HI3 : Hid (∀ u, Calls Try.prog 27 #[.string s, .int .i64 tw, .string (d.extract 0 (d.size / 2))] u fun e w' => e = .returned (.string ((crV s tw d).extract 0 (d.size / 2))) ∧ Below u.heap.size u w') := (fun u => by
      have hz : (d.extract 0 (d.size / 2)).size ≤ 65536 := by rw [ByteArray.size_extract]; omega
      have h := implCrypt_any s tw (d.extract 0 (d.size / 2)) u (by omega) (by omega)
      rw [cryV_in hk2 hz, crV_cut s tw d (d.size / 2) (by omega)] at h
      exact h)
    have sl1 := fun u => slTo d (d.size / 2) ((d.size : Int) / 2) (by omega) (by omega) u
    have sl2 := fun u => slTo (crV s tw d) (d.size / 2) ((d.size : Int) / 2) (by omega) (by omega) u
    have hw2 : IntKind.i64.wrap ((d.size : Int) / 2) = (d.size : Int) / 2 := by rw [IntKind.wrap_i64]; omega
    have q2 := eq_str d
    have q3 := eq_str ((crV s tw d).extract 0 (d.size / 2))
    have q1 := eq_str (crV s tw d)
    generalize d.extract 0 (d.size / 2) = dh at *
    generalize (crV s tw d).extract 0 (d.size / 2) = ch at *
    generalize crV s tw d = C at *
    clear hcv hcs hk2
    go_wp2_with fail
    refine Calls.mono (HIM.out _) ?_
    rintro e w2 ⟨rfl, hu⟩
    have HB2 : Hid (Below w.heap.size w w2) := HB1.out.trans (hu.mono HB1.out.size)
    clear hu HB1
    go_wp2_with fail
    refine Calls.mono (HSP.out _) ?_
    rintro e w3 ⟨rfl, hu⟩
    have HB3 : Hid (Below w.heap.size w w3) := HB2.out.trans (hu.mono HB2.out.size)
    clear hu HB2
    go_upto_region 7 with fail
    have HBD : Hid (Below w.heap.size w w3.drew) := bdn HB3.out 1
    refine wp_region_held (S := fun _ => True) (by kernel_rfl) ?_
    change wpAnyH _ _ _ _ _ _ _ _ (World.drew _)
    refine wpAnyH_take (i := 0) (v := .string s) rfl (by kernel_rfl) (by kernel_rfl) (by kernel_rfl) (fun _ _ _ h => h) (Or.inl ⟨by kernel_rfl, fun w9 h9 => ?_⟩) trivial ?_
    · go_simp
    refine wpAnyH_take (i := 1) (v := .int .i64 tw) rfl (by kernel_rfl) (by kernel_rfl) (by kernel_rfl) (fun _ _ _ h => h) (Or.inl ⟨by kernel_rfl, fun w9 h9 => ?_⟩) trivial ?_
    · go_simp
    refine wpAnyH_take (i := 2) (v := .string C) rfl (by kernel_rfl) (by kernel_rfl) (by kernel_rfl) (fun _ _ _ h => h) (Or.inl ⟨by kernel_rfl, fun w9 h9 => ?_⟩) trivial ?_
    · go_simp
    refine wpAnyH_take (i := 4) (v := .string d) rfl (by kernel_rfl) (by kernel_rfl) (by kernel_rfl) (fun _ _ _ h => h) (Or.inl ⟨by kernel_rfl, fun w9 h9 => ?_⟩) trivial ?_
    · go_simp
    refine held_one 3 (by kernel_rfl) rfl (by kernel_rfl) fun K hK => ?_
    go_simp
    go_wp2_with (go_at_call 27; refine Calls.mono (HI2.out _) ?_; rintro e v1 ⟨rfl, hu⟩; have HV1 : Hid (Below w.heap.size w v1) := HBD.out.trans (hu.mono HBD.out.size); clear hu)
    refine hK _ _ trivial ?_
    clear hK K
    refine wpAnyH_take (i := 5) (v := .bool false) rfl (by kernel_rfl) (by kernel_rfl) (by kernel_rfl) (fun _ _ _ h => h) (Or.inl ⟨by kernel_rfl, fun w9 h9 => ?_⟩) trivial ?_
    · go_simp
    refine wpAnyH_take (i := 6) (v := .bool false) rfl (by kernel_rfl) (by kernel_rfl) (by kernel_rfl) (fun _ _ _ h => h) (Or.inl ⟨by kernel_rfl, fun w9 h9 => ?_⟩) trivial ?_
    · go_simp
    refine wpAnyH_take (i := 7) (v := .string s) rfl (by kernel_rfl) (by kernel_rfl) (by kernel_rfl) (fun _ _ _ h => h) (Or.inl ⟨by kernel_rfl, fun w9 h9 => ?_⟩) trivial ?_
    · go_simp
    refine wpAnyH_take (i := 8) (v := .int .i64 tw) rfl (by kernel_rfl) (by kernel_rfl) (by kernel_rfl) (fun _ _ _ h => h) (Or.inl ⟨by kernel_rfl, fun w9 h9 => ?_⟩) trivial ?_
    · go_simp
    refine wpAnyH_take (i := 9) (v := .string d) rfl (by kernel_rfl) (by kernel_rfl) (by kernel_rfl) (fun _ _ _ h => h) (Or.inl ⟨by kernel_rfl, fun w9 h9 => ?_⟩) trivial ?_
    · go_simp
    refine wpAnyH_take (i := 10) (v := .string d) rfl (by kernel_rfl) (by kernel_rfl) (by kernel_rfl) (fun _ _ _ h => h) (Or.inl ⟨by kernel_rfl, fun w9 h9 => ?_⟩) trivial ?_
    · go_simp
    refine wpAnyH_take (i := 11) (v := .int .i64 (d.size : Nat)) rfl (by kernel_rfl) (by kernel_rfl) (by kernel_rfl) (fun _ _ _ h => h) (Or.inl ⟨by kernel_rfl, fun w9 h9 => ?_⟩) trivial ?_
    · go_simp
    refine wpAnyH_take (i := 12) (v := .int .i64 ((d.size : Int) / 2)) rfl (by kernel_rfl) (by kernel_rfl) (by kernel_rfl) (fun _ _ _ h => h) (Or.inl ⟨by kernel_rfl, fun w9 h9 => ?_⟩) trivial ?_
    · go_simp
    refine wpAnyH_take (i := 13) (v := .string dh) rfl (by kernel_rfl) (by kernel_rfl) (by kernel_rfl) (fun _ _ _ h => h) (Or.inl ⟨by kernel_rfl, fun w9 h9 => ?_⟩) trivial ?_
    · go_simp
    refine wpAnyH_take (i := 15) (v := .string C) rfl (by kernel_rfl) (by kernel_rfl) (by kernel_rfl) (fun _ _ _ h => h) (Or.inl ⟨by kernel_rfl, fun w9 h9 => ?_⟩) trivial ?_
    · go_simp
    refine wpAnyH_take (i := 16) (v := .string d) rfl (by kernel_rfl) (by kernel_rfl) (by kernel_rfl) (fun _ _ _ h => h) (Or.inl ⟨by kernel_rfl, fun w9 h9 => ?_⟩) trivial ?_
    · go_simp
    refine wpAnyH_take (i := 17) (v := .int .i64 (d.size : Nat)) rfl (by kernel_rfl) (by kernel_rfl) (by kernel_rfl) (fun _ _ _ h => h) (Or.inl ⟨by kernel_rfl, fun w9 h9 => ?_⟩) trivial ?_
    · go_simp
    refine wpAnyH_take (i := 18) (v := .int .i64 ((d.size : Int) / 2)) rfl (by kernel_rfl) (by kernel_rfl) (by kernel_rfl) (fun _ _ _ h => h) (Or.inl ⟨by kernel_rfl, fun w9 h9 => ?_⟩) trivial ?_
    · go_simp
    refine wpAnyH_take (i := 19) (v := .string ch) rfl (by kernel_rfl) (by kernel_rfl) (by kernel_rfl) (fun _ _ _ h => h) (Or.inl ⟨by kernel_rfl, fun w9 h9 => ?_⟩) trivial ?_
    · go_simp
    refine held_one 14 (by kernel_rfl) rfl (by kernel_rfl) fun K hK => ?_
    go_simp
    go_wp2_with (go_at_call 27; refine Calls.mono (HI3.out _) ?_; rintro e v2 ⟨rfl, hu⟩; have HV2 : Hid (Below w.heap.size w v2) := HV1.out.trans (hu.mono HV1.out.size); clear hu)
    refine hK _ _ trivial ?_
    clear hK K
    refine wpAnyH_take (i := 20) (v := .bool false) rfl (by kernel_rfl) (by kernel_rfl) (by kernel_rfl) (fun _ _ _ h => h) (Or.inl ⟨by kernel_rfl, fun w9 h9 => ?_⟩) trivial ?_
    · go_simp
    refine wpAnyH_take (i := 21) (v := .bool false) rfl (by kernel_rfl) (by kernel_rfl) (by kernel_rfl) (fun _ _ _ h => h) (Or.inl ⟨by kernel_rfl, fun w9 h9 => ?_⟩) trivial ?_
    · go_simp
    refine wpAnyH_done (by kernel_rfl) ?_ _
    go_simp
    go_wp2_with fail
    refine (drawDiskC_any a len cap v2 (CodeAt.below HC.out HV2.out) hl).mono ?_
    rintro e w4 ⟨m, k, rfl, hm, hk4, hb4⟩
    have HB4 : Hid (Below w.heap.size w w4) := HV2.out.trans (hb4.mono HV2.out.size)
    clear hb4
    have HD1 : Hid (∀ u, Calls Try.prog 25 #[.string m, .string k] u fun e w' => e = .returned (.string (cdV m k)) ∧ Below u.heap.size u w') := fun u => implDiskC_any m k u
    have HD2 : Hid (∀ u, Calls Try.prog 24 #[.string m, .string k] u fun e w' => e = .returned (.string (cdV m k)) ∧ Below u.heap.size u w') := fun u => specDiskC_any m k u
    have HD3 : Hid (∀ u, Calls Try.prog 25 #[.string m, .string (cdV m k)] u fun e w' => e = .returned (.string (cdV m (cdV m k))) ∧ Below u.heap.size u w') := fun u => implDiskC_any m (cdV m k) u
    have qd := eq_str (cdV m k)
    clear sl1 sl2 q1 q2 q3 HI2 HI3 HIM HSP
    cases hcd : cdB m k
    · have hE : cdV m k = ⟨#[]⟩ := by simp [cdV, hcd]
      rw [hE] at HD1 HD2
      clear qd HD3 hE hcd
      go_wp2_with (first | (go_at_call 25; refine Calls.mono (HD1.out _) ?_; rintro e w5 ⟨rfl, hu⟩; have HB5 : Hid (Below w.heap.size w w5) := HB4.out.trans (hu.mono HB4.out.size); clear hu) | (go_at_call 24; refine Calls.mono (HD2.out _) ?_; rintro e w6 ⟨rfl, hu⟩; have HB6 : Hid (Below w.heap.size w w6) := HB5.out.trans (hu.mono HB5.out.size); clear hu))
      go_ret
      exact ⟨rfl, HB6.out⟩
    · have hT : cdV m (cdV m k) = k := cdV_twice m k hcd
      rw [hT] at HD3
      have qk := eq_str k
      generalize cdV m k = V at *
      clear hT hcd
      go_wp2_with fail
      refine Calls.mono (HD1.out _) ?_
      rintro e w5 ⟨rfl, hu⟩
      have HB5 : Hid (Below w.heap.size w w5) := HB4.out.trans (hu.mono HB4.out.size)
      clear hu
      go_wp2_with fail
      refine Calls.mono (HD2.out _) ?_
      rintro e w6 ⟨rfl, hu⟩
      have HB6 : Hid (Below w.heap.size w w6) := HB5.out.trans (hu.mono HB5.out.size)
      clear hu HD1 HD2
      go_wp2_with (go_at_call 25; refine Calls.mono (HD3.out _) ?_; rintro e w7 ⟨rfl, hu⟩; have HB7 : Hid (Below w.heap.size w w7) := HB6.out.trans (hu.mono HB6.out.size); clear hu)
      all_goals go_ret
      all_goals first | exact ⟨rfl, HB7.out⟩ | exact ⟨rfl, HB6.out⟩
  · have q1 := eq_str (cryV s tw d)
    generalize cryV s tw d = C at *
    go_wp2_with fail
    refine Calls.mono (HIM.out _) ?_
    rintro e w2 ⟨rfl, hu⟩
    have HB2 : Hid (Below w.heap.size w w2) := HB1.out.trans (hu.mono HB1.out.size)
    clear hu HB1
    go_wp2_with fail
    refine Calls.mono (HSP.out _) ?_
    rintro e w3 ⟨rfl, hu⟩
    have HB3 : Hid (Below w.heap.size w w3) := HB2.out.trans (hu.mono HB2.out.size)
    clear hu HB2
    go_wp2_with fail
    refine Calls.mono (HSP.out _) ?_
    rintro e w4 ⟨rfl, hu⟩
    have HB4 : Hid (Below w.heap.size w w4) := HB3.out.trans (hu.mono HB3.out.size)
    clear hu HB3
    go_wp2
    go_ret
    exact ⟨rfl, HB4.out⟩
end Go.Proofs.Ytdddldkcojamkab
