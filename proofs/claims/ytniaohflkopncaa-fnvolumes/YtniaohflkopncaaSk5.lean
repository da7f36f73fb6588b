import Derived.Test.YtniaohflkopncaaSk4
namespace Go.Proofs.Ytniaohflkopncaa
open Go.ChangeShapes Go.WideShapes Go.ChangeAt Go.RowKit

theorem str_eq {a b : ByteArray} (h : a = b) : Ending.returned (Value.string a) = .returned (.string b) := by rw [h]
set_option maxRecDepth 100000 in
set_option maxHeartbeats 4000000 in
theorem implCrypt_any (s : ByteArray) (tw : Int) (d : ByteArray) (w : World) (hs : s.size ≤ 1048576) (hd : d.size ≤ 1048576) :
    Calls Try.prog 63 #[.string s, .int .i64 tw, .string d] w fun e w' => e = .returned (.string (cryV s tw d)) ∧ Below w.heap.size w w' := by
  have HT : Hid _ := fun u => tooLong_any d u
  have HO : Hid _ := fun u => over_one s u
  cases ho : ovB s
  · have hs2 := ovB_le ho
    rw [ho] at HO
    by_cases hl : 65536 < d.size
    · have hdd : decide (65536 < (d.size : Int)) = true := decide_eq_true (by omega)
      rw [hdd] at HT
      have E : Hid (cryV s tw d = ⟨#[]⟩) := (show cryV s tw d = ⟨#[]⟩ by unfold cryV; rw [if_pos (.inr hl)])
      clear hl hdd ho
      go_enter Try.func63, Try.ntmps63
      go_wp2_with (first | (go_at_call 101; refine Calls.mono (HT.out _) ?_; rintro e u2 ⟨rfl, hu2⟩; rw [hu2]; clear hu2) | (go_at_call 24; refine Calls.mono (HO.out _) ?_; rintro e u1 ⟨rfl, hu1⟩; have HB1 : Hid _ := hu1; clear hu1))
      go_ret
      exact ⟨str_eq E.out.symm, HB1.out⟩
    · have hdd : decide (65536 < (d.size : Int)) = false := decide_eq_false (by omega)
      rw [hdd] at HT
      have E : Hid (cryV s tw d = crV s tw d) := (show cryV s tw d = crV s tw d by unfold cryV; rw [if_neg (by simp [ho, hl])])
      clear hl hdd ho
      go_enter Try.func63, Try.ntmps63
      go_wp2_with (first | (go_at_call 101; refine Calls.mono (HT.out _) ?_; rintro e u2 ⟨rfl, hu2⟩; rw [hu2]; clear hu2; have hcv := bwk_conv u1 s) | (go_at_call 24; refine Calls.mono (HO.out _) ?_; rintro e u1 ⟨rfl, hu1⟩; have HB1 : Hid _ := hu1; clear hu1))
      refine (crypt_any (ky_conv u1 s) tw d (by omega) hd).mono ?_
      rintro e u3 ⟨rfl, hb3⟩
      have HB3 : Hid (Below w.heap.size w u3) := HB1.out.trans ((bw_below u1 s).trans (hb3.mono (bw_below u1 s).size) |>.mono HB1.out.size)
      clear hb3
      go_wp2
      go_ret
      exact ⟨str_eq E.out.symm, HB3.out⟩
  · rw [ho] at HO
    have E : Hid (cryV s tw d = ⟨#[]⟩) := (show cryV s tw d = ⟨#[]⟩ by unfold cryV; rw [if_pos (.inl ho)])
    clear ho
    go_enter Try.func63, Try.ntmps63
    go_wp2_with (first | (go_at_call 24; refine Calls.mono (HO.out _) ?_; rintro e u1 ⟨rfl, hu1⟩; have HB1 : Hid _ := hu1; clear hu1))
    go_ret
    exact ⟨str_eq E.out.symm, HB1.out⟩
set_option maxRecDepth 100000 in
set_option maxHeartbeats 4000000 in
theorem implTagOf_any (s d : ByteArray) (w : World) :
    Calls Try.prog 64 #[.string s, .string d] w fun e w' => e = .returned (.string (tgoV s d)) ∧ Below w.heap.size w w' := by
  have HO : Hid _ := fun u => over_two s d u
  cases ho : (ovB s || ovB d)
  · rw [ho] at HO
    obtain ⟨h1, h2⟩ := Bool.or_eq_false_iff.1 ho
    have hs2 := ovB_le h1
    have hd2 := ovB_le h2
    have E : Hid (tgoV s d = tagV s d) := (show tgoV s d = tagV s d by unfold tgoV; rw [if_neg (by simp [h1, h2])])
    clear ho h1 h2
    go_enter Try.func64, Try.ntmps64
    go_wp2_with (first | (go_at_call 24; refine Calls.mono (HO.out _) ?_; rintro e u1 ⟨rfl, hu1⟩; have HB1 : Hid _ := hu1; clear hu1; have hcv := bwk_conv u1 s))
    refine (tag_any (ky_conv u1 s) d (by omega) (by omega)).mono ?_
    rintro e u3 ⟨rfl, hb3⟩
    have HB3 : Hid (Below w.heap.size w u3) := HB1.out.trans ((bw_below u1 s).trans (hb3.mono (bw_below u1 s).size) |>.mono HB1.out.size)
    clear hb3
    go_wp2
    go_ret
    exact ⟨str_eq E.out.symm, HB3.out⟩
  · rw [ho] at HO
    have E : Hid (tgoV s d = ⟨#[]⟩) := (show tgoV s d = ⟨#[]⟩ by unfold tgoV; rw [if_pos (by simpa using ho)])
    clear ho
    go_enter Try.func64, Try.ntmps64
    go_wp2_with (first | (go_at_call 24; refine Calls.mono (HO.out _) ?_; rintro e u1 ⟨rfl, hu1⟩; have HB1 : Hid _ := hu1; clear hu1))
    go_ret
    exact ⟨str_eq E.out.symm, HB1.out⟩
set_option maxRecDepth 100000 in
set_option maxHeartbeats 4000000 in
theorem specTagOf_any (s d : ByteArray) (w : World) :
    Calls Try.prog 30 #[.string s, .string d] w fun e w' => e = .returned (.string (tgoV s d)) ∧ Below w.heap.size w w' := by
  cases h1 : ovB s
  · cases h2 : ovB d
    · have hs2 := ovB_le h1
      have hd2 := ovB_le h2
      have E : Hid (tgoV s d = tagV s d) := (show tgoV s d = tagV s d by unfold tgoV; rw [if_neg (by simp [h1, h2])])
      have q1 : decide (4096 < (s.size : Int)) = false := h1
      have q2 : decide (4096 < (d.size : Int)) = false := h2
      have hh1 : (s ++ d).size ≤ 1048576 := by rw [ByteArray.size_append]; omega
      have hh2 : (d ++ s).size ≤ 1048576 := by rw [ByteArray.size_append]; omega
      clear h1 h2
      go_enter Try.func30, Try.ntmps30
      go_wp2_with fail
      refine (specMix_any _ _ _ hh1).mono ?_
      rintro e u1 ⟨rfl, hw1⟩
      rw [hw1]
      clear hw1
      go_wp2_with fail
      refine (specPutWord_any _ _).mono ?_
      rintro e u2 ⟨rfl, hb2⟩
      have HB2 : Hid _ := hb2
      clear hb2
      go_wp2_with fail
      refine (specMix_any _ _ _ hh2).mono ?_
      rintro e u3 ⟨rfl, hw3⟩
      rw [hw3]
      clear hw3
      go_wp2_with fail
      refine (specPutWord_any _ _).mono ?_
      rintro e u4 ⟨rfl, hb4⟩
      have HB4 : Hid _ := HB2.out.trans (hb4.mono HB2.out.size)
      clear hb4
      go_wp2
      go_ret
      exact ⟨str_eq E.out.symm, HB4.out⟩
    · have E : Hid (tgoV s d = ⟨#[]⟩) := (show tgoV s d = ⟨#[]⟩ by unfold tgoV; rw [if_pos (.inr h2)])
      have q1 : decide (4096 < (s.size : Int)) = false := h1
      have q2 : decide (4096 < (d.size : Int)) = true := h2
      clear h1 h2
      go_enter Try.func30, Try.ntmps30
      go_wp2
      go_ret
      exact ⟨str_eq E.out.symm, Below.refl _ _⟩
  · have E : Hid (tgoV s d = ⟨#[]⟩) := (show tgoV s d = ⟨#[]⟩ by unfold tgoV; rw [if_pos (.inl h1)])
    have q1 : decide (4096 < (s.size : Int)) = true := h1
    clear h1
    go_enter Try.func30, Try.ntmps30
    go_wp2
    go_ret
    exact ⟨str_eq E.out.symm, Below.refl _ _⟩
end Go.Proofs.Ytniaohflkopncaa
