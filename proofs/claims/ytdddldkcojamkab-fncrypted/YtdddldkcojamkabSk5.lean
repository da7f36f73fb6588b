import Derived.Test.YtdddldkcojamkabSk4
namespace Go.Proofs.Ytdddldkcojamkab
open Go.ChangeShapes Go.WideShapes Go.ChangeAt Go.RowKit

theorem str_eq {a b : ByteArray} (h : a = b) : Ending.returned (Value.string a) = .returned (.string b) := by rw [h]
set_option maxRecDepth 100000 in
set_option maxHeartbeats 4000000 in
theorem implCrypt_any (s : ByteArray) (tw : Int) (d : ByteArray) (w : World) (hs : s.size ≤ 1048576) (hd : d.size ≤ 1048576) :
    Calls Try.prog 27 #[.string s, .int .i64 tw, .string d] w fun e w' => e = .returned (.string (cryV s tw d)) ∧ Below w.heap.size w w' := by
  have HT : Hid _ := fun u => tooLong_any d u
  have HO : Hid _ := fun u => over_one s u
  cases ho : ovB s
  · have hs2 := ovB_le ho
    rw [ho] at HO
    by_cases hl : 65536 < d.size
    · have hdd : decide (65536 < (d.size : Int)) = true := decide_eq_true (by omega)
      rw [hdd] at HT
      have E : Hid (cryV s tw d = ⟨#[]⟩) := (show cryV s tw d = ⟨#[]⟩ by unfold cryV; rw [if_pos (.inr hl)])
      clear hl hdd ho
      go_enter Try.func27, Try.ntmps27
      go_wp2_with (first | (go_at_call 47; refine Calls.mono (HT.out _) ?_; rintro e u2 ⟨rfl, hu2⟩; rw [hu2]; clear hu2) | (go_at_call 36; refine Calls.mono (HO.out _) ?_; rintro e u1 ⟨rfl, hu1⟩; have HB1 : Hid _ := hu1; clear hu1))
      go_ret
      exact ⟨str_eq E.out.symm, HB1.out⟩
    · have hdd : decide (65536 < (d.size : Int)) = false := decide_eq_false (by omega)
      rw [hdd] at HT
      have E : Hid (cryV s tw d = crV s tw d) := (show cryV s tw d = crV s tw d by unfold cryV; rw [if_neg (by simp [ho, hl])])
      clear hl hdd ho
      go_enter Try.func27, Try.ntmps27
      go_wp2_with (first | (go_at_call 47; refine Calls.mono (HT.out _) ?_; rintro e u2 ⟨rfl, hu2⟩; rw [hu2]; clear hu2; have hcv := bwk_conv u1 s) | (go_at_call 36; refine Calls.mono (HO.out _) ?_; rintro e u1 ⟨rfl, hu1⟩; have HB1 : Hid _ := hu1; clear hu1))
      refine (crypt_any (ky_conv u1 s) tw d (by omega) hd).mono ?_
      rintro e u3 ⟨rfl, hb3⟩
      have HB3 : Hid (Below w.heap.size w u3) := HB1.out.trans ((bw_below u1 s).trans (hb3.mono (bw_below u1 s).size) |>.mono HB1.out.size)
      clear hb3
      go_wp2
      go_ret
      exact ⟨str_eq E.out.symm, HB3.out⟩
  · rw [ho] at HO
    have E : Hid (cryV s tw d = ⟨#[]⟩) := (show cryV s tw d = ⟨#[]⟩ by unfold cryV; rw [if_pos (.inl ho)])
    clear ho
    go_enter Try.func27, Try.ntmps27
    go_wp2_with (first | (go_at_call 36; refine Calls.mono (HO.out _) ?_; rintro e u1 ⟨rfl, hu1⟩; have HB1 : Hid _ := hu1; clear hu1))
    go_ret
    exact ⟨str_eq E.out.symm, HB1.out⟩
end Go.Proofs.Ytdddldkcojamkab
