import Derived.Test.YtnjilcmahooabaaHasBitP
import Derived.Laws.BitsAllLaws
namespace Go.Proofs.Ytnjilcmahooabaa
open Go.ChangeShapes Go.WideShapes Go.ChangeAt Go.RowKit

theorem setSize_any (s : ByteArray) (w : World) (hs : s.size ≤ 140737488355328) :
    Calls Try.prog 29 #[.string s] w fun e w' => e = .returned (.int .i64 (8 * (s.size : Int))) ∧ w' = w := by
  go_enter Try.func29, Try.ntmps29
  go_wp2
  go_ret
  exact ⟨rfl, rfl⟩

theorem implHasBit_any (s : ByteArray) (n : Int) (w : World) (hs : s.size ≤ 140737488355328) :
    Calls Try.prog 15 #[.string s, .int .i64 n] w fun e w' => e = .returned (.bool (hb s n)) ∧ w' = w := by
  by_cases h1 : s.size ≤ 65536
  · have hd : decide (65536 < (s.size : Int)) = false := by simp; omega
    by_cases h2 : 0 ≤ n
    · obtain ⟨m, rfl⟩ := Int.eq_ofNat_of_zero_le h2
      by_cases h3 : m < 8 * s.size
      · have i0 := fun w => idx_str s (m / 8) (by omega) w ((m : Int) / 8) (by omega)
        obtain ⟨a0, c0⟩ := bt_b s (m / 8)
        have E : Hid ((bits .and .u8 (bt s (m / 8) / 2 ^ (m % 8)) 1 == 1) = hb s m) := hb_in s m h1 h3
        go_enter Try.func15, Try.ntmps15
        go_wp2_with (first | (go_at_call 26; refine (tooLong_any _ _).mono ?_; rintro e w' ⟨rfl, hw1⟩; subst hw1) | (go_at_call 29; refine (setSize_any _ _ (by omega)).mono ?_; rintro e w' ⟨rfl, hw1⟩; subst hw1))
        go_ret
        exact ⟨ret_bool E.out, rfl⟩
      · have E : Hid (hb s m = false) := hb_out s m (by omega)
        go_enter Try.func15, Try.ntmps15
        go_wp2_with (first | (go_at_call 26; refine (tooLong_any _ _).mono ?_; rintro e w' ⟨rfl, hw1⟩; subst hw1) | (go_at_call 29; refine (setSize_any _ _ (by omega)).mono ?_; rintro e w' ⟨rfl, hw1⟩; subst hw1))
        go_ret
        exact ⟨ret_bool E.out.symm, rfl⟩
    · have E : Hid (hb s n = false) := hb_out s n (by omega)
      go_enter Try.func15, Try.ntmps15
      go_wp2_with (first | (go_at_call 26; refine (tooLong_any _ _).mono ?_; rintro e w' ⟨rfl, hw1⟩; subst hw1) | (go_at_call 29; refine (setSize_any _ _ (by omega)).mono ?_; rintro e w' ⟨rfl, hw1⟩; subst hw1))
      go_ret
      exact ⟨ret_bool E.out.symm, rfl⟩
  · have hd : decide (65536 < (s.size : Int)) = true := by simp; omega
    have E : Hid (hb s n = false) := hb_out s n (by omega)
    go_enter Try.func15, Try.ntmps15
    go_wp2_with (first | (go_at_call 26; refine (tooLong_any _ _).mono ?_; rintro e w' ⟨rfl, hw1⟩; subst hw1) | (go_at_call 29; refine (setSize_any _ _ (by omega)).mono ?_; rintro e w' ⟨rfl, hw1⟩; subst hw1))
    go_ret
    exact ⟨ret_bool E.out.symm, rfl⟩

end Go.Proofs.Ytnjilcmahooabaa
