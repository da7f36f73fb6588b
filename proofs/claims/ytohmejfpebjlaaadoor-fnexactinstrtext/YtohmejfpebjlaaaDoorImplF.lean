import Derived.Test.YtohmejfpebjlaaaDoorFieldsS
import Derived.Test.YtohmejfpebjlaaaDoorNums2
namespace Go.Proofs.YtohmejfpebjlaaaDoor
open Go.ChangeShapes Go.WideShapes Go.ChangeAt Go.RowKit

theorem implWord_any (n : Int) (w : World) :
    Calls Tryd.prog 42 #[.int .i64 n] w fun e w' => e = .returned (.int .i64 (n % 4294967296)) ∧ w' = w := by
  go_enter Tryd.func42, Tryd.ntmps42
  go_wp2
  go_ret
  exact ⟨rfl, rfl⟩

set_option maxHeartbeats 400000 in
theorem isField_any (f b : Int) (w : World) (hf : f ≤ 9223372036854775807) :
    Calls Tryd.prog 40 #[.int .i64 f, .int .i64 b] w fun e w' => e = .returned (.bool (isFd f b)) ∧ w' = w := by
  by_cases h1 : 0 ≤ f
  · by_cases h2 : 1 ≤ b
    · by_cases h4 : b ≤ 32 - f
      · have E : Hid (isFd f b = true) := by show isFd f b = true; simp [isFd]; omega
        go_enter Tryd.func40, Tryd.ntmps40
        go_wp2
        go_ret
        exact ⟨ret_bool E.out.symm, rfl⟩
      · have E : Hid (isFd f b = false) := by show isFd f b = false; simp [isFd]; omega
        go_enter Tryd.func40, Tryd.ntmps40
        go_wp2
        go_ret
        exact ⟨ret_bool E.out.symm, rfl⟩
    · have E : Hid (isFd f b = false) := by show isFd f b = false; simp [isFd]; omega
      go_enter Tryd.func40, Tryd.ntmps40
      go_wp2
      go_ret
      exact ⟨ret_bool E.out.symm, rfl⟩
  · have E : Hid (isFd f b = false) := by show isFd f b = false; simp [isFd]; omega
    go_enter Tryd.func40, Tryd.ntmps40
    go_wp2
    go_ret
    exact ⟨ret_bool E.out.symm, rfl⟩

theorem lowBits_any (b : Int) (w : World) (h0 : 0 ≤ b) (h1 : b ≤ 32) :
    Calls Tryd.prog 41 #[.int .i64 b] w fun e w' => e = .returned (.int .i64 (2 ^ b.toNat - 1)) ∧ w' = w := by
  obtain ⟨p1, p2⟩ := pow_b b h0 h1
  go_enter Tryd.func41, Tryd.ntmps41
  go_wp2
  go_ret
  exact ⟨rfl, rfl⟩

theorem implField_yes (n f b : Int) (w : World) (h : isFd f b = true) (h0 : 0 ≤ f) (h1 : 1 ≤ b) (h2 : b ≤ 32 - f) :
    Calls Tryd.prog 30 #[.int .i64 n, .int .i64 f, .int .i64 b] w fun e w' => e = .returned (.int .i64 (n % 4294967296 / 2 ^ f.toNat % 2 ^ b.toNat)) ∧ ∃ q, w' = w.drewN q := by
  go_enter Tryd.func30, Tryd.ntmps30
  go_wp2_with (go_at_call 40; refine (isField_any _ _ _ (by omega)).mono ?_; rintro e w' ⟨rfl, rfl⟩)
  go_quiet (first | (go_at_call 42; exact Calls.quiet_of_same (implWord_any _ _)) | (go_at_call 41; exact Calls.quiet_of_same (lowBits_any _ _ (by omega) (by omega))))
  go_wp2
  go_ret
  exact ⟨ret_int (field_bits n f b h0 h1 h2), nq, rfl⟩

def wfl (n f b v : Int) : Int := n % 4294967296 - n % 4294967296 / 2 ^ f.toNat % 2 ^ b.toNat * 2 ^ f.toNat + v % 2 ^ b.toNat * 2 ^ f.toNat

theorem implWithField_yes (n f b v : Int) (w : World) (h : isFd f b = true) (h0 : 0 ≤ f) (h1 : 1 ≤ b) (h2 : b ≤ 32 - f) :
    Calls Tryd.prog 25 #[.int .i64 n, .int .i64 f, .int .i64 b, .int .i64 v] w fun e w' => e = .returned (.int .i64 (wfl n f b v)) ∧ ∃ q, w' = w.drewN q := by
  obtain ⟨p1, p2⟩ := pow_b b (by omega) (by omega)
  obtain ⟨p3, p4⟩ := mask_b f b h0 h1 h2
  go_enter Tryd.func25, Tryd.ntmps25
  go_wp2_with (first | (go_at_call 40; refine (isField_any _ _ _ (by omega)).mono ?_; rintro e w' ⟨rfl, rfl⟩) | (go_at_call 41; refine (lowBits_any _ _ (by omega) (by omega)).mono ?_; rintro e w' ⟨rfl, rfl⟩))
  go_quiet ((go_at_call 42; exact Calls.quiet_of_same (implWord_any _ _)))
  go_wp2
  go_ret
  exact ⟨ret_int (with_bits n f b v h0 h1 h2), nq, rfl⟩

end Go.Proofs.YtohmejfpebjlaaaDoor
