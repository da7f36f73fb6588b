import Derived.Test.YtohmejfpebjlaaaGreatDoorFieldsS
import Derived.Test.YtohmejfpebjlaaaGreatDoorNums2
namespace Go.Proofs.YtohmejfpebjlaaaGreatDoor
open Go.ChangeShapes Go.WideShapes Go.ChangeAt Go.RowKit

theorem implWord_any (n : Int) (w : World) :
    Calls Tryz.prog 48 #[.int .i64 n] w fun e w' => e = .returned (.int .i64 (n % 4294967296)) ∧ w' = w := by
  go_enter Tryz.func48, Tryz.ntmps48
  go_wp2
  go_ret
  exact ⟨rfl, rfl⟩

set_option maxHeartbeats 400000 in
theorem isField_any (f b : Int) (w : World) (hf : f ≤ 9223372036854775807) :
    Calls Tryz.prog 46 #[.int .i64 f, .int .i64 b] w fun e w' => e = .returned (.bool (isFd f b)) ∧ w' = w := by
  by_cases h1 : 0 ≤ f
  · by_cases h2 : 1 ≤ b
    · by_cases h4 : b ≤ 32 - f
      · have E : Hid (isFd f b = true) := by show isFd f b = true; simp [isFd]; omega
        go_enter Tryz.func46, Tryz.ntmps46
        go_wp2
        go_ret
        exact ⟨ret_bool E.out.symm, rfl⟩
      · have E : Hid (isFd f b = false) := by show isFd f b = false; simp [isFd]; omega
        go_enter Tryz.func46, Tryz.ntmps46
        go_wp2
        go_ret
        exact ⟨ret_bool E.out.symm, rfl⟩
    · have E : Hid (isFd f b = false) := by show isFd f b = false; simp [isFd]; omega
      go_enter Tryz.func46, Tryz.ntmps46
      go_wp2
      go_ret
      exact ⟨ret_bool E.out.symm, rfl⟩
  · have E : Hid (isFd f b = false) := by show isFd f b = false; simp [isFd]; omega
    go_enter Tryz.func46, Tryz.ntmps46
    go_wp2
    go_ret
    exact ⟨ret_bool E.out.symm, rfl⟩

theorem lowBits_any (b : Int) (w : World) (h0 : 0 ≤ b) (h1 : b ≤ 32) :
    Calls Tryz.prog 47 #[.int .i64 b] w fun e w' => e = .returned (.int .i64 (2 ^ b.toNat - 1)) ∧ w' = w := by
  obtain ⟨p1, p2⟩ := pow_b b h0 h1
  go_enter Tryz.func47, Tryz.ntmps47
  go_wp2
  go_ret
  exact ⟨rfl, rfl⟩

theorem implField_yes (n f b : Int) (w : World) (h : isFd f b = true) (h0 : 0 ≤ f) (h1 : 1 ≤ b) (h2 : b ≤ 32 - f) :
    Calls Tryz.prog 30 #[.int .i64 n, .int .i64 f, .int .i64 b] w fun e w' => e = .returned (.int .i64 (n % 4294967296 / 2 ^ f.toNat % 2 ^ b.toNat)) ∧ ∃ q, w' = w.drewN q := by
  go_enter Tryz.func30, Tryz.ntmps30
  go_wp2_with (go_at_call 46; refine (isField_any _ _ _ (by omega)).mono ?_; rintro e w' ⟨rfl, rfl⟩)
  go_quiet (first | (go_at_call 48; exact Calls.quiet_of_same (implWord_any _ _)) | (go_at_call 47; exact Calls.quiet_of_same (lowBits_any _ _ (by omega) (by omega))))
  go_wp2
  go_ret
  exact ⟨ret_int (field_bits n f b h0 h1 h2), nq, rfl⟩

def wfl (n f b v : Int) : Int := n % 4294967296 - n % 4294967296 / 2 ^ f.toNat % 2 ^ b.toNat * 2 ^ f.toNat + v % 2 ^ b.toNat * 2 ^ f.toNat

theorem implWithField_yes (n f b v : Int) (w : World) (h : isFd f b = true) (h0 : 0 ≤ f) (h1 : 1 ≤ b) (h2 : b ≤ 32 - f) :
    Calls Tryz.prog 24 #[.int .i64 n, .int .i64 f, .int .i64 b, .int .i64 v] w fun e w' => e = .returned (.int .i64 (wfl n f b v)) ∧ ∃ q, w' = w.drewN q := by
  obtain ⟨p1, p2⟩ := pow_b b (by omega) (by omega)
  obtain ⟨p3, p4⟩ := mask_b f b h0 h1 h2
  go_enter Tryz.func24, Tryz.ntmps24
  go_wp2_with (first | (go_at_call 46; refine (isField_any _ _ _ (by omega)).mono ?_; rintro e w' ⟨rfl, rfl⟩) | (go_at_call 47; refine (lowBits_any _ _ (by omega) (by omega)).mono ?_; rintro e w' ⟨rfl, rfl⟩))
  go_quiet ((go_at_call 48; exact Calls.quiet_of_same (implWord_any _ _)))
  go_wp2
  go_ret
  exact ⟨ret_int (with_bits n f b v h0 h1 h2), nq, rfl⟩

end Go.Proofs.YtohmejfpebjlaaaGreatDoor
