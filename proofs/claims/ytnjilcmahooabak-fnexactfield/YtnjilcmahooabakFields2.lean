import Derived.Test.YtnjilcmahooabakFields
import Derived.Test.YtnjilcmahooabakNums2
import Derived.Deep.QuietTactic
import Derived.BigQuiet
namespace Go.Proofs.Ytnjilcmahooabak
open Go.ChangeShapes Go.WideShapes Go.ChangeAt Go.RowKit

theorem fld_b {f b : Int} (h : fld f b = true) : 0 ≤ f ∧ 1 ≤ b ∧ b ≤ 32 - f := by simpa [fld] using h

set_option maxHeartbeats 400000 in
theorem isField_any (f b : Int) (w : World) (hf : f ≤ 9223372036854775807) :
    Calls Try.prog 24 #[.int .i64 f, .int .i64 b] w fun e w' => e = .returned (.bool (fld f b)) ∧ w' = w := by
  by_cases h1 : 0 ≤ f
  · by_cases h2 : 1 ≤ b
    · by_cases h4 : b ≤ 32 - f
      · have E : Hid (fld f b = true) := by show fld f b = true; simp [fld]; omega
        go_enter Try.func24, Try.ntmps24
        go_wp2
        go_ret
        exact ⟨ret_bool E.out.symm, rfl⟩
      · have E : Hid (fld f b = false) := by show fld f b = false; simp [fld]; omega
        go_enter Try.func24, Try.ntmps24
        go_wp2
        go_ret
        exact ⟨ret_bool E.out.symm, rfl⟩
    · have E : Hid (fld f b = false) := by show fld f b = false; simp [fld]; omega
      go_enter Try.func24, Try.ntmps24
      go_wp2
      go_ret
      exact ⟨ret_bool E.out.symm, rfl⟩
  · have E : Hid (fld f b = false) := by show fld f b = false; simp [fld]; omega
    go_enter Try.func24, Try.ntmps24
    go_wp2
    go_ret
    exact ⟨ret_bool E.out.symm, rfl⟩

theorem lowBits_any (b : Int) (w : World) (h0 : 0 ≤ b) (h1 : b ≤ 32) :
    Calls Try.prog 26 #[.int .i64 b] w fun e w' => e = .returned (.int .i64 (2 ^ b.toNat - 1)) ∧ w' = w := by
  obtain ⟨p1, p2⟩ := pow_b b h0 h1
  go_enter Try.func26, Try.ntmps26
  go_wp2
  go_ret
  exact ⟨rfl, rfl⟩

theorem specField_yes (n f b : Int) (w : World) (h : fld f b = true) (h0 : 0 ≤ f) (h1 : 1 ≤ b) (h2 : b ≤ 32 - f) :
    Calls Try.prog 9 #[.int .i64 n, .int .i64 f, .int .i64 b] w fun e w' => e = .returned (.int .i64 (n % 4294967296 / 2 ^ f.toNat % 2 ^ b.toNat)) ∧ ∃ q, w' = w.drewN q := by
  obtain ⟨p1, p2⟩ := pow_b b (by omega) (by omega)
  have p3 : 0 ≤ n % 4294967296 / 2 ^ f.toNat := Int.ediv_nonneg (by omega) (Int.le_of_lt (Int.pow_pos (by omega)))
  go_enter Try.func9, Try.ntmps9
  go_wp2_with (first | (go_at_call 22; refine (l01Bits_any _ _ _).mono ?_; rintro e w' ⟨rfl, rfl⟩) | (go_at_call 23; refine (specWord_any _ _).mono ?_; rintro e w' ⟨rfl, rfl⟩) )
  go_ret
  exact ⟨rfl, 0, rfl⟩

theorem specField_no (n f b : Int) (w : World) (h : fld f b = false) :
    Calls Try.prog 9 #[.int .i64 n, .int .i64 f, .int .i64 b] w fun e w' => e = .returned (.int .i64 0) ∧ ∃ q, w' = w.drewN q := by
  go_enter Try.func9, Try.ntmps9
  go_wp2_with (first | (go_at_call 22; refine (l01Bits_any _ _ _).mono ?_; rintro e w' ⟨rfl, rfl⟩) | (go_at_call 23; refine (specWord_any _ _).mono ?_; rintro e w' ⟨rfl, rfl⟩) )
  go_ret
  exact ⟨rfl, 0, rfl⟩

theorem implField_no (n f b : Int) (w : World) (hf : f ≤ 9223372036854775807) (h : fld f b = false) :
    Calls Try.prog 10 #[.int .i64 n, .int .i64 f, .int .i64 b] w fun e w' => e = .returned (.int .i64 0) ∧ ∃ q, w' = w.drewN q := by
  go_enter Try.func10, Try.ntmps10
  go_wp2_with (first | (go_at_call 24; refine (isField_any _ _ _ (by omega)).mono ?_; rintro e w' ⟨rfl, rfl⟩))
  go_ret
  exact ⟨rfl, 0, rfl⟩

theorem implField_yes (n f b : Int) (w : World) (h : fld f b = true) (h0 : 0 ≤ f) (h1 : 1 ≤ b) (h2 : b ≤ 32 - f) :
    Calls Try.prog 10 #[.int .i64 n, .int .i64 f, .int .i64 b] w fun e w' => e = .returned (.int .i64 (n % 4294967296 / 2 ^ f.toNat % 2 ^ b.toNat)) ∧ ∃ q, w' = w.drewN q := by
  go_enter Try.func10, Try.ntmps10
  go_wp2_with (go_at_call 24; refine (isField_any _ _ _ (by omega)).mono ?_; rintro e w' ⟨rfl, rfl⟩)
  go_quiet (first | (go_at_call 25; exact Calls.quiet_of_same (implWord_any _ _)) | (go_at_call 26; exact Calls.quiet_of_same (lowBits_any _ _ (by omega) (by omega))))
  go_wp2
  go_ret
  exact ⟨ret_int (field_bits n f b h0 h1 h2), nq, rfl⟩

def wfl (n f b v : Int) : Int := n % 4294967296 - n % 4294967296 / 2 ^ f.toNat % 2 ^ b.toNat * 2 ^ f.toNat + v % 2 ^ b.toNat * 2 ^ f.toNat

theorem implWithField_yes (n f b v : Int) (w : World) (h : fld f b = true) (h0 : 0 ≤ f) (h1 : 1 ≤ b) (h2 : b ≤ 32 - f) :
    Calls Try.prog 12 #[.int .i64 n, .int .i64 f, .int .i64 b, .int .i64 v] w fun e w' => e = .returned (.int .i64 (wfl n f b v)) ∧ ∃ q, w' = w.drewN q := by
  obtain ⟨p1, p2⟩ := pow_b b (by omega) (by omega)
  obtain ⟨p3, p4⟩ := mask_b f b h0 h1 h2
  go_enter Try.func12, Try.ntmps12
  go_wp2_with (first | (go_at_call 24; refine (isField_any _ _ _ (by omega)).mono ?_; rintro e w' ⟨rfl, rfl⟩) | (go_at_call 26; refine (lowBits_any _ _ (by omega) (by omega)).mono ?_; rintro e w' ⟨rfl, rfl⟩))
  go_quiet ((go_at_call 25; exact Calls.quiet_of_same (implWord_any _ _)))
  go_wp2
  go_ret
  exact ⟨ret_int (with_bits n f b v h0 h1 h2), nq, rfl⟩

theorem implWithField_no (n f b v : Int) (w : World) (hf : f ≤ 9223372036854775807) (h : fld f b = false) :
    Calls Try.prog 12 #[.int .i64 n, .int .i64 f, .int .i64 b, .int .i64 v] w fun e w' => e = .returned (.int .i64 0) ∧ ∃ q, w' = w.drewN q := by
  go_enter Try.func12, Try.ntmps12
  go_wp2_with (go_at_call 24; refine (isField_any _ _ _ (by omega)).mono ?_; rintro e w' ⟨rfl, rfl⟩)
  go_ret
  exact ⟨rfl, 0, rfl⟩

theorem specWithField_no (n f b v : Int) (w : World) (h : fld f b = false) :
    Calls Try.prog 11 #[.int .i64 n, .int .i64 f, .int .i64 b, .int .i64 v] w fun e w' => e = .returned (.int .i64 0) ∧ ∃ q, w' = w.drewN q := by
  go_enter Try.func11, Try.ntmps11
  go_wp2_with (go_at_call 22; refine (l01Bits_any _ _ _).mono ?_; rintro e w' ⟨rfl, rfl⟩)
  go_ret
  exact ⟨rfl, 0, rfl⟩

theorem specWithField_yes (n f b v : Int) (w : World) (h : fld f b = true) (h0 : 0 ≤ f) (h1 : 1 ≤ b) (h2 : b ≤ 32 - f) :
    Calls Try.prog 11 #[.int .i64 n, .int .i64 f, .int .i64 b, .int .i64 v] w fun e w' => e = .returned (.int .i64 (wfl n f b v)) ∧ ∃ q, w' = w.drewN q := by
  obtain ⟨p1, p2⟩ := pow_b b (by omega) (by omega)
  go_enter Try.func11, Try.ntmps11
  go_wp2_with (first | (go_at_call 22; refine (l01Bits_any _ _ _).mono ?_; rintro e w' ⟨rfl, rfl⟩) | (go_at_call 23; refine (specWord_any _ _).mono ?_; rintro e w' ⟨rfl, rfl⟩) | (go_at_call 27; refine (l01Mod_any _ _ _ (by omega) (by omega)).mono ?_; rintro e w' ⟨rfl, rfl⟩))
  refine (specField_yes _ _ _ _ h h0 h1 h2).mono ?_
  rintro e w' ⟨rfl, q, rfl⟩
  go_wp2_with (first | (go_at_call 27; refine (l01Mod_any _ _ _ (by omega) (by omega)).mono ?_; rintro e w' ⟨rfl, rfl⟩))
  go_ret
  exact ⟨ret_int (wfl_wrap n f b v h0 h1 h2), q, rfl⟩
end Go.Proofs.Ytnjilcmahooabak
