import Derived.Test.YtohmejfpebjlaaaDoorWordsS
import Derived.Test.YtohmejfpebjlaaaDoorNums
import Derived.Deep.QuietTactic
import Derived.BigQuiet
namespace Go.Proofs.YtohmejfpebjlaaaDoor
open Go.ChangeShapes Go.WideShapes Go.ChangeAt Go.RowKit

def isFd (f b : Int) : Bool := decide (0 ≤ f ∧ 1 ≤ b ∧ b ≤ 32 - f)

set_option maxHeartbeats 400000 in
theorem l01Bits_any (f b : Int) (w : World) :
    Calls Tryd.prog 43 #[.int .i64 f, .int .i64 b] w fun e w' => e = .returned (.bool (isFd f b)) ∧ w' = w := by
  by_cases h1 : 0 ≤ f
  · by_cases h2 : 1 ≤ b
    · by_cases h3 : f ≤ 32
      · by_cases h4 : b ≤ 32 - f
        · have E : Hid (isFd f b = true) := by show isFd f b = true; simp [isFd]; omega
          go_enter Tryd.func43, Tryd.ntmps43
          go_wp2
          go_ret
          exact ⟨ret_bool E.out.symm, rfl⟩
        · have E : Hid (isFd f b = false) := by show isFd f b = false; simp [isFd]; omega
          go_enter Tryd.func43, Tryd.ntmps43
          go_wp2
          go_ret
          exact ⟨ret_bool E.out.symm, rfl⟩
      · have E : Hid (isFd f b = false) := by show isFd f b = false; simp [isFd]; omega
        go_enter Tryd.func43, Tryd.ntmps43
        go_wp2
        go_ret
        exact ⟨ret_bool E.out.symm, rfl⟩
    · have E : Hid (isFd f b = false) := by show isFd f b = false; simp [isFd]; omega
      go_enter Tryd.func43, Tryd.ntmps43
      go_wp2
      go_ret
      exact ⟨ret_bool E.out.symm, rfl⟩
  · have E : Hid (isFd f b = false) := by show isFd f b = false; simp [isFd]; omega
    go_enter Tryd.func43, Tryd.ntmps43
    go_wp2
    go_ret
    exact ⟨ret_bool E.out.symm, rfl⟩

theorem isFd_b {f b : Int} (h : isFd f b = true) : 0 ≤ f ∧ 1 ≤ b ∧ b ≤ 32 - f := by simpa [isFd] using h

theorem specField_yes (n f b : Int) (w : World) (h : isFd f b = true) (h0 : 0 ≤ f) (h1 : 1 ≤ b) (h2 : b ≤ 32 - f) :
    Calls Tryd.prog 27 #[.int .i64 n, .int .i64 f, .int .i64 b] w fun e w' => e = .returned (.int .i64 (n % 4294967296 / 2 ^ f.toNat % 2 ^ b.toNat)) ∧ ∃ q, w' = w.drewN q := by
  obtain ⟨p1, p2⟩ := pow_b b (by omega) (by omega)
  have p3 : 0 ≤ n % 4294967296 / 2 ^ f.toNat := Int.ediv_nonneg (by omega) (Int.le_of_lt (Int.pow_pos (by omega)))
  go_enter Tryd.func27, Tryd.ntmps27
  go_wp2_with (first | (go_at_call 43; refine (l01Bits_any _ _ _).mono ?_; rintro e w' ⟨rfl, rfl⟩) | (go_at_call 44; refine (specWord_any _ _).mono ?_; rintro e w' ⟨rfl, rfl⟩) )
  go_ret
  exact ⟨rfl, 0, rfl⟩

theorem specField_no (n f b : Int) (w : World) (h : isFd f b = false) :
    Calls Tryd.prog 27 #[.int .i64 n, .int .i64 f, .int .i64 b] w fun e w' => e = .returned (.int .i64 0) ∧ ∃ q, w' = w.drewN q := by
  go_enter Tryd.func27, Tryd.ntmps27
  go_wp2_with (first | (go_at_call 43; refine (l01Bits_any _ _ _).mono ?_; rintro e w' ⟨rfl, rfl⟩) | (go_at_call 44; refine (specWord_any _ _).mono ?_; rintro e w' ⟨rfl, rfl⟩) )
  go_ret
  exact ⟨rfl, 0, rfl⟩

/-- The bits of n from f on, b of them. -/
def fz (n : Int) (f b : Nat) : Int := n % 4294967296 / 2 ^ f % 2 ^ b
theorem fz_b (n : Int) (f b : Nat) : 0 ≤ fz n f b ∧ fz n f b < 2 ^ b := by
  unfold fz
  have := Int.pow_pos (n := 2) (m := b) (by omega)
  exact ⟨Int.emod_nonneg _ (by omega), Int.emod_lt_of_pos _ this⟩
theorem specField_c (n f b : Int) (w : World) (h0 : 0 ≤ f) (h1 : 1 ≤ b) (h2 : b ≤ 32 - f) :
    Calls Tryd.prog 27 #[.int .i64 n, .int .i64 f, .int .i64 b] w fun e w' => e = .returned (.int .i64 (fz n f.toNat b.toNat)) ∧ ∃ q, w' = w.drewN q :=
  specField_yes n f b w (by simp [isFd]; omega) h0 h1 h2
end Go.Proofs.YtohmejfpebjlaaaDoor
