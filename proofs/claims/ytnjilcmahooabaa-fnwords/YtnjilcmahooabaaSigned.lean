import Derived.Test.YtnjilcmahooabaaWords
namespace Go.Proofs.Ytnjilcmahooabaa
open Go.ChangeShapes Go.WideShapes Go.ChangeAt Go.RowKit

theorem specSigned_any (n : Int) (w : World) :
    Calls Try.prog 11 #[.int .i64 n] w fun e w' => e = .returned (.int .i64 (sgn n)) ∧ w' = w := by
  have h1 := Int.emod_nonneg n (by omega : (4294967296 : Int) ≠ 0)
  have h2 := Int.emod_lt_of_pos n (by omega : (0 : Int) < 4294967296)
  by_cases h : 2147483648 ≤ n % 4294967296
  · have E : Hid (sgn n = n % 4294967296 - 4294967296) := by show sgn n = _; unfold sgn; rw [if_pos h]
    go_enter Try.func11, Try.ntmps11
    go_wp2_with (go_at_call 10; refine (specWord_any _ _).mono ?_; rintro e w' ⟨rfl, rfl⟩)
    go_ret
    exact ⟨ret_int E.out.symm, rfl⟩
  · have E : Hid (sgn n = n % 4294967296) := by show sgn n = _; unfold sgn; rw [if_neg h]
    go_enter Try.func11, Try.ntmps11
    go_wp2_with (go_at_call 10; refine (specWord_any _ _).mono ?_; rintro e w' ⟨rfl, rfl⟩)
    go_ret
    exact ⟨ret_int E.out.symm, rfl⟩

theorem sgn_eq (n : Int) : wrap64 (wrap32 n) = sgn n := by unfold wrap64 wrap32 sgn; split <;> omega

theorem implSigned_any (n : Int) (w : World) :
    Calls Try.prog 7 #[.int .i64 n] w fun e w' => e = .returned (.int .i64 (sgn n)) ∧ w' = w := by
  go_enter Try.func7, Try.ntmps7
  go_wp2
  go_ret
  exact ⟨ret_int (sgn_eq n), rfl⟩
end Go.Proofs.Ytnjilcmahooabaa
