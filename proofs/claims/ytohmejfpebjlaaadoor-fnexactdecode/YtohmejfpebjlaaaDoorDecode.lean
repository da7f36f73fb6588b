import Derived.Test.YtohmejfpebjlaaaDoorFault3
import Derived.Test.YtohmejfpebjlaaaDoorFieldsS
namespace Go.Proofs.YtohmejfpebjlaaaDoor
open Go.ChangeShapes Go.WideShapes Go.ChangeAt Go.RowKit

def isW (n : Int) : Bool := decide (0 ≤ n) && decide (n < 4294967296)
theorem l01IsWord_any (n : Int) (w : World) :
    Calls Tryd.prog 26 #[.int .i64 n] w fun e w' => e = .returned (.bool (isW n)) ∧ w' = w := by
  go_enter Tryd.func26, Tryd.ntmps26
  go_wp2
  all_goals
    go_ret
    refine ⟨ret_bool ?_, rfl⟩
    rw [Bool.eq_iff_iff]
    simp [isW] <;> omega

def sg (n : Int) (bits : Nat) : Int := if 2 ^ (bits - 1) ≤ n then n - 2 ^ bits else n
theorem l02Sign_20 (n : Int) (w : World) (h0 : 0 ≤ n) (h1 : n < 1048576) :
    Calls Tryd.prog 28 #[.int .i64 n, .int .u64 20] w fun e w' => e = .returned (.int .i64 (sg n 20)) ∧ w' = w := by
  go_enter Tryd.func28, Tryd.ntmps28
  go_wp2
  all_goals
    go_ret
    refine ⟨ret_int ?_, rfl⟩
    simp [sg]
    omega
theorem l02Sign_12 (n : Int) (w : World) (h0 : 0 ≤ n) (h1 : n < 4096) :
    Calls Tryd.prog 28 #[.int .i64 n, .int .u64 12] w fun e w' => e = .returned (.int .i64 (sg n 12)) ∧ w' = w := by
  go_enter Tryd.func28, Tryd.ntmps28
  go_wp2
  all_goals
    go_ret
    refine ⟨ret_int ?_, rfl⟩
    simp [sg]
    omega
end Go.Proofs.YtohmejfpebjlaaaDoor
