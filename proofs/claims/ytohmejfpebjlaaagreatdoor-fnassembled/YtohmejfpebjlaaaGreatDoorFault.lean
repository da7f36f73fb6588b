import Derived.Test.YtohmejfpebjlaaaGreatDoorForm
namespace Go.Proofs.YtohmejfpebjlaaaGreatDoor
open Go.ChangeShapes Go.WideShapes Go.ChangeAt Go.RowKit

def reg (n : Int) (used v : Bool) : Bool := if used = true then decide (0 ≤ n) && (decide (n < 4) || (decide (n < 16) && !v)) else n == 0
def immOk (op imm : Int) : Bool := if op = 20 then decide (0 ≤ imm) && decide (imm < 1048576) else if op = 36 then decide (-524288 ≤ imm) && decide (imm < 524288) else decide (-2048 ≤ imm) && decide (imm < 2048)

set_option maxHeartbeats 1000000 in
theorem l02Reg_any (n : Int) (u v : Bool) (w : World) :
    Calls Tryz.prog 20 #[.int .i64 n, .bool u, .bool v] w fun e w' => e = .returned (.bool (reg n u v)) ∧ w' = w := by
  cases u <;> cases v
  all_goals
    go_enter Tryz.func20, Tryz.ntmps20
    go_wp2
    all_goals
      go_ret
      refine ⟨ret_bool ?_, rfl⟩
      rw [Bool.eq_iff_iff]
      simp [reg] <;> omega

set_option maxHeartbeats 1000000 in
theorem l02Imm_any (op imm : Int) (w : World) :
    Calls Tryz.prog 21 #[.int .i64 op, .int .i64 imm] w fun e w' => e = .returned (.bool (immOk op imm)) ∧ w' = w := by
  go_enter Tryz.func21, Tryz.ntmps21
  go_wp2
  all_goals
    go_ret
    refine ⟨ret_bool ?_, rfl⟩
    rw [Bool.eq_iff_iff]
    simp_all [immOk] <;> omega
end Go.Proofs.YtohmejfpebjlaaaGreatDoor
