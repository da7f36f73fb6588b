import Derived.Test.YtnjilcmahooabakWords
namespace Go.Proofs.Ytnjilcmahooabak
open Go.ChangeShapes Go.WideShapes Go.ChangeAt Go.RowKit

def fld (f b : Int) : Bool := decide (0 ≤ f ∧ 1 ≤ b ∧ b ≤ 32 - f)

set_option maxHeartbeats 400000 in
theorem l01Bits_any (f b : Int) (w : World) :
    Calls Try.prog 22 #[.int .i64 f, .int .i64 b] w fun e w' => e = .returned (.bool (fld f b)) ∧ w' = w := by
  by_cases h1 : 0 ≤ f
  · by_cases h2 : 1 ≤ b
    · by_cases h3 : f ≤ 32
      · by_cases h4 : b ≤ 32 - f
        · have E : Hid (fld f b = true) := by show fld f b = true; simp [fld]; omega
          go_enter Try.func22, Try.ntmps22
          go_wp2
          go_ret
          exact ⟨ret_bool E.out.symm, rfl⟩
        · have E : Hid (fld f b = false) := by show fld f b = false; simp [fld]; omega
          go_enter Try.func22, Try.ntmps22
          go_wp2
          go_ret
          exact ⟨ret_bool E.out.symm, rfl⟩
      · have E : Hid (fld f b = false) := by show fld f b = false; simp [fld]; omega
        go_enter Try.func22, Try.ntmps22
        go_wp2
        go_ret
        exact ⟨ret_bool E.out.symm, rfl⟩
    · have E : Hid (fld f b = false) := by show fld f b = false; simp [fld]; omega
      go_enter Try.func22, Try.ntmps22
      go_wp2
      go_ret
      exact ⟨ret_bool E.out.symm, rfl⟩
  · have E : Hid (fld f b = false) := by show fld f b = false; simp [fld]; omega
    go_enter Try.func22, Try.ntmps22
    go_wp2
    go_ret
    exact ⟨ret_bool E.out.symm, rfl⟩

end Go.Proofs.Ytnjilcmahooabak
