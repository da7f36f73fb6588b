import Derived.Test.YtjaelkagacmpkaaRows
import Derived.Test.YtjaelkagacmpkaaMod
namespace Go.Proofs.Ytjaelkagacmpkaa
open Go.ChangeShapes Go.WideShapes Go.ChangeAt Go.RowKit

theorem specWord_any (n : Int) (w : World) :
    Calls Try.prog 131 #[.int .i64 n] w fun e w' => e = .returned (.int .i64 (n % 4294967296)) ∧ w' = w := by
  go_enter Try.func131, Try.ntmps131
  go_wp2_with (go_at_call 141; refine (l01Mod_any _ _ _ (by omega) (by omega)).mono ?_; rintro e w' ⟨rfl, rfl⟩)
  go_ret
  exact ⟨rfl, rfl⟩

theorem implWord_any (n : Int) (w : World) :
    Calls Try.prog 139 #[.int .i64 n] w fun e w' => e = .returned (.int .i64 (n % 4294967296)) ∧ w' = w := by
  go_enter Try.func139, Try.ntmps139
  go_wp2
  go_ret
  exact ⟨rfl, rfl⟩
end Go.Proofs.Ytjaelkagacmpkaa
