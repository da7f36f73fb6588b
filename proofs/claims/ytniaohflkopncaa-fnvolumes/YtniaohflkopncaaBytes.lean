import Derived.Test.YtniaohflkopncaaBytesC
namespace Go.Proofs.Ytniaohflkopncaa
open Go.ChangeShapes Go.WideShapes Go.ChangeAt Go.RowKit

theorem tooLong_any (s : ByteArray) (w : World) :
    Calls Try.prog 101 #[.string s] w fun e w' => e = .returned (.bool (decide (65536 < (s.size : Int)))) ∧ w' = w := by
  go_enter Try.func101, Try.ntmps101
  go_wp2
  go_ret
  exact ⟨rfl, rfl⟩

end Go.Proofs.Ytniaohflkopncaa
