import Derived.Test.YtblmodlpopnckaaBytesC
namespace Go.Proofs.Ytblmodlpopnckaa
open Go.ChangeShapes Go.WideShapes Go.ChangeAt Go.RowKit

theorem tooLong_any (s : ByteArray) (w : World) :
    Calls Try.prog 21 #[.string s] w fun e w' => e = .returned (.bool (decide (65536 < (s.size : Int)))) ∧ w' = w := by
  go_enter Try.func21, Try.ntmps21
  go_wp2
  go_ret
  exact ⟨rfl, rfl⟩

end Go.Proofs.Ytblmodlpopnckaa
