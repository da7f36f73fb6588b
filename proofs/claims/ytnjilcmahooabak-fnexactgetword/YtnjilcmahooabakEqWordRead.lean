import Derived.Test.YtnjilcmahooabakGetWord
namespace Go.Proofs.Ytnjilcmahooabak
open Go.ChangeShapes Go.WideShapes Go.ChangeAt Go.RowKit
theorem eqWordRead_any (g : Bool) (n : Int) (w : World) :
    Calls Try.prog 17 #[.agg #[.bool g, .int .i64 n], .agg #[.bool g, .int .i64 n]] w fun e w' => e = .returned (.bool true) ∧ Below w.heap.size w w' := by
  have e : (n != n) = false := by simp
  have eg : (g != g) = false := by simp
  go_enter Try.func17, Try.ntmps17
  go_wp2
  go_ret
  exact ⟨rfl, ((Below.refl _ _).alloc (Nat.le_refl _) _).alloc (by simp) _⟩
end Go.Proofs.Ytnjilcmahooabak
