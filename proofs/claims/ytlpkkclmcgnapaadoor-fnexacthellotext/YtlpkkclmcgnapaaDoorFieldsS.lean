import Derived.Test.YtlpkkclmcgnapaaDoorWordsS
import Derived.Test.YtlpkkclmcgnapaaDoorNums
import Derived.Deep.QuietTactic
import Derived.BigQuiet
namespace Go.Proofs.YtlpkkclmcgnapaaDoor
open Go.ChangeShapes Go.WideShapes Go.ChangeAt Go.RowKit

def isFd (f b : Int) : Bool := decide (0 ≤ f ∧ 1 ≤ b ∧ b ≤ 32 - f)

theorem isFd_b {f b : Int} (h : isFd f b = true) : 0 ≤ f ∧ 1 ≤ b ∧ b ≤ 32 - f := by simpa [isFd] using h

/-- The bits of n from f on, b of them. -/
def fz (n : Int) (f b : Nat) : Int := n % 4294967296 / 2 ^ f % 2 ^ b
theorem fz_b (n : Int) (f b : Nat) : 0 ≤ fz n f b ∧ fz n f b < 2 ^ b := by
  unfold fz
  have := Int.pow_pos (n := 2) (m := b) (by omega)
  exact ⟨Int.emod_nonneg _ (by omega), Int.emod_lt_of_pos _ this⟩
end Go.Proofs.YtlpkkclmcgnapaaDoor
