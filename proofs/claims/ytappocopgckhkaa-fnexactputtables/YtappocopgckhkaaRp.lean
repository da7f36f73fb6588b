import Derived.Test.YtappocopgckhkaaRowS
import Derived.Test.YtappocopgckhkaaShelf
namespace Go.Proofs.Ytappocopgckhkaa
open Go.ChangeShapes Go.WideShapes Go.ChangeAt Go.RowKit

/-- Bytes 0. -/
def zerL (M : Nat) : List UInt8 := List.replicate M 0
theorem rep_zerL : ∀ M : Nat, Lib.repeatL [0] M = zerL M
  | 0 => rfl
  | M + 1 => by
    rw [Lib.repeatL, rep_zerL M]
    rfl
/-- A cell of bytes 0. -/
def z16 : ByteArray := ⟨(zerL 16).toArray⟩
theorem repeat16_any (w : World) : Calls Try.prog 61 #[.string { data := #[0] }, .int .i64 16] w fun e w' => e = .returned (.string z16) ∧ Below w.heap.size w w' := by
  have h := Try.strings_Repeat { data := #[0] } 16 w (by omega) (by show 1 * 16 ≤ _; omega)
  rw [show (({ data := #[0] } : ByteArray).data.toList) = [0] from rfl, rep_zerL] at h
  exact h
end Go.Proofs.Ytappocopgckhkaa
