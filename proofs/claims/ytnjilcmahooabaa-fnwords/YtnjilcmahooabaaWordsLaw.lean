import Derived.Test.YtnjilcmahooabaaCode
import Derived.Test.YtnjilcmahooabaaSigned
import Derived.Test.YtnjilcmahooabaaPutWordI
import Derived.Test.YtnjilcmahooabaaGetWordI
namespace Go.Proofs.Ytnjilcmahooabaa
open Go.ChangeShapes Go.WideShapes Go.ChangeAt Go.RowKit

theorem pw_bt (n : Int) : bt (pw n) 0 = n % 256 ∧ bt (pw n) 1 = n / 256 % 256 ∧ bt (pw n) 2 = n / 65536 % 256 ∧ bt (pw n) 3 = n / 16777216 % 256 := by
  have e : ∀ x : Int, 0 ≤ x → x < 256 → (((UInt8.ofNat x.toNat).toNat : Nat) : Int) = x := fun x h0 h1 => by
    rw [UInt8.toNat_ofNat']; omega
  have z : (pw n).size = 4 := rfl
  refine ⟨?_, ?_, ?_, ?_⟩
  · rw [← bt_eq (pw n) 0 (by omega)]; exact e (n % 256) (by omega) (by omega)
  · rw [← bt_eq (pw n) 1 (by omega)]; exact e (n / 256 % 256) (by omega) (by omega)
  · rw [← bt_eq (pw n) 2 (by omega)]; exact e (n / 65536 % 256) (by omega) (by omega)
  · rw [← bt_eq (pw n) 3 (by omega)]; exact e (n / 16777216 % 256) (by omega) (by omega)
theorem pw_wv (n : Int) : wv (pw n) 0 = n % 4294967296 := by
  obtain ⟨h0, h1, h2, h3⟩ := pw_bt n
  unfold wv
  rw [Nat.zero_add, Nat.zero_add, Nat.zero_add, h0, h1, h2, h3]
  omega
theorem getput (n : Int) (w : World) :
    Calls Try.prog 8 #[.string (pw n), .int .i64 0] w fun e w' => e = .returned (.agg #[.bool true, .int .i64 (n % 4294967296)]) ∧ Below w.heap.size w w' := by
  have z : (pw n).size = 4 := rfl
  have h := implGetWord_yes (pw n) 0 w (by simp [hwd, z]) (by omega) (by omega)
  rw [pw_wv] at h
  exact h
theorem sgn_mod (n : Int) : sgn n % 4294967296 = n % 4294967296 := by unfold sgn; split <;> omega
end Go.Proofs.Ytnjilcmahooabaa
