import Derived.Test.YtmmodmanfoipiaaDoorNums
import Derived.Test.YtmmodmanfoipiaaDoorBytesC
import Derived.Test.YtmmodmanfoipiaaDoorBytes
import Derived.Deep.DeepCutAuto
import Derived.WalkKit
import Derived.ProofKit
namespace Go.Proofs.YtmmodmanfoipiaaDoor
open Go.ChangeShapes Go.WideShapes Go.ChangeAt Go.RowKit

theorem or_join6 (i : Nat) (M : Int) (hM : M = ((2 ^ i : Nat) : Int)) (hi : i ≤ 40) (a x : Int) (h0 : 0 ≤ a) (h1 : a < M) (h2 : 0 ≤ x) (h3 : x ≤ 255) : bits .or .i64 a (x * M) = a + x * M := by
  subst hM
  obtain ⟨A, rfl⟩ := Int.eq_ofNat_of_zero_le h0
  obtain ⟨X, rfl⟩ := Int.eq_ofNat_of_zero_le h2
  have hp : 2 ^ i ≤ 2 ^ 40 := Nat.pow_le_pow_right (by omega) hi
  have hq : X * 2 ^ i ≤ 255 * 2 ^ i := Nat.mul_le_mul_right _ (by omega)
  rw [← Int.natCast_mul, or_i64_nat A _ (by omega) (by omega), Nat.or_comm, nat_join i (X * 2 ^ i) A (by simp) (by omega)]
  omega
/-- The number of the first k bytes, the lowest first. -/
def pn (t : ByteArray) : Nat → Int
  | 0 => 0
  | 1 => bt t 0
  | 2 => bt t 0 + bt t 1 * 256
  | 3 => bt t 0 + bt t 1 * 256 + bt t 2 * 65536
  | 4 => bt t 0 + bt t 1 * 256 + bt t 2 * 65536 + bt t 3 * 16777216
  | 5 => bt t 0 + bt t 1 * 256 + bt t 2 * 65536 + bt t 3 * 16777216 + bt t 4 * 4294967296
  | _ => bt t 0 + bt t 1 * 256 + bt t 2 * 65536 + bt t 3 * 16777216 + bt t 4 * 4294967296 + bt t 5 * 1099511627776
theorem pn_b (t : ByteArray) (k : Nat) : 0 ≤ pn t k ∧ pn t k < 281474976710656 := by
  have h0 := bt_b t 0
  have h1 := bt_b t 1
  have h2 := bt_b t 2
  have h3 := bt_b t 3
  have h4 := bt_b t 4
  have h5 := bt_b t 5
  unfold pn
  split <;> omega
/-- The number of the last k of z bytes. -/
def hvn (t : ByteArray) (z : Nat) : Nat → Int
  | 0 => 0
  | k + 1 => hvn t z k * 256 + bt t (z - 1 - k)
theorem hvn_all (t : ByteArray) (z : Nat) (hz : z ≤ 6) : hvn t z z = pn t z := by
  have : z = 0 ∨ z = 1 ∨ z = 2 ∨ z = 3 ∨ z = 4 ∨ z = 5 ∨ z = 6 := by omega
  rcases this with rfl | rfl | rfl | rfl | rfl | rfl | rfl <;> simp [hvn, pn] <;> omega
theorem hvn_b (t : ByteArray) (z : Nat) : ∀ k, k ≤ 6 → 0 ≤ hvn t z k ∧ hvn t z k < 281474976710656 := by
  have hb := fun j => bt_b t j
  have h1 : ∀ k, 0 ≤ hvn t z k ∧ hvn t z k < ((256 ^ k : Nat) : Int) := by
    intro k
    induction k with
    | zero => simp [hvn]
    | succ k ih =>
      have := hb (z - 1 - k)
      have e : ((256 ^ (k + 1) : Nat) : Int) = ((256 ^ k : Nat) : Int) * 256 := by rw [Nat.pow_succ]; simp
      rw [e]
      show 0 ≤ hvn t z k * 256 + bt t (z - 1 - k) ∧ hvn t z k * 256 + bt t (z - 1 - k) < _
      generalize ((256 ^ k : Nat) : Int) = P at *
      omega
  intro k hk
  have h2 := h1 k
  have h3 : 256 ^ k ≤ 256 ^ 6 := Nat.pow_le_pow_right (by omega) hk
  omega
end Go.Proofs.YtmmodmanfoipiaaDoor
