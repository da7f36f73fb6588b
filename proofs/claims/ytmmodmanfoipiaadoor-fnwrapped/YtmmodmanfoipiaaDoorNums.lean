import Derived.Test.YtmmodmanfoipiaaDoorPlain
import Derived.Laws.BitsAllLaws
namespace Go.Proofs.YtmmodmanfoipiaaDoor
open Go.RowKit

theorem pow_cast (k : Nat) : (2 : Int) ^ k = ((2 ^ k : Nat) : Int) := by simp

theorem pow_b (b : Int) (h0 : 0 ≤ b) (h1 : b ≤ 32) : 1 ≤ (2 : Int) ^ b.toNat ∧ (2 : Int) ^ b.toNat ≤ 4294967296 := by
  rw [pow_cast]
  have h2 : 2 ^ b.toNat ≤ 2 ^ 32 := Nat.pow_le_pow_right (by omega) (by omega)
  have h3 : 0 < 2 ^ b.toNat := Nat.two_pow_pos _
  omega

theorem ofInt_nat (a : Nat) (h : a < 18446744073709551616) : (BitVec.ofInt 64 (a : Int)).toNat = a := by
  rw [BitVec.ofInt_natCast, BitVec.toNat_ofNat]; exact Nat.mod_eq_of_lt (by omega)

theorem wrap_i64_nat (a : Nat) (h : a < 9223372036854775808) : IntKind.i64.wrap (a : Int) = a := by
  rw [IntKind.wrap_i64]; omega

theorem and_i64_nat (a b : Nat) (ha : a < 9223372036854775808) (hb : b < 9223372036854775808) : bits .and .i64 (a : Int) (b : Int) = ((a &&& b : Nat) : Int) := by
  have hx : a &&& b < 2 ^ 63 := Nat.and_lt_two_pow _ (by omega)
  show IntKind.i64.wrap ((BitVec.ofInt 64 (a : Int) &&& BitVec.ofInt 64 (b : Int)).toNat : Int) = _
  rw [BitVec.toNat_and, ofInt_nat a (by omega), ofInt_nat b (by omega), wrap_i64_nat _ (by omega)]

theorem or_i64_nat (a b : Nat) (ha : a < 9223372036854775808) (hb : b < 9223372036854775808) : bits .or .i64 (a : Int) (b : Int) = ((a ||| b : Nat) : Int) := by
  have hx : a ||| b < 2 ^ 63 := Nat.or_lt_two_pow (by omega) (by omega)
  show IntKind.i64.wrap ((BitVec.ofInt 64 (a : Int) ||| BitVec.ofInt 64 (b : Int)).toNat : Int) = _
  rw [BitVec.toNat_or, ofInt_nat a (by omega), ofInt_nat b (by omega), wrap_i64_nat _ (by omega)]

theorem or_join (i : Nat) (M : Int) (hM : M = ((2 ^ i : Nat) : Int)) (hi : i ≤ 24) (a x : Int) (h0 : 0 ≤ a) (h1 : a < M) (h2 : 0 ≤ x) (h3 : x ≤ 255) : bits .or .i64 a (x * M) = a + x * M := by
  subst hM
  obtain ⟨A, rfl⟩ := Int.eq_ofNat_of_zero_le h0
  obtain ⟨X, rfl⟩ := Int.eq_ofNat_of_zero_le h2
  have hp : 2 ^ i ≤ 2 ^ 24 := Nat.pow_le_pow_right (by omega) hi
  have hq : X * 2 ^ i ≤ 255 * 2 ^ i := Nat.mul_le_mul_right _ (by omega)
  rw [← Int.natCast_mul, or_i64_nat A _ (by omega) (by omega), Nat.or_comm, nat_join i (X * 2 ^ i) A (by simp) (by omega)]
  omega

theorem and_low (x : Int) (b : Nat) (h0 : 0 ≤ x) (h1 : x < 9223372036854775808) (hb : b ≤ 32) : bits .and .i64 x (2 ^ b - 1) = x % 2 ^ b := by
  obtain ⟨X, rfl⟩ := Int.eq_ofNat_of_zero_le h0
  have h2 : 2 ^ b ≤ 2 ^ 32 := Nat.pow_le_pow_right (by omega) (by omega)
  have h3 : 0 < 2 ^ b := Nat.two_pow_pos _
  rw [pow_cast, show (((2 ^ b : Nat) : Int) - 1) = ((2 ^ b - 1 : Nat) : Int) from by omega, and_i64_nat X _ (by omega) (by omega), Nat.and_two_pow_sub_one_eq_mod]
  simp

theorem field_bits (n f b : Int) (h0 : 0 ≤ f) (h1 : 1 ≤ b) (h2 : b ≤ 32 - f) :
    bits .and .i64 (n % 4294967296 / 2 ^ f.toNat) (2 ^ b.toNat - 1) = n % 4294967296 / 2 ^ f.toNat % 2 ^ b.toNat := by
  have p0 : (0 : Int) < 2 ^ f.toNat := Int.pow_pos (by omega)
  have p1 : 0 ≤ n % 4294967296 / 2 ^ f.toNat := Int.ediv_nonneg (by omega) (by omega)
  have p2 : n % 4294967296 / 2 ^ f.toNat ≤ n % 4294967296 := Int.ediv_le_self _ (by omega)
  exact and_low _ _ p1 (by omega) (by omega)

theorem nat_mask (x f b : Nat) : x &&& ((2 ^ b - 1) * 2 ^ f) = (x / 2 ^ f % 2 ^ b) * 2 ^ f := by
  apply Nat.eq_of_testBit_eq
  intro i
  simp only [Nat.testBit_and, Nat.testBit_mul_two_pow, Nat.testBit_two_pow_sub_one, Nat.testBit_mod_two_pow, Nat.testBit_div_two_pow]
  by_cases h : f ≤ i
  · have e : i - f + f = i := by omega
    simp [h, e, Bool.and_comm]
  · simp [h]

end Go.Proofs.YtmmodmanfoipiaaDoor
