import Derived.Test.YtfagohdmepnkkaaNums
namespace Go.Proofs.Ytfagohdmepnkkaa
open Go.RowKit

theorem and_mask (x : Int) (f b : Nat) (h0 : 0 ≤ x) (h1 : x < 9223372036854775808) (hm : (2 ^ b - 1) * 2 ^ f < 9223372036854775808) : bits .and .i64 x (((2 ^ b - 1) * 2 ^ f : Nat) : Int) = x / ((2 ^ f : Nat) : Int) % ((2 ^ b : Nat) : Int) * ((2 ^ f : Nat) : Int) := by
  obtain ⟨X, rfl⟩ := Int.eq_ofNat_of_zero_le h0
  rw [and_i64_nat X _ (by omega) hm, nat_mask]
  simp
theorem and1 (x : Int) (h0 : 0 ≤ x) (h1 : x < 9223372036854775808) : bits .and .i64 x 1 = x % 2 := by
  have := and_mask x 0 1 h0 h1 (by decide)
  simpa using this
theorem and2 (x : Int) (h0 : 0 ≤ x) (h1 : x < 9223372036854775808) : bits .and .i64 x 2 = x / 2 % 2 * 2 := by
  have := and_mask x 1 1 h0 h1 (by decide)
  simpa using this
theorem and4 (x : Int) (h0 : 0 ≤ x) (h1 : x < 9223372036854775808) : bits .and .i64 x 4 = x / 4 % 2 * 4 := by
  have := and_mask x 2 1 h0 h1 (by decide)
  simpa using this
theorem and8 (x : Int) (h0 : 0 ≤ x) (h1 : x < 9223372036854775808) : bits .and .i64 x 8 = x / 8 % 2 * 8 := by
  have := and_mask x 3 1 h0 h1 (by decide)
  simpa using this
theorem and16 (x : Int) (h0 : 0 ≤ x) (h1 : x < 9223372036854775808) : bits .and .i64 x 16 = x / 16 % 2 * 16 := by
  have := and_mask x 4 1 h0 h1 (by decide)
  simpa using this
theorem and64 (x : Int) (h0 : 0 ≤ x) (h1 : x < 9223372036854775808) : bits .and .i64 x 64 = x / 64 % 2 * 64 := by
  have := and_mask x 6 1 h0 h1 (by decide)
  simpa using this
theorem and128 (x : Int) (h0 : 0 ≤ x) (h1 : x < 9223372036854775808) : bits .and .i64 x 128 = x / 128 % 2 * 128 := by
  have := and_mask x 7 1 h0 h1 (by decide)
  simpa using this
theorem and14 (x : Int) (h0 : 0 ≤ x) (h1 : x < 9223372036854775808) : bits .and .i64 x 14 = x / 2 % 8 * 2 := by
  have := and_mask x 1 3 h0 h1 (by decide)
  simpa using this
theorem and15 (x : Int) (h0 : 0 ≤ x) (h1 : x < 9223372036854775808) : bits .and .i64 x 15 = x % 16 := by
  have := and_mask x 0 4 h0 h1 (by decide)
  simpa using this
theorem add_or (x y : Nat) (hx : x < 9223372036854775808) (hy : y < 9223372036854775808) (h : x &&& y = 0) : x + y = x ||| y := by
  have hb : BitVec.ofNat 64 x &&& BitVec.ofNat 64 y = 0#64 := by
    apply BitVec.eq_of_toNat_eq
    rw [BitVec.toNat_and, BitVec.toNat_ofNat, BitVec.toNat_ofNat, Nat.mod_eq_of_lt (by omega), Nat.mod_eq_of_lt (by omega), h]
    rfl
  have e := congrArg BitVec.toNat (BitVec.add_eq_or_of_and_eq_zero _ _ hb)
  rw [BitVec.toNat_add, BitVec.toNat_or, BitVec.toNat_ofNat, BitVec.toNat_ofNat, Nat.mod_eq_of_lt (a := x) (by omega), Nat.mod_eq_of_lt (a := y) (by omega), Nat.mod_eq_of_lt (by omega)] at e
  exact e
theorem nat_or_bit (x f : Nat) (hx : x < 9223372036854775808) (hf : 2 ^ f < 9223372036854775808) : x ||| 2 ^ f = if x / 2 ^ f % 2 = 0 then x + 2 ^ f else x := by
  have e : x = 2 ^ f * (x / 2 ^ f) + x % 2 ^ f := (Nat.div_add_mod _ _).symm
  have hb : x.testBit f = decide (x / 2 ^ f % 2 = 1) := by
    rw [Nat.testBit_eq_decide_div_mod_eq]
  split
  · rename_i h
    have h2 : x &&& 2 ^ f = 0 := by
      apply Nat.eq_of_testBit_eq
      intro i
      rw [Nat.testBit_and, Nat.testBit_two_pow]
      by_cases hi : f = i
      · subst hi
        simp [hb, h]
      · simp [hi]
    exact (add_or _ _ hx hf h2).symm
  · rename_i h
    apply Nat.eq_of_testBit_eq
    intro i
    rw [Nat.testBit_or, Nat.testBit_two_pow]
    by_cases hi : f = i
    · subst hi
      have : x / 2 ^ f % 2 = 1 := by omega
      simp [hb, this]
    · simp [hi]
theorem or_bit (x : Int) (f : Nat) (h0 : 0 ≤ x) (h1 : x < 9223372036854775808) (hf : 2 ^ f < 9223372036854775808) : bits .or .i64 x ((2 ^ f : Nat) : Int) = if x / ((2 ^ f : Nat) : Int) % 2 = 0 then x + ((2 ^ f : Nat) : Int) else x := by
  obtain ⟨X, rfl⟩ := Int.eq_ofNat_of_zero_le h0
  rw [or_i64_nat X _ (by omega) hf, nat_or_bit X f (by omega) hf]
  have e : ((X : Int) / ((2 ^ f : Nat) : Int) % 2 = 0) ↔ (X / 2 ^ f % 2 = 0) := by
    rw [← Int.natCast_ediv]
    omega
  by_cases h : X / 2 ^ f % 2 = 0
  · rw [if_pos h, if_pos (e.2 h)]
    omega
  · rw [if_neg h, if_neg (fun h2 => h (e.1 h2))]
theorem or32 (x : Int) (h0 : 0 ≤ x) (h1 : x < 9223372036854775808) : bits .or .i64 x 32 = if x / 32 % 2 = 0 then x + 32 else x := by
  have := or_bit x 5 h0 h1 (by decide)
  simpa using this
theorem or64 (x : Int) (h0 : 0 ≤ x) (h1 : x < 9223372036854775808) : bits .or .i64 x 64 = if x / 64 % 2 = 0 then x + 64 else x := by
  have := or_bit x 6 h0 h1 (by decide)
  simpa using this
end Go.Proofs.Ytfagohdmepnkkaa
