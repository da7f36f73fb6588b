import Derived.Test.YtlpkkclmcgnapaaDoorNums
namespace Go.Proofs.YtlpkkclmcgnapaaDoor
open Go.RowKit

theorem ofInt_wrap (z : BitVec 64) : BitVec.ofInt 64 (IntKind.i64.wrap (z.toNat : Int)) = z := by
  apply BitVec.eq_of_toNat_eq
  rw [BitVec.toNat_ofInt, IntKind.wrap_i64]
  have := z.isLt
  omega

theorem ofInt_wrap64 (x : Int) : (BitVec.ofInt 64 (wrap64 x)).toNat = (x % 18446744073709551616).toNat := by
  rw [BitVec.toNat_ofInt]
  unfold wrap64
  omega

theorem shl_field (v : Int) (f b : Nat) (h : f + b ≤ 32) : ((v * 2 ^ f % 18446744073709551616).toNat / 2 ^ f % 2 ^ b : Nat) = (v % 2 ^ b).toNat := by
  have e : (18446744073709551616 : Int) = 2 ^ (64 - f) * 2 ^ f := by
    rw [← Int.pow_add, show 64 - f + f = 64 from by omega]; rfl
  have pf : (0 : Int) < 2 ^ f := Int.pow_pos (by omega)
  have pb : (0 : Int) < 2 ^ b := Int.pow_pos (by omega)
  have pr : (0 : Int) < 2 ^ (64 - f) := Int.pow_pos (by omega)
  have h1 : v * 2 ^ f % 18446744073709551616 = v % 2 ^ (64 - f) * 2 ^ f := by
    rw [e, Int.mul_comm v, Int.mul_comm (2 ^ (64 - f)), Int.mul_emod_mul_of_pos _ _ pf, Int.mul_comm]
  have h2 := Int.emod_nonneg v (show (2 : Int) ^ (64 - f) ≠ 0 from by omega)
  obtain ⟨R, hR⟩ := Int.eq_ofNat_of_zero_le h2
  have h3 : v % 2 ^ b = (R : Int) % 2 ^ b := by
    rw [← hR]
    exact (Int.emod_emod_of_dvd v ⟨2 ^ (64 - f - b), by rw [← Int.pow_add, show b + (64 - f - b) = 64 - f from by omega]⟩).symm
  rw [h1, hR, h3, pow_cast f, pow_cast b]
  rw [show ((R : Int) * ((2 ^ f : Nat) : Int)).toNat = R * 2 ^ f from by rw [← Int.natCast_mul]; exact Int.toNat_natCast _]
  rw [Nat.mul_div_cancel _ (Nat.two_pow_pos f), ← Int.natCast_emod, Int.toNat_natCast]

theorem mask_cast (f b : Nat) : ((2 : Int) ^ b - 1) * 2 ^ f = (((2 ^ b - 1) * 2 ^ f : Nat) : Int) := by
  have := Nat.two_pow_pos b
  rw [Int.natCast_mul, pow_cast, pow_cast, show (((2 ^ b : Nat) : Int) - 1) = ((2 ^ b - 1 : Nat) : Int) from by omega]

theorem mask_lt (f b : Nat) (h : f + b ≤ 32) : (2 ^ b - 1) * 2 ^ f < 4294967296 := by
  have h1 : (2 ^ b - 1) * 2 ^ f < 2 ^ b * 2 ^ f := Nat.mul_lt_mul_of_pos_right (by have := Nat.two_pow_pos b; omega) (Nat.two_pow_pos f)
  rw [← Nat.pow_add] at h1
  have h2 : 2 ^ (b + f) ≤ 2 ^ 32 := Nat.pow_le_pow_right (by omega) (by omega)
  omega

theorem mask_b (f b : Int) (h0 : 0 ≤ f) (h1 : 1 ≤ b) (h2 : b ≤ 32 - f) : 0 ≤ ((2 : Int) ^ b.toNat - 1) * 2 ^ f.toNat ∧ ((2 : Int) ^ b.toNat - 1) * 2 ^ f.toNat < 4294967296 := by
  have := mask_lt f.toNat b.toNat (by omega)
  rw [mask_cast]
  omega

theorem bv_join (X M V : BitVec 64) : ((X &&& ~~~M) ||| (V &&& M)) + (X &&& M) = X + (V &&& M) := by
  have d1 : (X &&& ~~~M) &&& (V &&& M) = 0#64 := by
    ext i hi
    simp
    intros
    simp_all
  have d2 : (X &&& ~~~M) &&& (X &&& M) = 0#64 := by
    ext i hi
    simp
    intros
    simp_all
  have e1 := BitVec.add_eq_or_of_and_eq_zero _ _ d1
  have e2 := BitVec.add_eq_or_of_and_eq_zero _ _ d2
  have e3 : (X &&& ~~~M) ||| (X &&& M) = X := by
    ext i hi
    simp
    cases X[i] <;> cases M[i] <;> rfl
  rw [← e1]
  rw [e3] at e2
  rw [BitVec.add_assoc, BitVec.add_comm (V &&& M), ← BitVec.add_assoc, e2]

theorem with_bits (n f b v : Int) (h0 : 0 ≤ f) (h1 : 1 ≤ b) (h2 : b ≤ 32 - f) :
    bits .or .i64 (bits .andNot .i64 (n % 4294967296) (((2 : Int) ^ b.toNat - 1) * 2 ^ f.toNat)) (bits .and .i64 (wrap64 (v * 2 ^ f.toNat)) (((2 : Int) ^ b.toNat - 1) * 2 ^ f.toNat)) =
      n % 4294967296 - n % 4294967296 / 2 ^ f.toNat % 2 ^ b.toNat * 2 ^ f.toNat + v % 2 ^ b.toNat * 2 ^ f.toNat := by
  generalize hF : f.toNat = F
  generalize hB : b.toNat = B
  have hFB : F + B ≤ 32 := by omega
  have hw : 0 ≤ n % 4294967296 ∧ n % 4294967296 < 4294967296 := by omega
  obtain ⟨W, hW⟩ := Int.eq_ofNat_of_zero_le hw.1
  rw [hW] at hw
  rw [hW, mask_cast]
  have hM := mask_lt F B hFB
  show IntKind.i64.wrap ((BitVec.ofInt 64 (IntKind.i64.wrap ((BitVec.ofInt 64 (W : Int) &&& ~~~BitVec.ofInt 64 (((2 ^ B - 1) * 2 ^ F : Nat) : Int)).toNat : Int)) |||
    BitVec.ofInt 64 (IntKind.i64.wrap ((BitVec.ofInt 64 (wrap64 (v * 2 ^ F)) &&& BitVec.ofInt 64 (((2 ^ B - 1) * 2 ^ F : Nat) : Int)).toNat : Int))).toNat : Int) = _
  rw [ofInt_wrap, ofInt_wrap]
  have hV := ofInt_wrap64 (v * 2 ^ F)
  have hX := ofInt_nat W (by omega)
  have hMn := ofInt_nat ((2 ^ B - 1) * 2 ^ F) (by omega)
  generalize BitVec.ofInt 64 (wrap64 (v * 2 ^ F)) = V at *
  generalize BitVec.ofInt 64 (W : Int) = X at *
  generalize BitVec.ofInt 64 (((2 ^ B - 1) * 2 ^ F : Nat) : Int) = M at *
  have hj := congrArg BitVec.toNat (bv_join X M V)
  have c1 : (X &&& M).toNat = W / 2 ^ F % 2 ^ B * 2 ^ F := by rw [BitVec.toNat_and, hX, hMn, nat_mask]
  have c2 : (V &&& M).toNat = (v % 2 ^ B).toNat * 2 ^ F := by rw [BitVec.toNat_and, hV, hMn, nat_mask, shl_field v F B hFB]
  have l1 : W / 2 ^ F % 2 ^ B * 2 ^ F ≤ (2 ^ B - 1) * 2 ^ F := Nat.mul_le_mul_right _ (by have := Nat.mod_lt (W / 2 ^ F) (Nat.two_pow_pos B); omega)
  have pB : (0 : Int) < 2 ^ B := Int.pow_pos (by omega)
  have n2 := Int.emod_nonneg v (show (2 : Int) ^ B ≠ 0 from by omega)
  obtain ⟨R, hR⟩ := Int.eq_ofNat_of_zero_le n2
  have n3 := Int.emod_lt_of_pos v pB
  rw [hR] at c2 n3
  rw [Int.toNat_natCast] at c2
  rw [pow_cast] at n3
  have l2 : R * 2 ^ F ≤ (2 ^ B - 1) * 2 ^ F := Nat.mul_le_mul_right _ (by omega)
  have l3 : W / 2 ^ F % 2 ^ B * 2 ^ F ≤ W := Nat.le_trans (Nat.mul_le_mul_right _ (Nat.mod_le _ _)) (Nat.div_mul_le_self _ _)
  have hlt := ((X &&& ~~~M) ||| (V &&& M)).isLt
  rw [BitVec.toNat_add, BitVec.toNat_add, c1, c2, hX] at hj
  have l4 : ((X &&& ~~~M) ||| (V &&& M)).toNat < 4294967296 := by
    rw [BitVec.toNat_or]
    refine Nat.or_lt_two_pow (n := 32) ?_ ?_
    · rw [BitVec.toNat_and, hX]; exact Nat.lt_of_le_of_lt Nat.and_le_left (by omega)
    · rw [c2]; omega
  have goal : ((X &&& ~~~M) ||| (V &&& M)).toNat = W - W / 2 ^ F % 2 ^ B * 2 ^ F + R * 2 ^ F := by omega
  rw [wrap_i64_nat _ (by omega), goal, hR, pow_cast, pow_cast]
  rw [← Int.natCast_ediv, ← Int.natCast_emod, ← Int.natCast_mul, ← Int.natCast_mul]
  omega

theorem wfl_parts (n f b v : Int) (h0 : 0 ≤ f) (h1 : 1 ≤ b) (h2 : b ≤ 32 - f) :
    0 ≤ n % 4294967296 / 2 ^ f.toNat % 2 ^ b.toNat * 2 ^ f.toNat ∧ n % 4294967296 / 2 ^ f.toNat % 2 ^ b.toNat * 2 ^ f.toNat ≤ n % 4294967296 ∧ 0 ≤ v % 2 ^ b.toNat * 2 ^ f.toNat ∧ v % 2 ^ b.toNat * 2 ^ f.toNat < 4294967296 := by
  generalize hF : f.toNat = F
  generalize hB : b.toNat = B
  have hFB : F + B ≤ 32 := by omega
  have hM := mask_lt F B hFB
  have hw : 0 ≤ n % 4294967296 ∧ n % 4294967296 < 4294967296 := by omega
  obtain ⟨W, hW⟩ := Int.eq_ofNat_of_zero_le hw.1
  have pB : (0 : Int) < 2 ^ B := Int.pow_pos (by omega)
  have n2 := Int.emod_nonneg v (show (2 : Int) ^ B ≠ 0 from by omega)
  obtain ⟨R, hR⟩ := Int.eq_ofNat_of_zero_le n2
  have n3 := Int.emod_lt_of_pos v pB
  rw [hR, pow_cast] at n3
  have l2 : R * 2 ^ F ≤ (2 ^ B - 1) * 2 ^ F := Nat.mul_le_mul_right _ (by omega)
  have l3 : W / 2 ^ F % 2 ^ B * 2 ^ F ≤ W := Nat.le_trans (Nat.mul_le_mul_right _ (Nat.mod_le _ _)) (Nat.div_mul_le_self _ _)
  rw [hW, hR, pow_cast, pow_cast, ← Int.natCast_ediv, ← Int.natCast_emod, ← Int.natCast_mul, ← Int.natCast_mul]
  omega

theorem wfl_wrap (n f b v : Int) (h0 : 0 ≤ f) (h1 : 1 ≤ b) (h2 : b ≤ 32 - f) :
    wrap64 (wrap64 (n % 4294967296 - wrap64 (n % 4294967296 / 2 ^ f.toNat % 2 ^ b.toNat * 2 ^ f.toNat)) + wrap64 (v % 2 ^ b.toNat * 2 ^ f.toNat)) =
      n % 4294967296 - n % 4294967296 / 2 ^ f.toNat % 2 ^ b.toNat * 2 ^ f.toNat + v % 2 ^ b.toNat * 2 ^ f.toNat := by
  obtain ⟨a1, a2, a3, a4⟩ := wfl_parts n f b v h0 h1 h2
  generalize n % 4294967296 / 2 ^ f.toNat % 2 ^ b.toNat * 2 ^ f.toNat = A at *
  generalize v % 2 ^ b.toNat * 2 ^ f.toNat = B at *
  unfold wrap64
  omega

end Go.Proofs.YtlpkkclmcgnapaaDoor
