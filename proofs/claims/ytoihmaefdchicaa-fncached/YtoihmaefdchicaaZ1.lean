import Derived.WalkKit
import Derived.ProofKit
import Derived.OpenShut
import Derived.Deep.Draws
import Derived.Below
import Derived.Laws.BitsAllLaws
import Derived.Test.YtoihmaefdchicaaRows
import Derived.WalkLawsBesides
import Derived.Deep.QuietTactic
import Derived.BigQuiet
import Derived.Laws.BytesArg
namespace Go.Proofs.Ytoihmaefdchicaa
open Go.ChangeShapes Go.WideShapes Go.ChangeAt Go.RowKit

theorem wf_b {n : Int} (h : (Lit.int .i64 n).wf = true) : -9223372036854775808 ≤ n ∧ n ≤ 9223372036854775807 := by
  have := bounds_i64 h
  omega

theorem ret_int {k : IntKind} {a b : Int} (h : a = b) : Ending.returned (.int k a) = .returned (.int k b) := by rw [h]
theorem ret_bool {a b : Bool} (h : a = b) : Ending.returned (.bool a) = .returned (.bool b) := by rw [h]

theorem tmod_neg (n m : Int) (hm : 0 < m) (h : n.tmod m < 0) : n.tmod m + m = n % m := by
  have h1 := Int.tmod_eq_emod (a := n) (b := m)
  split at h1
  · have h2 := Int.emod_nonneg n (by omega : m ≠ 0); omega
  · omega

theorem tmod_pos (n m : Int) (hm : 0 < m) (h : 0 ≤ n.tmod m) : n.tmod m = n % m := by
  have h1 := Int.tmod_eq_emod (a := n) (b := m)
  have h2 := Int.emod_lt_of_pos n hm
  split at h1
  · omega
  · omega

theorem bdn {B : Nat} {a w : World} (h : Below B a w) (n : Nat) : Below B a (w.drewN n) := ⟨h.os, h.tape, h.output, h.size, h.block⟩

theorem bcell {W w1 : World} (hb : Below W.heap.size W w1) : (∀ b o, b < W.heap.size → w1.cell? ⟨b, o, none⟩ = W.cell? ⟨b, o, none⟩) ∧ (∀ b o, b < W.heap.size → w1.frozen? ⟨b, o, none⟩ = W.frozen? ⟨b, o, none⟩) :=
  ⟨fun b o h => hb.cell (p := ⟨b, o, none⟩) h, fun b o h => hb.frozen (p := ⟨b, o, none⟩) h⟩

theorem bstep {w u1 u2 : World} (h1 : Below w.heap.size w u1) (o : Obj) (h2 : Below (u1.alloc o).heap.size (u1.alloc o) u2) : Below w.heap.size w u2 :=
  (h1.alloc h1.size o).trans (h2.mono (by have := h1.size; simp; omega))

def sgn (n : Int) : Int := if 2147483648 ≤ n % 4294967296 then n % 4294967296 - 4294967296 else n % 4294967296

end Go.Proofs.Ytoihmaefdchicaa
namespace Go.Proofs.Ytoihmaefdchicaa
open Go.RowKit

theorem pow_cast (k : Nat) : (2 : Int) ^ k = ((2 ^ k : Nat) : Int) := by simp

theorem pow_b (b : Int) (h0 : 0 ≤ b) (h1 : b ≤ 32) : 1 ≤ (2 : Int) ^ b.toNat ∧ (2 : Int) ^ b.toNat ≤ 4294967296 := by
  rw [pow_cast]
  have h2 : 2 ^ b.toNat ≤ 2 ^ 32 := Nat.pow_le_pow_right (by omega) (by omega)
  have h3 : 0 < 2 ^ b.toNat := Nat.two_pow_pos _
  omega

theorem ofInt_nat (a : Nat) (h : a < 18446744073709551616) : (BitVec.ofInt 64 (a : Int)).toNat = a := by
  rw [BitVec.ofInt_natCast, BitVec.toNat_ofNat]; exact Nat.mod_eq_of_lt (by omega)

theorem wrap_i64_nat (a : Nat) (h : a < 9223372036854775808) : IntKind.i64.wrap (a : Int) = a := by
  rw [IntKind.wrap_i64]; omega

theorem and_i64_nat (a b : Nat) (ha : a < 9223372036854775808) (hb : b < 9223372036854775808) : bits .and .i64 (a : Int) (b : Int) = ((a &&& b : Nat) : Int) := by
  have hx : a &&& b < 2 ^ 63 := Nat.and_lt_two_pow _ (by omega)
  show IntKind.i64.wrap ((BitVec.ofInt 64 (a : Int) &&& BitVec.ofInt 64 (b : Int)).toNat : Int) = _
  rw [BitVec.toNat_and, ofInt_nat a (by omega), ofInt_nat b (by omega), wrap_i64_nat _ (by omega)]

theorem or_i64_nat (a b : Nat) (ha : a < 9223372036854775808) (hb : b < 9223372036854775808) : bits .or .i64 (a : Int) (b : Int) = ((a ||| b : Nat) : Int) := by
  have hx : a ||| b < 2 ^ 63 := Nat.or_lt_two_pow (by omega) (by omega)
  show IntKind.i64.wrap ((BitVec.ofInt 64 (a : Int) ||| BitVec.ofInt 64 (b : Int)).toNat : Int) = _
  rw [BitVec.toNat_or, ofInt_nat a (by omega), ofInt_nat b (by omega), wrap_i64_nat _ (by omega)]

theorem or_join (i : Nat) (M : Int) (hM : M = ((2 ^ i : Nat) : Int)) (hi : i ≤ 24) (a x : Int) (h0 : 0 ≤ a) (h1 : a < M) (h2 : 0 ≤ x) (h3 : x ≤ 255) : bits .or .i64 a (x * M) = a + x * M := by
  subst hM
  obtain ⟨A, rfl⟩ := Int.eq_ofNat_of_zero_le h0
  obtain ⟨X, rfl⟩ := Int.eq_ofNat_of_zero_le h2
  have hp : 2 ^ i ≤ 2 ^ 24 := Nat.pow_le_pow_right (by omega) hi
  have hq : X * 2 ^ i ≤ 255 * 2 ^ i := Nat.mul_le_mul_right _ (by omega)
  rw [← Int.natCast_mul, or_i64_nat A _ (by omega) (by omega), Nat.or_comm, nat_join i (X * 2 ^ i) A (by simp) (by omega)]
  omega

theorem and_low (x : Int) (b : Nat) (h0 : 0 ≤ x) (h1 : x < 9223372036854775808) (hb : b ≤ 32) : bits .and .i64 x (2 ^ b - 1) = x % 2 ^ b := by
  obtain ⟨X, rfl⟩ := Int.eq_ofNat_of_zero_le h0
  have h2 : 2 ^ b ≤ 2 ^ 32 := Nat.pow_le_pow_right (by omega) (by omega)
  have h3 : 0 < 2 ^ b := Nat.two_pow_pos _
  rw [pow_cast, show (((2 ^ b : Nat) : Int) - 1) = ((2 ^ b - 1 : Nat) : Int) from by omega, and_i64_nat X _ (by omega) (by omega), Nat.and_two_pow_sub_one_eq_mod]
  simp

theorem field_bits (n f b : Int) (h0 : 0 ≤ f) (h1 : 1 ≤ b) (h2 : b ≤ 32 - f) :
    bits .and .i64 (n % 4294967296 / 2 ^ f.toNat) (2 ^ b.toNat - 1) = n % 4294967296 / 2 ^ f.toNat % 2 ^ b.toNat := by
  have p0 : (0 : Int) < 2 ^ f.toNat := Int.pow_pos (by omega)
  have p1 : 0 ≤ n % 4294967296 / 2 ^ f.toNat := Int.ediv_nonneg (by omega) (by omega)
  have p2 : n % 4294967296 / 2 ^ f.toNat ≤ n % 4294967296 := Int.ediv_le_self _ (by omega)
  exact and_low _ _ p1 (by omega) (by omega)

theorem nat_mask (x f b : Nat) : x &&& ((2 ^ b - 1) * 2 ^ f) = (x / 2 ^ f % 2 ^ b) * 2 ^ f := by
  apply Nat.eq_of_testBit_eq
  intro i
  simp only [Nat.testBit_and, Nat.testBit_mul_two_pow, Nat.testBit_two_pow_sub_one, Nat.testBit_mod_two_pow, Nat.testBit_div_two_pow]
  by_cases h : f ≤ i
  · have e : i - f + f = i := by omega
    simp [h, e, Bool.and_comm]
  · simp [h]

end Go.Proofs.Ytoihmaefdchicaa
namespace Go.Proofs.Ytoihmaefdchicaa
open Go.RowKit

theorem and_mask (x : Int) (f b : Nat) (h0 : 0 ≤ x) (h1 : x < 9223372036854775808) (hm : (2 ^ b - 1) * 2 ^ f < 9223372036854775808) : bits .and .i64 x (((2 ^ b - 1) * 2 ^ f : Nat) : Int) = x / ((2 ^ f : Nat) : Int) % ((2 ^ b : Nat) : Int) * ((2 ^ f : Nat) : Int) := by
  obtain ⟨X, rfl⟩ := Int.eq_ofNat_of_zero_le h0
  rw [and_i64_nat X _ (by omega) hm, nat_mask]
  simp
theorem and1 (x : Int) (h0 : 0 ≤ x) (h1 : x < 9223372036854775808) : bits .and .i64 x 1 = x % 2 := by
  have := and_mask x 0 1 h0 h1 (by decide)
  simpa using this
theorem and2 (x : Int) (h0 : 0 ≤ x) (h1 : x < 9223372036854775808) : bits .and .i64 x 2 = x / 2 % 2 * 2 := by
  have := and_mask x 1 1 h0 h1 (by decide)
  simpa using this
theorem and4 (x : Int) (h0 : 0 ≤ x) (h1 : x < 9223372036854775808) : bits .and .i64 x 4 = x / 4 % 2 * 4 := by
  have := and_mask x 2 1 h0 h1 (by decide)
  simpa using this
theorem and8 (x : Int) (h0 : 0 ≤ x) (h1 : x < 9223372036854775808) : bits .and .i64 x 8 = x / 8 % 2 * 8 := by
  have := and_mask x 3 1 h0 h1 (by decide)
  simpa using this
theorem and16 (x : Int) (h0 : 0 ≤ x) (h1 : x < 9223372036854775808) : bits .and .i64 x 16 = x / 16 % 2 * 16 := by
  have := and_mask x 4 1 h0 h1 (by decide)
  simpa using this
theorem and64 (x : Int) (h0 : 0 ≤ x) (h1 : x < 9223372036854775808) : bits .and .i64 x 64 = x / 64 % 2 * 64 := by
  have := and_mask x 6 1 h0 h1 (by decide)
  simpa using this
theorem and128 (x : Int) (h0 : 0 ≤ x) (h1 : x < 9223372036854775808) : bits .and .i64 x 128 = x / 128 % 2 * 128 := by
  have := and_mask x 7 1 h0 h1 (by decide)
  simpa using this
theorem and14 (x : Int) (h0 : 0 ≤ x) (h1 : x < 9223372036854775808) : bits .and .i64 x 14 = x / 2 % 8 * 2 := by
  have := and_mask x 1 3 h0 h1 (by decide)
  simpa using this
theorem and15 (x : Int) (h0 : 0 ≤ x) (h1 : x < 9223372036854775808) : bits .and .i64 x 15 = x % 16 := by
  have := and_mask x 0 4 h0 h1 (by decide)
  simpa using this
theorem add_or (x y : Nat) (hx : x < 9223372036854775808) (hy : y < 9223372036854775808) (h : x &&& y = 0) : x + y = x ||| y := by
  have hb : BitVec.ofNat 64 x &&& BitVec.ofNat 64 y = 0#64 := by
    apply BitVec.eq_of_toNat_eq
    rw [BitVec.toNat_and, BitVec.toNat_ofNat, BitVec.toNat_ofNat, Nat.mod_eq_of_lt (by omega), Nat.mod_eq_of_lt (by omega), h]
    rfl
  have e := congrArg BitVec.toNat (BitVec.add_eq_or_of_and_eq_zero _ _ hb)
  rw [BitVec.toNat_add, BitVec.toNat_or, BitVec.toNat_ofNat, BitVec.toNat_ofNat, Nat.mod_eq_of_lt (a := x) (by omega), Nat.mod_eq_of_lt (a := y) (by omega), Nat.mod_eq_of_lt (by omega)] at e
  exact e
theorem nat_or_bit (x f : Nat) (hx : x < 9223372036854775808) (hf : 2 ^ f < 9223372036854775808) : x ||| 2 ^ f = if x / 2 ^ f % 2 = 0 then x + 2 ^ f else x := by
  have e : x = 2 ^ f * (x / 2 ^ f) + x % 2 ^ f := (Nat.div_add_mod _ _).symm
  have hb : x.testBit f = decide (x / 2 ^ f % 2 = 1) := by
    rw [Nat.testBit_eq_decide_div_mod_eq]
  split
  · rename_i h
    have h2 : x &&& 2 ^ f = 0 := by
      apply Nat.eq_of_testBit_eq
      intro i
      rw [Nat.testBit_and, Nat.testBit_two_pow]
      by_cases hi : f = i
      · subst hi
        simp [hb, h]
      · simp [hi]
    exact (add_or _ _ hx hf h2).symm
  · rename_i h
    apply Nat.eq_of_testBit_eq
    intro i
    rw [Nat.testBit_or, Nat.testBit_two_pow]
    by_cases hi : f = i
    · subst hi
      have : x / 2 ^ f % 2 = 1 := by omega
      simp [hb, this]
    · simp [hi]
theorem or_bit (x : Int) (f : Nat) (h0 : 0 ≤ x) (h1 : x < 9223372036854775808) (hf : 2 ^ f < 9223372036854775808) : bits .or .i64 x ((2 ^ f : Nat) : Int) = if x / ((2 ^ f : Nat) : Int) % 2 = 0 then x + ((2 ^ f : Nat) : Int) else x := by
  obtain ⟨X, rfl⟩ := Int.eq_ofNat_of_zero_le h0
  rw [or_i64_nat X _ (by omega) hf, nat_or_bit X f (by omega) hf]
  have e : ((X : Int) / ((2 ^ f : Nat) : Int) % 2 = 0) ↔ (X / 2 ^ f % 2 = 0) := by
    rw [← Int.natCast_ediv]
    omega
  by_cases h : X / 2 ^ f % 2 = 0
  · rw [if_pos h, if_pos (e.2 h)]
    omega
  · rw [if_neg h, if_neg (fun h2 => h (e.1 h2))]
theorem or32 (x : Int) (h0 : 0 ≤ x) (h1 : x < 9223372036854775808) : bits .or .i64 x 32 = if x / 32 % 2 = 0 then x + 32 else x := by
  have := or_bit x 5 h0 h1 (by decide)
  simpa using this
theorem or64 (x : Int) (h0 : 0 ≤ x) (h1 : x < 9223372036854775808) : bits .or .i64 x 64 = if x / 64 % 2 = 0 then x + 64 else x := by
  have := or_bit x 6 h0 h1 (by decide)
  simpa using this

theorem l01Mod_any (n m : Int) (w : World) (hm : 0 < m) (hM : m ≤ 9223372036854775807) :
    Calls Try.prog 100 #[.int .i64 n, .int .i64 m] w fun e w' => e = .returned (.int .i64 (n % m)) ∧ w' = w := by
  by_cases h : n.tmod m < 0
  · have e := tmod_neg n m hm h
    have h2 := Int.emod_nonneg n (by omega : m ≠ 0)
    have h3 := Int.emod_lt_of_pos n hm
    have E : Hid (n.tmod m + m = n % m) := e
    have g1 : 0 ≤ n.tmod m + m := by omega
    have g2 : n.tmod m + m < m := by omega
    clear e h2 h3
    go_enter Try.func100, Try.ntmps100
    go_wp2
    go_ret
    exact ⟨ret_int E.out, rfl⟩
  · have E : Hid (n.tmod m = n % m) := tmod_pos n m hm (by omega)
    go_enter Try.func100, Try.ntmps100
    go_wp2
    go_ret
    exact ⟨ret_int E.out, rfl⟩


theorem specWord_any (n : Int) (w : World) :
    Calls Try.prog 93 #[.int .i64 n] w fun e w' => e = .returned (.int .i64 (n % 4294967296)) ∧ w' = w := by
  go_enter Try.func93, Try.ntmps93
  go_wp2_with (go_at_call 100; refine (l01Mod_any _ _ _ (by omega) (by omega)).mono ?_; rintro e w' ⟨rfl, rfl⟩)
  go_ret
  exact ⟨rfl, rfl⟩

theorem implWord_any (n : Int) (w : World) :
    Calls Try.prog 97 #[.int .i64 n] w fun e w' => e = .returned (.int .i64 (n % 4294967296)) ∧ w' = w := by
  go_enter Try.func97, Try.ntmps97
  go_wp2
  go_ret
  exact ⟨rfl, rfl⟩

def bt (s : ByteArray) (k : Nat) : Int := if h : k < s.size then (s[k].toNat : Int) else 0
theorem bt_b (s : ByteArray) (k : Nat) : 0 ≤ bt s k ∧ bt s k ≤ 255 := by
  unfold bt; split
  · rename_i h; have := s[k].toNat_lt; omega
  · omega
theorem bt_eq (s : ByteArray) (k : Nat) (h : k < s.size) : (s[k].toNat : Int) = bt s k := by unfold bt; rw [dif_pos h]

theorem idx_str (s : ByteArray) (k : Nat) (h : k < s.size) : ∀ (w : World) (i : Int), i = k → Sem.run Try.prog (Instr.index 9 (.string s) (.int .i64 i)) w = .ok (.int .u8 (bt s k)) w := by
  intro w i hi
  subst hi
  rw [run_index_string _ _ _ _ _ Try.underlying9, dif_pos (by omega)]
  rw [← bt_eq s k h]
  rfl


theorem tooLong_any (s : ByteArray) (w : World) :
    Calls Try.prog 33 #[.string s] w fun e w' => e = .returned (.bool (decide (65536 < (s.size : Int)))) ∧ w' = w := by
  go_enter Try.func33, Try.ntmps33
  go_wp2
  go_ret
  exact ⟨rfl, rfl⟩


def pw (n : Int) : ByteArray := strOfNums [n % 256, n / 256 % 256, n / 65536 % 256, n / 16777216 % 256]
theorem pw_mod (n : Int) : strOfNums [n % 256, n % 4294967296 / 256 % 256, n % 4294967296 / 65536 % 256, n % 4294967296 / 16777216] = pw n := by
  unfold pw
  rw [show n % 4294967296 / 256 % 256 = n / 256 % 256 from by omega, show n % 4294967296 / 65536 % 256 = n / 65536 % 256 from by omega, show n % 4294967296 / 16777216 = n / 16777216 % 256 from by omega]
theorem ret_str {a b : ByteArray} (h : a = b) : Ending.returned (.string a) = .returned (.string b) := by rw [h]

theorem conv4 (w : World) (a b c d : Int) :
    Sem.run Try.prog (convert 22 9 (.slice (some ⟨w.heap.size, 0, none⟩) 4 4)) (w.alloc (.cells #[.int .u8 a, .int .u8 b, .int .u8 c, .int .u8 d] 5)) =
      .ok (.string (strOfNums [a, b, c, d])) (w.alloc (.cells #[.int .u8 a, .int .u8 b, .int .u8 c, .int .u8 d] 5)) := by
  refine run_convert_bytes_arg _ 22 5 Try.underlying22 Try.underlying5 w.heap.size 0 4 4 [a, b, c, d] rfl ?_ 9 Try.underlying9
  intro i hi
  match i, hi with
  | 0, _ => simp
  | 1, _ => simp
  | 2, _ => simp
  | 3, _ => simp

theorem implPutWord_any (n : Int) (w : World) :
    Calls Try.prog 99 #[.int .i64 n] w fun e w' => e = .returned (.string (pw n)) ∧ Below w.heap.size w w' := by
  have hc := conv4 w (n % 256) (n / 256 % 256) (n / 65536 % 256) (n / 16777216 % 256)
  go_enter Try.func99, Try.ntmps99
  go_wp2
  go_ret
  exact ⟨rfl, (Below.refl _ _).alloc (Nat.le_refl _) _⟩

theorem specPutWord_any (n : Int) (w : World) :
    Calls Try.prog 86 #[.int .i64 n] w fun e w' => e = .returned (.string (pw n)) ∧ Below w.heap.size w w' := by
  have hc := conv4 w (n % 256) (n % 4294967296 / 256 % 256) (n % 4294967296 / 65536 % 256) (n % 4294967296 / 16777216)
  go_enter Try.func86, Try.ntmps86
  go_wp2_with (go_at_call 93; refine (specWord_any _ _).mono ?_; rintro e w' ⟨rfl, rfl⟩)
  go_ret
  exact ⟨ret_str (pw_mod n), (Below.refl _ _).alloc (Nat.le_refl _) _⟩
end Go.Proofs.Ytoihmaefdchicaa
