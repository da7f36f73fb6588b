import Derived.Test.YtfagohdmepnkkaaPWk5
namespace Go.Proofs.Ytfagohdmepnkkaa
open Go.ChangeShapes Go.WideShapes Go.ChangeAt Go.RowKit

theorem putA_f (e acc : Int) (h0 : 0 ≤ e) (h1 : e ≤ 4294967295) : putA e acc / 256 = e / 256 ∧ putA e acc % 32 = e % 32 ∧ putA e acc / 128 = e / 128 ∧ putA e acc / 32 % 2 = 1 ∧ (acc = 2 → putA e acc / 64 % 2 = 1) := by
  unfold putA
  split
  · rename_i ha
    rw [or32 e h0 (by omega)]
    split
    · rw [or64 _ (by omega) (by omega)]
      split <;> omega
    · rw [or64 _ (by omega) (by omega)]
      split <;> omega
  · rename_i ha
    rw [or32 e h0 (by omega)]
    split <;> refine ⟨by omega, by omega, by omega, by omega, fun q => absurd q ha⟩
theorem putA_id (e acc : Int) (h0 : 0 ≤ e) (h1 : e ≤ 4294967295) : putA (putA e acc) acc = putA e acc := by
  obtain ⟨f1, f2, f3, f4, f5⟩ := putA_f e acc h0 h1
  obtain ⟨b0, b1⟩ := putA_b e acc h0 h1
  generalize putA e acc = x at *
  have q1 : bits .or .i64 x 32 = x := by rw [or32 x b0 (by omega), if_neg (by omega)]
  unfold putA
  rw [q1]
  split
  · rename_i ha
    rw [or64 x b0 (by omega), if_neg (by have := f5 ha; omega)]
  · rfl
theorem putA_good (e acc : Int) (user large : Bool) (h0 : 0 ≤ e) (h1 : e ≤ 4294967295) : goodV (putA e acc) acc user large = goodV e acc user large := by
  obtain ⟨f1, f2, f3, f4, f5⟩ := putA_f e acc h0 h1
  generalize putA e acc = x at *
  unfold goodV mayV
  rw [show x % 2 = e % 2 by omega, f1, show x / 4 % 2 = e / 4 % 2 by omega, show x / 8 % 2 = e / 8 % 2 by omega, show x / 2 % 2 = e / 2 % 2 by omega, show x / 16 % 2 = e / 16 % 2 by omega]
theorem putA_pg (e acc va : Int) (large : Bool) (h0 : 0 ≤ e) (h1 : e ≤ 4294967295) : pgV (putA e acc) va large = pgV e va large := by
  obtain ⟨f1, _⟩ := putA_f e acc h0 h1
  unfold pgV
  rw [f1]
theorem pwC (n : Int) : bt (pw n) 0 = n % 256 ∧ bt (pw n) 1 = n / 256 % 256 ∧ bt (pw n) 2 = n / 65536 % 256 ∧ bt (pw n) 3 = n / 16777216 % 256 := by
  have e : ∀ x : Int, 0 ≤ x → x < 256 → (((UInt8.ofNat x.toNat).toNat : Nat) : Int) = x := fun x h0 h1 => by
    rw [UInt8.toNat_ofNat']; omega
  have z : (pw n).size = 4 := rfl
  refine ⟨?_, ?_, ?_, ?_⟩
  · rw [← bt_eq (pw n) 0 (by omega)]; exact e (n % 256) (by omega) (by omega)
  · rw [← bt_eq (pw n) 1 (by omega)]; exact e (n / 256 % 256) (by omega) (by omega)
  · rw [← bt_eq (pw n) 2 (by omega)]; exact e (n / 65536 % 256) (by omega) (by omega)
  · rw [← bt_eq (pw n) 3 (by omega)]; exact e (n / 16777216 % 256) (by omega) (by omega)
theorem bt_app (A P C : ByteArray) (i : Nat) : bt (A ++ P ++ C) i = if i < A.size then bt A i else if i < A.size + P.size then bt P (i - A.size) else bt C (i - A.size - P.size) := by
  by_cases h1 : i < A.size
  · rw [if_pos h1, ← bt_eq _ i (by rw [ByteArray.size_append, ByteArray.size_append]; omega), ← bt_eq A i h1]
    congr 2
    rw [ByteArray.getElem_append_left (by rw [ByteArray.size_append]; omega), ByteArray.getElem_append_left h1]
  · rw [if_neg h1]
    by_cases h2 : i < A.size + P.size
    · rw [if_pos h2, ← bt_eq _ i (by rw [ByteArray.size_append, ByteArray.size_append]; omega), ← bt_eq P (i - A.size) (by omega)]
      congr 2
      rw [ByteArray.getElem_append_left (by rw [ByteArray.size_append]; omega), ByteArray.getElem_append_right (by omega)]
    · rw [if_neg h2]
      by_cases h3 : i < A.size + P.size + C.size
      · rw [← bt_eq _ i (by rw [ByteArray.size_append, ByteArray.size_append]; omega), ← bt_eq C (i - A.size - P.size) (by omega)]
        congr 2
        rw [ByteArray.getElem_append_right (by rw [ByteArray.size_append]; omega)]
        congr 1
        rw [ByteArray.size_append]
        omega
      · have e1 : bt (A ++ P ++ C) i = 0 := by unfold bt; rw [dif_neg (by rw [ByteArray.size_append, ByteArray.size_append]; omega)]
        have e2 : bt C (i - A.size - P.size) = 0 := by unfold bt; rw [dif_neg (by omega)]
        rw [e1, e2]
theorem bt_ext (s : ByteArray) (a b i : Nat) (hb : b ≤ s.size) (h : a + i < b) : bt (s.extract a b) i = bt s (a + i) := by
  have hz : (s.extract a b).size = b - a := by rw [ByteArray.size_extract]; omega
  rw [← bt_eq _ i (by omega), ← bt_eq s (a + i) (by omega)]
  congr 2
  rw [ByteArray.getElem_extract]
theorem bt_set (s : ByteArray) (k : Nat) (x : Int) (i : Nat) (h : k + 4 ≤ s.size) (hi : i < s.size) : bt (setv s k x) i = if k ≤ i ∧ i < k + 4 then bt (pw x) (i - k) else bt s i := by
  have z0 : (s.extract 0 k).size = k := by rw [ByteArray.size_extract]; omega
  have z1 : (pw x).size = 4 := rfl
  unfold setv
  rw [bt_app, z0, z1]
  by_cases h1 : i < k
  · rw [if_pos h1, if_neg (by omega), bt_ext s 0 k i (by omega) (by omega), Nat.zero_add]
  · rw [if_neg h1]
    by_cases h2 : i < k + 4
    · rw [if_pos h2, if_pos (by omega)]
    · rw [if_neg h2, if_neg (by omega), bt_ext s (k + 4) s.size (i - k - 4) (Nat.le_refl _) (by omega)]
      congr 1
      omega
theorem ba_ext {s t : ByteArray} (hs : s.size = t.size) (h : ∀ i, i < s.size → bt s i = bt t i) : s = t := by
  apply ByteArray.ext
  apply Array.ext hs
  intro i h1 h2
  have h3 := h i h1
  rw [← bt_eq s i h1, ← bt_eq t i h2] at h3
  have h4 : s[i].toNat = t[i].toNat := by omega
  exact UInt8.toNat_inj.1 h4
theorem setv_size2 (s : ByteArray) (k : Nat) (x : Int) (h : k + 4 ≤ s.size) : (setv s k x).size = s.size := by
  unfold setv
  rw [ByteArray.size_append, ByteArray.size_append, ByteArray.size_extract, ByteArray.size_extract, show (pw x).size = 4 from rfl]
  omega
theorem wv_same (s : ByteArray) (k : Nat) (x : Int) (h : k + 4 ≤ s.size) (h0 : 0 ≤ x) (h1 : x ≤ 4294967295) : wv (setv s k x) k = x := by
  obtain ⟨p0, p1, p2, p3⟩ := pwC x
  unfold wv
  rw [bt_set s k x k h (by omega), bt_set s k x (k + 1) h (by omega), bt_set s k x (k + 2) h (by omega), bt_set s k x (k + 3) h (by omega), if_pos (by omega), if_pos (by omega), if_pos (by omega), if_pos (by omega), show k - k = 0 by omega, show k + 1 - k = 1 by omega, show k + 2 - k = 2 by omega, show k + 3 - k = 3 by omega, p0, p1, p2, p3]
  omega
theorem wv_other (s : ByteArray) (k : Nat) (x : Int) (j : Nat) (h : k + 4 ≤ s.size) (hj : j + 4 ≤ s.size) (hk4 : k % 4 = 0) (hj4 : j % 4 = 0) (hne : j ≠ k) : wv (setv s k x) j = wv s j := by
  unfold wv
  rw [bt_set s k x j h (by omega), bt_set s k x (j + 1) h (by omega), bt_set s k x (j + 2) h (by omega), bt_set s k x (j + 3) h (by omega), if_neg (by omega), if_neg (by omega), if_neg (by omega), if_neg (by omega)]
theorem setv_twice (s : ByteArray) (k : Nat) (x : Int) (h : k + 4 ≤ s.size) : setv (setv s k x) k x = setv s k x := by
  have z := setv_size2 s k x h
  have z2 := setv_size2 (setv s k x) k x (by omega)
  apply ba_ext z2
  intro i hi
  rw [bt_set (setv s k x) k x i (by omega) (by omega)]
  split
  · rename_i hr
    rw [bt_set s k x i h (by omega), if_pos hr]
  · rfl
theorem bytes_of (x b1 b2 b3 : Int) (hx : x / 256 = b1 + 256 * b2 + 65536 * b3) (h1 : 0 ≤ b1 ∧ b1 ≤ 255) (h2 : 0 ≤ b2 ∧ b2 ≤ 255) (h3 : 0 ≤ b3 ∧ b3 ≤ 255) : x / 256 % 256 = b1 ∧ x / 65536 % 256 = b2 ∧ x / 16777216 % 256 = b3 := by
  have e1 : x / 65536 = x / 256 / 256 := by omega
  have e2 : x / 16777216 = x / 256 / 65536 := by omega
  rw [e1, e2, hx]
  omega
/-- The bytes that a walk changes. -/
structure OneB (s M : ByteArray) (k : Nat) : Prop where
  sz : M.size = s.size
  k4 : k % 4 = 0
  lt : k < s.size
  oth : ∀ i, i < s.size → i ≠ k → bt M i = bt s i
  fl : bt M k % 32 = bt s k % 32 ∧ bt M k / 128 = bt s k / 128
theorem oneB (s : ByteArray) (k : Nat) (acc : Int) (h : k + 4 ≤ s.size) (h4 : k % 4 = 0) : OneB s (setv s k (putA (wv s k) acc)) k := by
  obtain ⟨w0, w1⟩ := wv_b s k
  obtain ⟨f1, f2, f3, _⟩ := putA_f (wv s k) acc w0 w1
  have b0 := bt_b s k
  have b1 := bt_b s (k + 1)
  have b2 := bt_b s (k + 2)
  have b3 := bt_b s (k + 3)
  have hw : wv s k = bt s k + 256 * bt s (k + 1) + 65536 * bt s (k + 2) + 16777216 * bt s (k + 3) := by unfold wv; omega
  have g0 : putA (wv s k) acc % 256 % 32 = bt s k % 32 ∧ putA (wv s k) acc % 256 / 128 = bt s k / 128 := by
    clear f1
    generalize putA (wv s k) acc = x at *
    generalize wv s k = e at *
    constructor
    · clear f3; omega
    · clear f2; omega
  have hf1 : putA (wv s k) acc / 256 = bt s (k + 1) + 256 * bt s (k + 2) + 65536 * bt s (k + 3) := by clear f2 f3 g0; omega
  clear f1 f2 f3 hw w0 w1
  generalize putA (wv s k) acc = x at *
  obtain ⟨p0, p1, p2, p3⟩ := pwC x
  obtain ⟨g1, g2, g3⟩ := bytes_of x _ _ _ hf1 b1 b2 b3
  clear hf1 b0 b1 b2 b3
  refine ⟨setv_size2 s k x h, h4, by omega, fun i hi hne => ?_, ?_⟩
  · rw [bt_set s k x i h hi]
    split
    · rename_i hr
      obtain rfl | rfl | rfl : i = k + 1 ∨ i = k + 2 ∨ i = k + 3 := by omega
      · rw [show k + 1 - k = 1 by omega, p1, g1]
      · rw [show k + 2 - k = 2 by omega, p2, g2]
      · rw [show k + 3 - k = 3 by omega, p3, g3]
    · rfl
  · rw [bt_set s k x k h (by omega), if_pos (by omega), show k - k = 0 by omega, p0]
    exact g0
/-- What a walk without fault leaves, and that one behind it changes nothing more. -/
theorem walk_again (s : ByteArray) (root va : Nat) (acc : Int) (user : Bool) (v1 : va ≤ 262143) (hf : (walkV s root va acc user).fault = 0) :
    (∃ k, OneB s (walkV s root va acc user).mem k) ∧ (walkV (walkV s root va acc user).mem root va acc user).fault = 0 ∧ (walkV (walkV s root va acc user).mem root va acc user).pa = (walkV s root va acc user).pa ∧ (walkV (walkV s root va acc user).mem root va acc user).mem = (walkV s root va acc user).mem := by
  have e1 : at1 root va = root * 256 + 4 * (va / 8192) := by unfold at1; omega
  by_cases hr : ((root : Int) + 1) * 256 ≤ (s.size : Int)
  · have k1 : at1 root va + 4 ≤ s.size := by omega
    have k14 : at1 root va % 4 = 0 := by omega
    obtain ⟨w0, w1⟩ := wv_b s (at1 root va)
    by_cases h16 : wv s (at1 root va) % 16 = 1
    · by_cases h2 : (wv s (at1 root va) / 256 + 1) * 256 ≤ (s.size : Int)
      · have e2 : at2 (wv s (at1 root va)) va = (wv s (at1 root va) / 256).toNat * 256 + 4 * (va / 256 % 32) := by unfold at2; omega
        have k2 : at2 (wv s (at1 root va)) va + 4 ≤ s.size := by omega
        have k24 : at2 (wv s (at1 root va)) va % 4 = 0 := by omega
        have E : walkV s root va acc user = finV s [(root : Int), wv s (at1 root va) / 256] (at2 (wv s (at1 root va)) va) false va acc user := by
          unfold walkV
          rw [if_pos hr, if_pos h16, if_pos h2]
        rw [E] at hf ⊢
        obtain ⟨K, hK⟩ : ∃ K, at2 (wv s (at1 root va)) va = K := ⟨_, rfl⟩
        rw [hK] at hf k2 k24 ⊢
        obtain ⟨x0, x1⟩ := wv_b s K
        by_cases hg : goodV (wv s K) acc user false = true
        · by_cases hp : (pgV (wv s K) va false + 1) * 256 ≤ (s.size : Int)
          · have E2 : finV s [(root : Int), wv s (at1 root va) / 256] K false va acc user = ⟨0, pgV (wv s K) va false * 256 + (va : Int) % 256, putA (wv s K) acc, false, [(root : Int), wv s (at1 root va) / 256], setv s K (putA (wv s K) acc)⟩ := by
              unfold finV
              rw [if_pos hg, if_pos hp]
            rw [E2]
            simp only
            have hne : at1 root va ≠ K := by
              intro q
              rw [q] at h16
              unfold goodV mayV at hg
              simp only [Bool.and_eq_true, decide_eq_true_eq] at hg
              have hg2 := hg.2.1
              split at hg2
              · omega
              · split at hg2 <;> omega
            have hz := setv_size2 s K (putA (wv s K) acc) k2
            obtain ⟨y0, y1⟩ := putA_b (wv s K) acc x0 x1
            have q1 := wv_other s K (putA (wv s K) acc) (at1 root va) k2 k1 k24 k14 hne
            have q2 := wv_same s K (putA (wv s K) acc) k2 y0 y1
            have E3 : walkV (setv s K (putA (wv s K) acc)) root va acc user = ⟨0, pgV (wv s K) va false * 256 + (va : Int) % 256, putA (wv s K) acc, false, [(root : Int), wv s (at1 root va) / 256], setv s K (putA (wv s K) acc)⟩ := by
              unfold walkV
              rw [hz, q1, if_pos hr, if_pos h16, if_pos h2, hK]
              unfold finV
              rw [q2, putA_good _ _ _ _ x0 x1, putA_pg _ _ _ _ x0 x1, if_pos hg, hz, if_pos hp, putA_id _ _ x0 x1, setv_twice s K _ k2]
            rw [E3]
            exact ⟨⟨K, oneB s K acc k2 k24⟩, rfl, rfl, rfl⟩
          · unfold finV at hf
            rw [if_pos hg, if_neg hp] at hf
            cases hf
        · unfold finV at hf
          rw [if_neg hg] at hf
          cases hf
      · unfold walkV at hf
        rw [if_pos hr, if_pos h16, if_neg h2] at hf
        cases hf
    · have E : walkV s root va acc user = finV s [(root : Int)] (at1 root va) true va acc user := by
        unfold walkV
        rw [if_pos hr, if_neg h16]
      rw [E] at hf ⊢
      obtain ⟨K, hK⟩ : ∃ K, at1 root va = K := ⟨_, rfl⟩
      rw [hK] at hf k1 k14 h16 w0 w1 ⊢
      by_cases hg : goodV (wv s K) acc user true = true
      · by_cases hp : (pgV (wv s K) va true + 1) * 256 ≤ (s.size : Int)
        · have E2 : finV s [(root : Int)] K true va acc user = ⟨0, pgV (wv s K) va true * 256 + (va : Int) % 256, putA (wv s K) acc, true, [(root : Int)], setv s K (putA (wv s K) acc)⟩ := by
            unfold finV
            rw [if_pos hg, if_pos hp]
          rw [E2]
          simp only
          have hz := setv_size2 s K (putA (wv s K) acc) k1
          obtain ⟨y0, y1⟩ := putA_b (wv s K) acc w0 w1
          obtain ⟨_, f2, _⟩ := putA_f (wv s K) acc w0 w1
          have q2 := wv_same s K (putA (wv s K) acc) k1 y0 y1
          have E3 : walkV (setv s K (putA (wv s K) acc)) root va acc user = ⟨0, pgV (wv s K) va true * 256 + (va : Int) % 256, putA (wv s K) acc, true, [(root : Int)], setv s K (putA (wv s K) acc)⟩ := by
            unfold walkV
            rw [hz, hK, q2, if_pos hr, if_neg (by omega)]
            unfold finV
            rw [q2, putA_good _ _ _ _ w0 w1, putA_pg _ _ _ _ w0 w1, if_pos hg, hz, if_pos hp, putA_id _ _ w0 w1, setv_twice s K _ k1]
          rw [E3]
          exact ⟨⟨K, oneB s K acc k1 k14⟩, rfl, rfl, rfl⟩
        · unfold finV at hf
          rw [if_pos hg, if_neg hp] at hf
          cases hf
      · unfold finV at hf
        rw [if_neg hg] at hf
        cases hf
  · unfold walkV at hf
    rw [if_neg hr] at hf
    cases hf
/-- A fault leaves memory as it is. -/
theorem walk_fault (s : ByteArray) (root va : Int) (acc : Int) (user : Bool) (hf : ¬ (walkV s root va acc user).fault = 0) : (walkV s root va acc user).mem = s := by
  unfold walkV finV at hf ⊢
  split
  · rename_i h1
    rw [if_pos h1] at hf
    split
    · rename_i h2
      rw [if_pos h2] at hf
      split
      · rename_i h3
        rw [if_pos h3] at hf
        split
        · rename_i h4
          rw [if_pos h4] at hf
          split
          · rename_i h5
            rw [if_pos h5] at hf
            exact absurd rfl hf
          · rfl
        · rfl
      · rfl
    · rename_i h2
      rw [if_neg h2] at hf
      split
      · rename_i h4
        rw [if_pos h4] at hf
        split
        · rename_i h5
          rw [if_pos h5] at hf
          exact absurd rfl hf
        · rfl
      · rfl
  · rfl
theorem or96 : ∀ n : Fin 256, bits .or .u8 (bits .or .u8 ((n.val : Nat) : Int) 32) 64 = ((n.val % 32 + 96 + n.val / 128 * 128 : Nat) : Int) := by decide +kernel
theorem OneB.orr {s M : ByteArray} {k : Nat} (h : OneB s M k) : bits .or .u8 (bits .or .u8 (bt M k) 32) 64 = bits .or .u8 (bits .or .u8 (bt s k) 32) 64 := by
  obtain ⟨f1, f2⟩ := h.fl
  have a := bt_b M k
  have b := bt_b s k
  obtain ⟨m, hm⟩ := Int.eq_ofNat_of_zero_le a.1
  obtain ⟨n, hn⟩ := Int.eq_ofNat_of_zero_le b.1
  have q1 := or96 ⟨m, by omega⟩
  have q2 := or96 ⟨n, by omega⟩
  simp only at q1 q2
  rw [hm, hn, q1, q2]
  rw [hm, hn] at f1 f2
  omega
end Go.Proofs.Ytfagohdmepnkkaa
