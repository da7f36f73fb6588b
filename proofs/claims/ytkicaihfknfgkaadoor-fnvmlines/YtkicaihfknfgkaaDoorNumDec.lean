import Derived.Test.YtkicaihfknfgkaaDoorNumber
namespace Go.Proofs.YtkicaihfknfgkaaDoor
open Go.ChangeShapes Go.WideShapes Go.ChangeAt Go.RowKit

theorem bt_lit (l : List UInt8) (k : Nat) (h : k < l.length) : bt ⟨l.toArray⟩ k = (l[k].toNat : Int) := by
  unfold bt
  rw [dif_pos (show k < (⟨l.toArray⟩ : ByteArray).size from by show k < l.toArray.size; simpa using h)]
  rfl
theorem dch_nat (n : Nat) (h : n < 10) : (dch n).toNat = 48 + n := by have := dig_nat n h; omega
theorem decN_head (n : Nat) : ∃ d l, decN n = d :: l ∧ 48 ≤ d.toNat ∧ d.toNat ≤ 57 := by
  induction n using Nat.strongRecOn with
  | ind n ih =>
    by_cases h : n < 10
    · exact ⟨dch n, [], decN_lt n h, by have := dch_nat n h; omega, by have := dch_nat n h; omega⟩
    · obtain ⟨d, l, h1, h2, h3⟩ := ih (n / 10) (by omega)
      exact ⟨d, l ++ [dch (n % 10)], by rw [decN_ge n (by omega), h1]; rfl, h2, h3⟩
theorem beg_cons (d : UInt8) (l : List UInt8) (c : UInt8) : beg ⟨(d :: l).toArray⟩ ⟨#[c]⟩ = (d == c) := by
  unfold beg
  rw [decide_eq_true (show (⟨#[c]⟩ : ByteArray).size ≤ (⟨(d :: l).toArray⟩ : ByteArray).size from by show 1 ≤ (d :: l).toArray.size; simp), Bool.true_and, ByteArray.toList_eq, ByteArray.toList_eq, ByteArray.data_extract]
  show ((((d :: l).toArray.extract 0 1).toList) == [c]) = (d == c)
  simp

theorem numF_dec (t : ByteArray) (neg : Bool) (s : Nat) (hz : numF t neg s = some 0) (hs : neg = false ∨ 1 ≤ s) (n : Nat) :
    n ≤ 10995116277760 → (∀ i (h : i < (decN n).length), bt t (s + i) = ((decN n)[i].toNat : Int)) → numF t neg (s + (decN n).length) = some (n : Int) := by
  induction n using Nat.strongRecOn with
  | ind n ih =>
    intro hn hb
    have h0 : ∀ i, (s + i == 0 && neg) = false := by
      intro i
      rcases hs with rfl | hs
      · simp
      · simp; omega
    by_cases h : n < 10
    · have e := decN_lt n h
      have b0 := hb 0 (by rw [e]; simp)
      have b1 : bt t s = 48 + n := by
        have : bt t (s + 0) = ((dch n).toNat : Int) := by rw [b0]; simp [e]
        rw [Nat.add_zero] at this
        rw [this, dch_nat n h]; omega
      rw [e]
      show numF t neg (s + 1) = _
      rw [numF_step t neg s 0 hz (h0 0) (by omega), b1]
      congr 1; omega
    · have e := decN_ge n (by omega)
      have hlen : (decN n).length = (decN (n / 10)).length + 1 := by rw [e]; simp
      have h1 := ih (n / 10) (by omega) (by omega) (fun i hi => by
        have := hb i (by omega)
        rw [this]
        simp only [e]
        rw [List.getElem_append_left hi])
      have b1 : bt t (s + (decN (n / 10)).length) = 48 + (n % 10 : Nat) := by
        have := hb (decN (n / 10)).length (by omega)
        rw [this]
        simp only [e]
        rw [List.getElem_append_right (Nat.le_refl _)]
        simp only [Nat.sub_self, List.getElem_cons_zero]
        rw [dch_nat (n % 10) (by omega)]
        omega
      rw [hlen, ← Nat.add_assoc, numF_step t neg _ _ h1 (h0 _) (by omega), b1]
      congr 1; omega

theorem numV_dec (n : Int) (h0 : -10995116277760 ≤ n) (h1 : n ≤ 10995116277760) : numV (decB n) = (n, true) := by
  unfold decB decL
  by_cases hn : n < 0
  · rw [if_pos hn]
    obtain ⟨m, rfl⟩ : ∃ m : Nat, n = -(m : Int) := ⟨(-n).toNat, by omega⟩
    rw [show (-(-(m : Int))).toNat = m from by omega]
    have hbeg : beg ⟨(45 :: decN m).toArray⟩ ⟨#[45]⟩ = true := by rw [beg_cons]; rfl
    have hF := numF_dec ⟨(45 :: decN m).toArray⟩ true (0 + 1) (numF_skip _) (.inr (by omega)) m (by omega) (fun i hi => by
      rw [bt_lit _ _ (by simp; omega)]
      simp only [Nat.zero_add, Nat.add_comm 1 i, List.getElem_cons_succ])
    unfold numV
    rw [hbeg, show (⟨(45 :: decN m).toArray⟩ : ByteArray).size = 0 + 1 + (decN m).length from by show (45 :: decN m).toArray.size = _; simp; omega, hF]
    have : decB (-(m : Int)) = ⟨(45 :: decN m).toArray⟩ := by
      unfold decB decL
      rw [if_pos hn, show (-(-(m : Int))).toNat = m from by omega]
    simp [this]
  · rw [if_neg hn]
    obtain ⟨m, rfl⟩ : ∃ m : Nat, n = (m : Int) := ⟨n.toNat, by omega⟩
    rw [show ((m : Int)).toNat = m from by omega]
    obtain ⟨d, l, hd, d0, d1⟩ := decN_head m
    have hbeg : beg ⟨(decN m).toArray⟩ ⟨#[45]⟩ = false := by
      rw [hd, beg_cons]
      cases hq : (d == 45)
      · rfl
      · have : d = 45 := by simpa using hq
        subst this
        exact absurd d0 (by decide)
    have hF := numF_dec ⟨(decN m).toArray⟩ false 0 rfl (.inl rfl) m (by omega) (fun i hi => by
      rw [bt_lit _ _ (by omega)]
      simp only [Nat.zero_add])
    rw [Nat.zero_add] at hF
    unfold numV
    rw [hbeg, show (⟨(decN m).toArray⟩ : ByteArray).size = (decN m).length from by show (decN m).toArray.size = _; simp, hF]
    have : decB (m : Int) = ⟨(decN m).toArray⟩ := by
      unfold decB decL
      rw [if_neg hn, show ((m : Int)).toNat = m from by omega]
    simp [this]
end Go.Proofs.YtkicaihfknfgkaaDoor
