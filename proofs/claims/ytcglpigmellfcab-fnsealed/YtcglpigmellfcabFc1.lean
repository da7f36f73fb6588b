import Derived.Test.YtcglpigmellfcabCd1
import Derived.Laws.BitsAllLaws
namespace Go.Proofs.Ytcglpigmellfcab
open Go.ChangeShapes Go.WideShapes Go.ChangeAt Go.RowKit

theorem cx_nat (b : UInt8) (Y : Int) (p : Nat) : (cx b Y p).toNat = b.toNat ^^^ (Y / 2 ^ (8 * p) % 256).toNat := by
  have hb := b.toNat_lt
  have h0 : 0 ≤ Y / 2 ^ (8 * p) % 256 := by omega
  have h1 : Y / 2 ^ (8 * p) % 256 < 256 := by omega
  unfold cx
  generalize Y / 2 ^ (8 * p) % 256 = t at *
  obtain ⟨T, rfl⟩ := Int.eq_ofNat_of_zero_le h0
  have h2 : bits .xor .u8 (b.toNat : Int) (T : Int) = ((b.toNat ^^^ T : Nat) : Int) := u8_xor_nat b.toNat T (by omega) (by omega)
  have h3 : b.toNat ^^^ T < 2 ^ 8 := Nat.xor_lt_two_pow (by omega) (by omega)
  rw [h2, Int.toNat_natCast, Int.toNat_natCast, UInt8.toNat_ofNat']
  omega
theorem cx_cx (b : UInt8) (Y : Int) (p : Nat) : cx (cx b Y p) Y p = b := by
  apply UInt8.toNat_inj.1
  rw [cx_nat, cx_nat, Nat.xor_assoc, Nat.xor_self, Nat.xor_zero]
theorem crK_at (x : Int) (d : List UInt8) : ∀ (k j : Nat), j < d.length → (crK x d k).getD j 0 = if j < k then cx (d.getD j 0) (stK x (j + 1)) (j % 3) else d.getD j 0
  | 0, j, _ => by rw [crK, if_neg (Nat.not_lt_zero _)]
  | k + 1, j, hj => by
    have ih := crK_at x d k j hj
    have hl := crK_len x d k
    rw [crK]
    by_cases e : j = k
    · subst e
      rw [if_neg (Nat.lt_irrefl _)] at ih
      rw [if_pos (by omega), List.getD_eq_getElem?_getD, List.getElem?_set_self (by omega), Option.getD_some, ih]
    · rw [List.getD_eq_getElem?_getD, List.getElem?_set_ne (by omega), ← List.getD_eq_getElem?_getD, ih]
      by_cases h2 : j < k
      · rw [if_pos h2, if_pos (by omega)]
      · rw [if_neg h2, if_neg (by omega)]
/-- All bytes of a list are crypted. -/
theorem crK_all (x : Int) (d : List UInt8) (j : Nat) (h : j < d.length) : (crK x d d.length)[j]'(by rw [crK_len]; exact h) = cx d[j] (stK x (j + 1)) (j % 3) := by
  have h1 := crK_at x d d.length j h
  rw [if_pos h, List.getD_eq_getElem?_getD, List.getD_eq_getElem?_getD, List.getElem?_eq_getElem (by rw [crK_len]; exact h), List.getElem?_eq_getElem h] at h1
  simpa using h1
theorem crK_twice (x : Int) (d : List UInt8) : crK x (crK x d d.length) d.length = d := by
  have hl := crK_len x d d.length
  apply List.ext_getElem
  · rw [crK_len, crK_len]
  · intro j h1 h2
    have h3 := crK_all x (crK x d d.length) j (by rw [hl]; exact h2)
    have h4 := crK_all x d j h2
    have e : crK x (crK x d d.length) (crK x d d.length).length = crK x (crK x d d.length) d.length := by rw [hl]
    have h5 : (crK x (crK x d d.length) d.length)[j] = (crK x (crK x d d.length) (crK x d d.length).length)[j]'(by rw [crK_len, hl]; exact h2) := by
      congr 1
      exact e.symm
    rw [h5, h3, h4, cx_cx]
theorem crV_list (s : ByteArray) (tw : Int) (d : ByteArray) : (crV s tw d).data.toList = crK (hdS s tw) d.data.toList d.data.toList.length := by
  show (crK (hdS s tw) d.data.toList d.size) = _
  rw [show d.data.toList.length = d.size by simp]
theorem ba_list {a b : ByteArray} (h : a.data.toList = b.data.toList) : a = b := by
  apply ByteArray.ext
  exact Array.toList_inj.1 h
theorem crV_twice (s : ByteArray) (tw : Int) (d : ByteArray) : crV s tw (crV s tw d) = d := by
  apply ba_list
  rw [crV_list, crV_list, crK_len]
  exact crK_twice _ _
theorem crV_cut (s : ByteArray) (tw : Int) (d : ByteArray) (n : Nat) (hn : n ≤ d.size) : crV s tw (d.extract 0 n) = (crV s tw d).extract 0 n := by
  apply ba_list
  have hl : d.data.toList.length = d.size := by simp
  have e1 : (d.extract 0 n).data.toList = d.data.toList.take n := by simp
  have e2 : ((crV s tw d).extract 0 n).data.toList = (crV s tw d).data.toList.take n := by simp
  rw [crV_list, e1, e2, crV_list]
  generalize d.data.toList = l at *
  generalize hdS s tw = x at *
  apply List.ext_getElem
  · rw [crK_len, List.length_take, List.length_take, crK_len]
  · intro j h1 h2
    have hj : j < l.length := by
      rw [crK_len, List.length_take] at h1
      omega
    rw [crK_all x (l.take n) j (by rw [List.length_take]; rw [crK_len, List.length_take] at h1; omega), List.getElem_take, List.getElem_take, crK_all x l j hj]
theorem cdT_piece (m d : ByteArray) : ∀ (T k : Nat), k < T → T * 16 ≤ d.size → (cdT m d T).extract (k * 16) ((k + 1) * 16) = clV m d k
  | 0, k, h, _ => absurd h (Nat.not_lt_zero _)
  | T + 1, k, h, hd => by
    have hs := cdT_size m d T (by omega)
    have hc := clV_size m d T (by omega)
    rw [cdT_succ]
    by_cases e : k = T
    · subst e
      exact ByteArray.extract_append_eq_right (by omega) (by omega)
    · rw [ByteArray.extract_append, cdT_piece m d T k (by omega) (by omega)]
      have : (clV m d T).extract (k * 16 - (cdT m d T).size) ((k + 1) * 16 - (cdT m d T).size) = ByteArray.empty := by
        rw [ByteArray.extract_eq_empty_iff]
        omega
      rw [this, ByteArray.append_empty]
theorem cdT_back (m d : ByteArray) (T : Nat) (hd : d.size = T * 16) : ∀ k, k ≤ T → cdT m (cdT m d T) k = d.extract 0 (k * 16)
  | 0, _ => by
    rw [Nat.zero_mul]
    show (⟨(catB []).toArray⟩ : ByteArray) = _
    simp [catB]
    rfl
  | k + 1, h => by
    rw [cdT_succ, cdT_back m d T hd k (by omega)]
    have h1 : clV m (cdT m d T) k = d.extract (k * 16) ((k + 1) * 16) := by
      rw [show clV m (cdT m d T) k = crV m k ((cdT m d T).extract (k * 16) ((k + 1) * 16)) from rfl, cdT_piece m d T k (by omega) (by omega)]
      exact crV_twice m k _
    rw [h1, ← ByteArray.extract_eq_extract_append_extract (k * 16) (by omega) (by omega)]
theorem cdV_twice (m d : ByteArray) (h : cdB m d = true) : cdV m (cdV m d) = d := by
  obtain ⟨h1, h2, h3⟩ := cdB_b h
  have e1 : cdV m d = cdT m d (d.size / 16) := by simp [cdV, h]
  have hs := cdT_size m d (d.size / 16) (by omega)
  have hc2 : cdB m (cdT m d (d.size / 16)) = true := by
    simp only [cdB, h1, Bool.not_false, Bool.true_and, Bool.and_eq_true, decide_eq_true_eq]
    omega
  have e2 : cdV m (cdT m d (d.size / 16)) = cdT m (cdT m d (d.size / 16)) ((cdT m d (d.size / 16)).size / 16) := by simp [cdV, hc2]
  rw [e1, e2, hs, show 16 * (d.size / 16) / 16 = d.size / 16 by omega, cdT_back m d (d.size / 16) (by omega) _ (Nat.le_refl _)]
  rw [show d.size / 16 * 16 = d.size by omega]
  exact ByteArray.extract_zero_size
theorem cryV_in {s : ByteArray} {tw : Int} {d : ByteArray} (h1 : s.size ≤ 4096) (h2 : d.size ≤ 65536) : cryV s tw d = crV s tw d := by
  unfold cryV
  rw [if_neg]
  simp [ovB]
  omega
end Go.Proofs.Ytcglpigmellfcab
