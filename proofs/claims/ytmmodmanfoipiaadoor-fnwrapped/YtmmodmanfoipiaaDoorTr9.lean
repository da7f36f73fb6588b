import Derived.Test.YtmmodmanfoipiaaDoorTrZ
namespace Go.Proofs.YtmmodmanfoipiaaDoor
open Go.ChangeShapes Go.WideShapes Go.ChangeAt Go.RowKit

theorem sw_any (s : ByteArray) (w : World) : Calls Tryd.prog 9 #[.string s] w fun e w' => e = .returned (.agg (uwZ s)) ∧ Below w.heap.size w w' := by
  by_cases hs : 2000 < s.size
  · exact sw_big w hs
  have hs1 : s.size ≤ 2000 := by omega
  cases hm : ((cX s (0, false) 2).toList == [78, 86]) with
  | false => exact sw_mark w hs1 hm
  | true =>
    cases h1 : (sC s).2 with
    | true => exact sw_a w hs1 hm h1
    | false =>
      by_cases h2 : 1500 < nV s 6
      · exact sw_b w hs1 hm h1 h2
      by_cases h3 : (sC s).1 < s.size
      · exact sw_c w hs1 hm h1 h2 h3
      by_cases h4 : sW s = mixv (s.extract 0 (sB s).1) 51
      · by_cases h5 : frV (swF s) = 0
        · exact sw_f w hs1 hm h1 h2 h3 h4 h5
        · exact sw_e w hs1 hm h1 h2 h3 h4 h5
      · exact sw_d w hs1 hm h1 h2 h3 h4
theorem cT_sh {s : ByteArray} {st : Nat × Bool} (h : st.2 = true) (n : Nat) : (cT s st n).2 = true := by
  unfold cT
  rw [if_pos (Or.inl h)]
theorem cT_yes {s : ByteArray} {a n : Nat} (h : a + n ≤ s.size) : cT s (a, false) n = (a + n, false) := if_neg (by simp; omega)
theorem cT_no {s : ByteArray} {a n : Nat} (h : s.size < a + n) : (cT s (a, false) n).2 = true := by
  unfold cT
  rw [if_pos (Or.inr h)]
theorem cX_yes {s : ByteArray} {a n : Nat} (h : a + n ≤ s.size) : cX s (a, false) n = s.extract a (a + n) := if_neg (by simp; omega)
theorem hdA_step (k : Nat) (hk : k < 7) : hdA k + hdZ k = hdA (k + 1) ∧ hdA (k + 1) ≤ 29 := by
  have : k = 0 ∨ k = 1 ∨ k = 2 ∨ k = 3 ∨ k = 4 ∨ k = 5 ∨ k = 6 := by omega
  rcases this with rfl | rfl | rfl | rfl | rfl | rfl | rfl <;> decide
theorem sA_or (s : ByteArray) (h2 : 2 ≤ s.size) : ∀ k, k ≤ 7 → (sA s k).2 = true ∨ (sA s k = (hdA k, false) ∧ hdA k ≤ s.size)
  | 0, _ => Or.inr ⟨cT_yes (a := 0) (n := 2) (by omega), h2⟩
  | k + 1, hk => by
    obtain ⟨e, _⟩ := hdA_step k (by omega)
    rcases sA_or s h2 k (by omega) with h | ⟨h, h9⟩
    · exact Or.inl (cT_sh h _)
    · show (cT s (sA s k) (hdZ k)).2 = true ∨ (cT s (sA s k) (hdZ k) = (hdA (k + 1), false) ∧ hdA (k + 1) ≤ s.size)
      rw [h]
      by_cases hf : hdA k + hdZ k ≤ s.size
      · right
        rw [cT_yes hf, e]
        exact ⟨rfl, by omega⟩
      · exact Or.inl (cT_no (by omega))
theorem sA_all (s : ByteArray) (h29 : 29 ≤ s.size) : ∀ k, k ≤ 7 → sA s k = (hdA k, false)
  | 0, _ => cT_yes (a := 0) (n := 2) (by omega)
  | k + 1, hk => by
    obtain ⟨e, h9⟩ := hdA_step k (by omega)
    show cT s (sA s k) (hdZ k) = _
    rw [sA_all s h29 k (by omega), cT_yes (by omega), e]
theorem nV_all (s : ByteArray) (h29 : 29 ≤ s.size) (k : Nat) (hk : k < 7) : nV s k = hdV s k := by
  obtain ⟨e, h9⟩ := hdA_step k hk
  have h1 : sX s k = s.extract (hdA k) (hdA k + hdZ k) := by
    unfold sX
    rw [sA_all s h29 k (by omega), cX_yes (by omega)]
  unfold nV hdV
  rw [h1, show (s.extract (hdA k) (hdA k + hdZ k)).size = hdZ k by rw [ByteArray.size_extract]; omega]
theorem sC_sh {s : ByteArray} (h : (sB s).2 = true) : (sC s).2 = true := by
  unfold sC cW
  rw [if_pos (Or.inl h)]
theorem uwA_3 {s : ByteArray} (h0 : ¬ 2000 < s.size) (h : rwE s = 3) : uwA s = frX 3 := by
  unfold uwA
  rw [if_neg h0, h, if_neg (by decide)]
theorem uwZ_3 {s : ByteArray} (h0 : ¬ 2000 < s.size) (hm : ((cX s (0, false) 2).toList == [78, 86]) = true) (h : (sC s).2 = true) : uwZ s = frX 3 := by
  unfold uwZ
  rw [if_neg h0, if_neg (by rw [hm]; simp), if_pos h]
theorem uwZ_eq (s : ByteArray) : uwZ s = uwA s := by
  by_cases h0 : 2000 < s.size
  · simp [uwZ, uwA, h0]
  by_cases h2 : 2 ≤ s.size
  rotate_left
  · have e1 : cX s (0, false) 2 = ⟨#[]⟩ := if_pos (Or.inr (by show s.size < 0 + 2; omega))
    have e2 : nvB s = false := by unfold nvB; rw [decide_eq_false h2]; rfl
    rw [uwA_3 h0 (by unfold rwE; rw [if_pos e2])]
    unfold uwZ
    rw [if_neg h0, if_pos (by rw [e1]; first | decide +kernel | simp [ByteArray.toList, ByteArray.toList.loop] | (unfold ByteArray.toList; unfold ByteArray.toList.loop; rfl))]
  have e1 : cX s (0, false) 2 = s.extract 0 2 := cX_yes (a := 0) (n := 2) (by omega)
  have hnv : nvB s = ((s.extract 0 2).toList == [78, 86]) := by unfold nvB; rw [decide_eq_true h2]; rfl
  rw [← e1] at hnv
  cases hb : ((cX s (0, false) 2).toList == [78, 86]) with
  | false =>
    rw [uwA_3 h0 (by unfold rwE; rw [if_pos (hnv.trans hb)])]
    unfold uwZ
    rw [if_neg h0, if_pos hb]
  | true =>
    have hn1 : ¬ nvB s = false := by rw [hnv, hb]; simp
    by_cases h29 : 29 ≤ s.size
    rotate_left
    · have hw : whOk s = false := by unfold whOk; rw [decide_eq_false h29]; rfl
      rw [uwA_3 h0 (by unfold rwE; rw [if_neg hn1, if_pos hw])]
      refine uwZ_3 h0 hb (sC_sh (cT_sh ?_ _))
      rcases sA_or s h2 7 (by omega) with h | ⟨_, h9⟩
      · exact h
      · exact absurd h9 h29
    have hA7 : sA s 7 = (29, false) := sA_all s h29 7 (by omega)
    have hN6 := nV_all s h29 6 (by omega)
    have hsN : sN s = uwN s := by unfold sN uwN; rw [hN6]
    by_cases h15 : hdV s 6 ≤ 1500
    rotate_left
    · have hw : whOk s = false := by unfold whOk; rw [decide_eq_false h15, Bool.and_false]
      rw [uwA_3 h0 (by unfold rwE; rw [if_neg hn1, if_pos hw])]
      unfold uwZ
      rw [if_neg h0, if_neg (by rw [hb]; simp)]
      split
      · rfl
      · rw [if_pos (by rw [hN6]; omega)]
    have hw : ¬ whOk s = false := by unfold whOk; rw [decide_eq_true h29, decide_eq_true h15]; simp
    by_cases hf : 29 + uwN s ≤ s.size
    rotate_left
    · rw [uwA_3 h0 (by unfold rwE; rw [if_neg hn1, if_neg hw, if_pos (by omega)])]
      refine uwZ_3 h0 hb (sC_sh ?_)
      unfold sB
      rw [hA7, hsN]
      exact cT_no (by omega)
    have hB : sB s = (29 + uwN s, false) := by
      unfold sB
      rw [hA7, hsN]
      exact cT_yes hf
    have hT : sT s = s.extract 29 (29 + uwN s) := by
      unfold sT
      rw [hA7, hsN]
      exact cX_yes hf
    have hH : swH s = uwH s := by
      unfold swH uwH
      rw [nV_all s h29 0 (by omega), nV_all s h29 1 (by omega), nV_all s h29 2 (by omega), nV_all s h29 3 (by omega), nV_all s h29 4 (by omega), nV_all s h29 5 (by omega), hN6, hT]
    have hF : swF s = uwF s := by
      unfold swF uwF
      rw [nV_all s h29 3 (by omega), nV_all s h29 4 (by omega), nV_all s h29 5 (by omega), hT]
    by_cases h4 : s.size < 29 + uwN s + 4
    · rw [uwA_3 h0 (by unfold rwE endC; rw [if_neg hn1, if_neg hw, if_neg (by omega), if_pos (show s.size ≠ 29 + uwN s + 4 by omega)]; simp)]
      refine uwZ_3 h0 hb ?_
      unfold sC cW
      rw [hB, if_pos (Or.inr h4)]
    have hC : sC s = (29 + uwN s + 4, false) := by
      unfold sC cW
      rw [hB]
      exact if_neg (by simp; omega)
    have hW : sW s = wv s (29 + uwN s) := by
      unfold sW cV
      rw [hB]
      exact if_neg (by simp; omega)
    have hZ : uwZ s = if 29 + uwN s + 4 < s.size then frX 3 else if wv s (29 + uwN s) ≠ mixv (s.extract 0 (29 + uwN s)) 51 then frX 10 else if frV (uwF s) ≠ 0 then frX 1 else frD (uwH s) := by
      unfold uwZ
      rw [if_neg h0, if_neg (by rw [hb]; simp), if_neg (by rw [hC]; simp), if_neg (by rw [hN6]; omega), hC, hB, hW, hF, hH]
    rw [hZ]
    by_cases h5 : 29 + uwN s + 4 < s.size
    · rw [if_pos h5, uwA_3 h0 (by unfold rwE endC; rw [if_neg hn1, if_neg hw, if_neg (by omega), if_pos (show s.size ≠ 29 + uwN s + 4 by omega)]; simp)]
    rw [if_neg h5]
    have hz : ¬ s.size ≠ 29 + uwN s + 4 := by omega
    unfold uwA rwE endC
    rw [if_neg h0, if_neg hn1, if_neg hw, if_neg (by omega : ¬ s.size < 29 + uwN s), if_neg hz]
    by_cases h6 : wv s (29 + uwN s) = mixv (s.extract 0 (29 + uwN s)) 51
    · have h7 : ¬ wv s (29 + uwN s) ≠ mixv (s.extract 0 (29 + uwN s)) 51 := by simpa using h6
      rw [if_neg h7, if_neg h7]
      unfold frV
      cases frB (uwF s) <;> simp
    · have h7 : wv s (29 + uwN s) ≠ mixv (s.extract 0 (29 + uwN s)) 51 := h6
      rw [if_pos h7, if_pos h7]
      simp
end Go.Proofs.YtmmodmanfoipiaaDoor
