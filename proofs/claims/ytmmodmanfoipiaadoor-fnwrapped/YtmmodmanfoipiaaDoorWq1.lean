import Derived.Test.YtmmodmanfoipiaaDoorMx1
import Derived.Test.YtmmodmanfoipiaaDoorTr9
import Derived.Test.YtmmodmanfoipiaaDoorWr4
namespace Go.Proofs.YtmmodmanfoipiaaDoor
open Go.ChangeShapes Go.WideShapes Go.ChangeAt Go.RowKit

theorem btN (xs : List Int) (i : Nat) (hi : i < xs.length) (h : ∀ x ∈ xs, 0 ≤ x ∧ x ≤ 255) : bt (strOfNums xs) i = xs[i] := by
  have hz : i < (strOfNums xs).size := by rw [strOfNums_size]; exact hi
  rw [← bt_eq _ i hz]
  have hb := h xs[i] (List.getElem_mem hi)
  have e : (strOfNums xs)[i] = UInt8.ofNat xs[i].toNat := by
    have h9 : i < (xs.map fun n => UInt8.ofNat n.toNat).length := by simpa using hi
    have e9 : (xs.map fun n => UInt8.ofNat n.toNat)[i]'h9 = UInt8.ofNat xs[i].toNat := List.getElem_map _
    exact e9
  rw [e, UInt8.toNat_ofNat']
  omega
theorem bt_lb (n : Int) (k i : Nat) (hk : k ≤ 6) (hi : i < k) : bt (lb n k) i = (lbI n)[i]'(by rw [lbI_len]; omega) := by
  unfold lb
  rw [btN _ i (by rw [List.length_take, lbI_len]; omega) (fun x hx => lbI_b n x (List.mem_of_mem_take hx))]
  simp
theorem bt_midW (A P C : ByteArray) (k i : Nat) (hA : A.size = k) (hi : i < P.size) : bt (A ++ (P ++ C)) (k + i) = bt P i := by
  subst hA
  rw [bt_app_r, bt_app_l hi]
theorem bt_exW (s : ByteArray) (a b i : Nat) (hb : b ≤ s.size) (h : a + i < b) : bt (s.extract a b) i = bt s (a + i) := by
  have hz : (s.extract a b).size = b - a := by rw [ByteArray.size_extract]; omega
  rw [← bt_eq _ i (by omega), ← bt_eq s (a + i) (by omega)]
  congr 2
  rw [ByteArray.getElem_extract]
theorem ba_exW {s t : ByteArray} (hs : s.size = t.size) (h : ∀ i, i < s.size → bt s i = bt t i) : s = t := by
  apply ByteArray.ext
  apply Array.ext hs
  intro i h1 h2
  have h3 := h i h1
  rw [← bt_eq s i h1, ← bt_eq t i h2] at h3
  have h4 : s[i].toNat = t[i].toNat := by omega
  exact UInt8.toNat_inj.1 h4
theorem ex_mid (A P C : ByteArray) (k z : Nat) (hA : A.size = k) (hz : P.size = z) : (A ++ (P ++ C)).extract k (k + z) = P := by
  have hS : (A ++ (P ++ C)).size = k + (z + C.size) := by rw [ByteArray.size_append, ByteArray.size_append, hA, hz]
  refine ba_exW (by rw [ByteArray.size_extract, hS, hz]; omega) fun i hi => ?_
  rw [ByteArray.size_extract, hS] at hi
  rw [bt_exW _ _ _ _ (by omega) (by omega), bt_midW A P C k i hA (by omega)]
theorem pn_lb2 (n : Int) (h0 : 0 ≤ n) (h1 : n < 65536) : pn (lb n 2) 2 = n := by
  unfold pn
  rw [bt_lb n 2 0 (by omega) (by omega), bt_lb n 2 1 (by omega) (by omega)]
  show n % 256 + n / 256 % 256 * 256 = n
  omega
theorem pn_lb3 (n : Int) (h0 : 0 ≤ n) (h1 : n < 16777216) : pn (lb n 3) 3 = n := by
  unfold pn
  rw [bt_lb n 3 0 (by omega) (by omega), bt_lb n 3 1 (by omega) (by omega), bt_lb n 3 2 (by omega) (by omega)]
  show n % 256 + n / 256 % 256 * 256 + n / 65536 % 256 * 65536 = n
  omega
theorem pn_lb4 (n : Int) (h0 : 0 ≤ n) (h1 : n < 4294967296) : pn (lb n 4) 4 = n := by
  unfold pn
  rw [bt_lb n 4 0 (by omega) (by omega), bt_lb n 4 1 (by omega) (by omega), bt_lb n 4 2 (by omega) (by omega), bt_lb n 4 3 (by omega) (by omega)]
  show n % 256 + n / 256 % 256 * 256 + n / 65536 % 256 * 65536 + n / 16777216 % 256 * 16777216 = n
  omega
theorem pn_lb6 (n : Int) (h0 : 0 ≤ n) (h1 : n < 281474976710656) : pn (lb n 6) 6 = n := by
  unfold pn
  rw [bt_lb n 6 0 (by omega) (by omega), bt_lb n 6 1 (by omega) (by omega), bt_lb n 6 2 (by omega) (by omega), bt_lb n 6 3 (by omega) (by omega), bt_lb n 6 4 (by omega) (by omega), bt_lb n 6 5 (by omega) (by omega)]
  show n % 256 + n / 256 % 256 * 256 + n / 65536 % 256 * 65536 + n / 16777216 % 256 * 16777216 + n / 4294967296 % 256 * 4294967296 + n / 1099511627776 % 256 * 1099511627776 = n
  omega
/-- A wrapped text. -/
def wS (f : FR) (k fr tt : Int) : ByteArray := wfT f k fr tt ++ pw (mixv (wfT f k fr tt) 51)
theorem wfT_size (f : FR) (k fr tt : Int) : (wfT f k fr tt).size = 29 + f.text.size := by
  unfold wfT
  rw [ByteArray.size_append, whT_size]
theorem wS_size (f : FR) (k fr tt : Int) : (wS f k fr tt).size = 29 + f.text.size + 4 := by
  unfold wS
  rw [ByteArray.size_append, wfT_size, pw_sizeW]
theorem wS_parts (f : FR) (k fr tt : Int) : wS f k fr tt = NV ++ (lb k 3 ++ (lb fr 4 ++ (lb tt 4 ++ (lb f.src 6 ++ (lb f.dst 6 ++ (lb f.net 2 ++ (lb (f.text.size : Int) 2 ++ (f.text ++ pw (mixv (wfT f k fr tt) 51))))))))) := by
  unfold wS
  generalize mixv (wfT f k fr tt) 51 = m
  unfold wfT
  rw [whT_eq]
  simp only [ByteArray.append_assoc, wfH, lb4]
theorem wfB_iff {f : FR} {k fr tt : Int} (h : wfB f k fr tt = true) : frB f = true ∧ 0 ≤ k ∧ k < 16777216 ∧ 0 ≤ fr ∧ fr < 4294967296 ∧ 0 ≤ tt ∧ tt < 4294967296 ∧ 0 ≤ f.src ∧ f.src < 281474976710656 ∧ 0 ≤ f.dst ∧ f.dst < 281474976710656 ∧ 0 ≤ f.net ∧ f.net < 65536 ∧ f.text.size ≤ 1500 := by
  simp [wfB, isW] at h
  obtain ⟨⟨⟨⟨hf, h1⟩, h2⟩, h3⟩, h4⟩ := h
  have hf' := hf
  simp [frB, oaB, ntB] at hf'
  refine ⟨hf, by omega, by omega, by omega, by omega, by omega, by omega, by omega, by omega, by omega, by omega, by omega, by omega, by omega⟩
/-- What is read of a wrapped text. -/
theorem wS_hd (f : FR) (k fr tt : Int) (h : wfB f k fr tt = true) : hdV (wS f k fr tt) 0 = k ∧ hdV (wS f k fr tt) 1 = fr ∧ hdV (wS f k fr tt) 2 = tt ∧ hdV (wS f k fr tt) 3 = f.src ∧ hdV (wS f k fr tt) 4 = f.dst ∧ hdV (wS f k fr tt) 5 = f.net ∧ hdV (wS f k fr tt) 6 = (f.text.size : Int) ∧ (wS f k fr tt).extract 29 (29 + f.text.size) = f.text ∧ (wS f k fr tt).extract 0 2 = NV := by
  obtain ⟨hf, a0, a1, b0, b1, c0, c1, d0, d1, e0, e1, g0, g1, ht⟩ := wfB_iff h
  rw [wS_parts]
  generalize pw (mixv (wfT f k fr tt) 51) = M
  have z3 : (lb k 3).size = 3 := lb_size k 3 (by omega)
  have z4 : (lb fr 4).size = 4 := lb_size fr 4 (by omega)
  have z5 : (lb tt 4).size = 4 := lb_size tt 4 (by omega)
  have z6 : (lb f.src 6).size = 6 := lb_size _ 6 (by omega)
  have z7 : (lb f.dst 6).size = 6 := lb_size _ 6 (by omega)
  have z8 : (lb f.net 2).size = 2 := lb_size _ 2 (by omega)
  have z9 : (lb (f.text.size : Int) 2).size = 2 := lb_size _ 2 (by omega)
  have zn : NV.size = 2 := NV_size
  refine ⟨?_, ?_, ?_, ?_, ?_, ?_, ?_, ?_, ?_⟩
  · show pn (ByteArray.extract _ 2 (2 + 3)) 3 = k
    rw [ex_mid NV (lb k 3) _ 2 3 zn z3, pn_lb3 k a0 a1]
  · show pn (ByteArray.extract _ 5 (5 + 4)) 4 = fr
    rw [show NV ++ (lb k 3 ++ (lb fr 4 ++ (lb tt 4 ++ (lb f.src 6 ++ (lb f.dst 6 ++ (lb f.net 2 ++ (lb (f.text.size : Int) 2 ++ (f.text ++ M)))))))) = (NV ++ lb k 3) ++ (lb fr 4 ++ (lb tt 4 ++ (lb f.src 6 ++ (lb f.dst 6 ++ (lb f.net 2 ++ (lb (f.text.size : Int) 2 ++ (f.text ++ M))))))) by simp only [ByteArray.append_assoc]]
    rw [ex_mid _ (lb fr 4) _ 5 4 (by simp only [ByteArray.size_append]; omega) z4, pn_lb4 fr b0 b1]
  · show pn (ByteArray.extract _ 9 (9 + 4)) 4 = tt
    rw [show NV ++ (lb k 3 ++ (lb fr 4 ++ (lb tt 4 ++ (lb f.src 6 ++ (lb f.dst 6 ++ (lb f.net 2 ++ (lb (f.text.size : Int) 2 ++ (f.text ++ M)))))))) = (NV ++ lb k 3 ++ lb fr 4) ++ (lb tt 4 ++ (lb f.src 6 ++ (lb f.dst 6 ++ (lb f.net 2 ++ (lb (f.text.size : Int) 2 ++ (f.text ++ M)))))) by simp only [ByteArray.append_assoc]]
    rw [ex_mid _ (lb tt 4) _ 9 4 (by simp only [ByteArray.size_append]; omega) z5, pn_lb4 tt c0 c1]
  · show pn (ByteArray.extract _ 13 (13 + 6)) 6 = f.src
    rw [show NV ++ (lb k 3 ++ (lb fr 4 ++ (lb tt 4 ++ (lb f.src 6 ++ (lb f.dst 6 ++ (lb f.net 2 ++ (lb (f.text.size : Int) 2 ++ (f.text ++ M)))))))) = (NV ++ lb k 3 ++ lb fr 4 ++ lb tt 4) ++ (lb f.src 6 ++ (lb f.dst 6 ++ (lb f.net 2 ++ (lb (f.text.size : Int) 2 ++ (f.text ++ M))))) by simp only [ByteArray.append_assoc]]
    rw [ex_mid _ (lb f.src 6) _ 13 6 (by simp only [ByteArray.size_append]; omega) z6, pn_lb6 _ d0 d1]
  · show pn (ByteArray.extract _ 19 (19 + 6)) 6 = f.dst
    rw [show NV ++ (lb k 3 ++ (lb fr 4 ++ (lb tt 4 ++ (lb f.src 6 ++ (lb f.dst 6 ++ (lb f.net 2 ++ (lb (f.text.size : Int) 2 ++ (f.text ++ M)))))))) = (NV ++ lb k 3 ++ lb fr 4 ++ lb tt 4 ++ lb f.src 6) ++ (lb f.dst 6 ++ (lb f.net 2 ++ (lb (f.text.size : Int) 2 ++ (f.text ++ M)))) by simp only [ByteArray.append_assoc]]
    rw [ex_mid _ (lb f.dst 6) _ 19 6 (by simp only [ByteArray.size_append]; omega) z7, pn_lb6 _ e0 e1]
  · show pn (ByteArray.extract _ 25 (25 + 2)) 2 = f.net
    rw [show NV ++ (lb k 3 ++ (lb fr 4 ++ (lb tt 4 ++ (lb f.src 6 ++ (lb f.dst 6 ++ (lb f.net 2 ++ (lb (f.text.size : Int) 2 ++ (f.text ++ M)))))))) = (NV ++ lb k 3 ++ lb fr 4 ++ lb tt 4 ++ lb f.src 6 ++ lb f.dst 6) ++ (lb f.net 2 ++ (lb (f.text.size : Int) 2 ++ (f.text ++ M))) by simp only [ByteArray.append_assoc]]
    rw [ex_mid _ (lb f.net 2) _ 25 2 (by simp only [ByteArray.size_append]; omega) z8, pn_lb2 _ g0 g1]
  · show pn (ByteArray.extract _ 27 (27 + 2)) 2 = (f.text.size : Int)
    rw [show NV ++ (lb k 3 ++ (lb fr 4 ++ (lb tt 4 ++ (lb f.src 6 ++ (lb f.dst 6 ++ (lb f.net 2 ++ (lb (f.text.size : Int) 2 ++ (f.text ++ M)))))))) = (NV ++ lb k 3 ++ lb fr 4 ++ lb tt 4 ++ lb f.src 6 ++ lb f.dst 6 ++ lb f.net 2) ++ (lb (f.text.size : Int) 2 ++ (f.text ++ M)) by simp only [ByteArray.append_assoc]]
    rw [ex_mid _ (lb (f.text.size : Int) 2) _ 27 2 (by simp only [ByteArray.size_append]; omega) z9, pn_lb2 _ (by omega) (by omega)]
  · rw [show NV ++ (lb k 3 ++ (lb fr 4 ++ (lb tt 4 ++ (lb f.src 6 ++ (lb f.dst 6 ++ (lb f.net 2 ++ (lb (f.text.size : Int) 2 ++ (f.text ++ M)))))))) = (NV ++ lb k 3 ++ lb fr 4 ++ lb tt 4 ++ lb f.src 6 ++ lb f.dst 6 ++ lb f.net 2 ++ lb (f.text.size : Int) 2) ++ (f.text ++ M) by simp only [ByteArray.append_assoc]]
    exact ex_mid _ f.text M 29 _ (by simp only [ByteArray.size_append]; omega) rfl
  · have e9 := ex_mid ⟨#[]⟩ NV (lb k 3 ++ (lb fr 4 ++ (lb tt 4 ++ (lb f.src 6 ++ (lb f.dst 6 ++ (lb f.net 2 ++ (lb (f.text.size : Int) 2 ++ (f.text ++ M)))))))) 0 2 rfl zn
    rw [show (⟨#[]⟩ : ByteArray) = ByteArray.empty from rfl, ByteArray.empty_append] at e9
    exact e9
theorem mixv_bW (s : ByteArray) (sd : Int) : 0 ≤ mixv s sd ∧ mixv s sd < 4294967296 := by
  unfold mixv
  split
  · omega
  · unfold mixE
    omega
theorem wv_end (A : ByteArray) (n : Int) (h0 : 0 ≤ n) (h1 : n < 4294967296) : wv (A ++ pw n) A.size = n := by
  have e : ∀ i, i < 4 → bt (A ++ pw n) (A.size + i) = bt (lb n 4) i := fun i hi => by rw [bt_app_r, lb4]
  have e0 := e 0 (by omega)
  rw [Nat.add_zero] at e0
  unfold wv
  rw [e0, e 1 (by omega), e 2 (by omega), e 3 (by omega), bt_lb n 4 0 (by omega) (by omega), bt_lb n 4 1 (by omega) (by omega), bt_lb n 4 2 (by omega) (by omega), bt_lb n 4 3 (by omega) (by omega)]
  show n % 256 + n / 256 % 256 * 256 + n / 65536 % 256 * 65536 + n / 16777216 % 256 * 16777216 = n
  omega
theorem ex_fst (A B : ByteArray) : (A ++ B).extract 0 A.size = A := by
  refine ba_exW (by rw [ByteArray.size_extract, ByteArray.size_append]; omega) fun i hi => ?_
  rw [ByteArray.size_extract, ByteArray.size_append] at hi
  rw [bt_exW _ _ _ _ (by rw [ByteArray.size_append]; omega) (by omega), Nat.zero_add, bt_app_l (by omega)]
theorem NV_list : (NV.toList == [78, 86]) = true := by decide +kernel
/-- What was wrapped comes back. -/
theorem unwrap_wS (f : FR) (k fr tt : Int) (h : wfB f k fr tt = true) : uwA (wS f k fr tt) = frD ⟨k, fr, tt, f.src, f.dst, f.net, f.text, (f.text.size : Int)⟩ := by
  obtain ⟨hf, a0, a1, b0, b1, c0, c1, d0, d1, e0, e1, g0, g1, ht⟩ := wfB_iff h
  obtain ⟨h0, h1, h2, h3, h4, h5, h6, h7, h8⟩ := wS_hd f k fr tt h
  have hz := wS_size f k fr tt
  have hN : uwN (wS f k fr tt) = f.text.size := by unfold uwN; rw [h6]; rfl
  have hF : uwF (wS f k fr tt) = f := by
    unfold uwF
    rw [h3, h4, h5, hN, h7]
  have hH : uwH (wS f k fr tt) = ⟨k, fr, tt, f.src, f.dst, f.net, f.text, (f.text.size : Int)⟩ := by
    unfold uwH
    rw [h0, h1, h2, h3, h4, h5, h6, hN, h7]
  have hE : endC (wS f k fr tt) (29 + f.text.size) 51 = 0 := by
    have q1 : wv (wS f k fr tt) (29 + f.text.size) = mixv (wfT f k fr tt) 51 := by
      rw [← wfT_size f k fr tt]
      exact wv_end _ _ (mixv_bW _ _).1 (mixv_bW _ _).2
    have q2 : (wS f k fr tt).extract 0 (29 + f.text.size) = wfT f k fr tt := by
      rw [← wfT_size f k fr tt]
      exact ex_fst _ _
    unfold endC
    rw [if_neg (by omega), q1, q2, if_neg (by simp)]
  have hR : rwE (wS f k fr tt) = 0 := by
    have n1 : nvB (wS f k fr tt) = true := by
      unfold nvB
      rw [h8, NV_list, decide_eq_true (by omega)]
      rfl
    have n2 : whOk (wS f k fr tt) = true := by
      unfold whOk
      rw [h6, decide_eq_true (by omega), decide_eq_true (by omega)]
      rfl
    unfold rwE
    rw [if_neg (by rw [n1]; simp), if_neg (by rw [n2]; simp), hN, if_neg (by omega), hE, if_neg (by simp), hF, if_neg (by rw [hf]; simp)]
  unfold uwA
  rw [if_neg (by omega), if_pos hR, hH]
/-- With one byte another one it does not come back. -/
theorem unwrap_bad (f : FR) (k fr tt : Int) (h : wfB f k fr tt = true) (b : ByteArray) (j : Nat) (hz : b.size = (wS f k fr tt).size) (hj : j < b.size) (hd : bt (wS f k fr tt) j ≠ bt b j) (ho : ∀ i, i ≠ j → bt (wS f k fr tt) i = bt b i) : ∃ c : Int, c ≠ 0 ∧ uwA b = frX c := by
  obtain ⟨hf, a0, a1, b0, b1, c0, c1, d0, d1, e0, e1, g0, g1, ht⟩ := wfB_iff h
  have hs := wS_size f k fr tt
  have hq : rwE b ≠ 0 := by
    intro hr
    have hE : endC b (29 + uwN b) 51 = 0 := by
      unfold rwE at hr
      split at hr
      · omega
      split at hr
      · omega
      split at hr
      · omega
      split at hr
      · rename_i h9
        exact absurd hr h9
      · rename_i h9
        simpa using h9
    unfold endC at hE
    split at hE
    · omega
    rename_i h7
    split at hE
    · omega
    rename_i h8
    have h8' : wv b (29 + uwN b) = mixv (b.extract 0 (29 + uwN b)) 51 := by simpa using h8
    have hN : uwN b = f.text.size := by omega
    rw [hN] at h8'
    have q1 : wv (wS f k fr tt) (29 + f.text.size) = mixv (wfT f k fr tt) 51 := by
      rw [← wfT_size f k fr tt]
      exact wv_end _ _ (mixv_bW _ _).1 (mixv_bW _ _).2
    have q2 : (wS f k fr tt).extract 0 (29 + f.text.size) = wfT f k fr tt := by
      rw [← wfT_size f k fr tt]
      exact ex_fst _ _
    rw [← q2] at q1
    clear q2
    generalize wS f k fr tt = S at *
    by_cases hk : j < 29 + f.text.size
    · have w1 : wv S (29 + f.text.size) = wv b (29 + f.text.size) := by
        unfold wv
        rw [ho _ (by omega), ho _ (by omega), ho _ (by omega), ho _ (by omega)]
      rw [q1, h8'] at w1
      refine mixv_ne (k := j) 51 ?_ ?_ ?_ ?_ ?_ w1
      · rw [ByteArray.size_extract, ByteArray.size_extract]; omega
      · rw [ByteArray.size_extract]; omega
      · rw [ByteArray.size_extract]; omega
      · rw [bt_exW _ _ _ _ (by omega) (by omega), bt_exW _ _ _ _ (by omega) (by omega), Nat.zero_add]
        exact hd
      · intro i hi
        by_cases h3 : i < 29 + f.text.size
        · rw [bt_exW _ _ _ _ (by omega) (by omega), bt_exW _ _ _ _ (by omega) (by omega), Nat.zero_add]
          exact ho i hi
        · rw [show bt (S.extract 0 (29 + f.text.size)) i = 0 by unfold bt; rw [dif_neg (by rw [ByteArray.size_extract]; omega)], show bt (b.extract 0 (29 + f.text.size)) i = 0 by unfold bt; rw [dif_neg (by rw [ByteArray.size_extract]; omega)]]
    · have w2 : b.extract 0 (29 + f.text.size) = S.extract 0 (29 + f.text.size) := by
        refine ba_exW (by rw [ByteArray.size_extract, ByteArray.size_extract]; omega) fun i hi => ?_
        rw [ByteArray.size_extract] at hi
        rw [bt_exW _ _ _ _ (by omega) (by omega), bt_exW _ _ _ _ (by omega) (by omega), Nat.zero_add]
        exact (ho i (by omega)).symm
      rw [w2, ← q1] at h8'
      unfold wv at h8'
      have y0 := fun i => bt_b S i
      have y1 := fun i => bt_b b i
      have r0 := y0 (29 + f.text.size); have r1 := y0 (29 + f.text.size + 1); have r2 := y0 (29 + f.text.size + 2); have r3 := y0 (29 + f.text.size + 3)
      have s0 := y1 (29 + f.text.size); have s1 := y1 (29 + f.text.size + 1); have s2 := y1 (29 + f.text.size + 2); have s3 := y1 (29 + f.text.size + 3)
      clear y0 y1
      have hc : j = 29 + f.text.size ∨ j = 29 + f.text.size + 1 ∨ j = 29 + f.text.size + 2 ∨ j = 29 + f.text.size + 3 := by omega
      rcases hc with e | e | e | e <;> subst e <;> omega
  refine ⟨rwE b, hq, ?_⟩
  unfold uwA
  rw [if_neg (by omega), if_neg hq]
end Go.Proofs.YtmmodmanfoipiaaDoor
