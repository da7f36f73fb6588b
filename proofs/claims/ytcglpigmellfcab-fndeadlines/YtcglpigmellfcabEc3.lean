import Derived.Test.YtcglpigmellfcabEc2
namespace Go.Proofs.Ytcglpigmellfcab
open Go.ChangeShapes Go.WideShapes Go.ChangeAt Go.RowKit

theorem mem_getD {zs : List TK} {P : TK → Prop} (h : ∀ z ∈ zs, P z) (k : Nat) (hk : k < zs.length) : P (zs.getD k tk0) := by
  have e : zs.getD k tk0 = zs[k] := by simp [List.getD, List.getElem?_eq_getElem hk]
  rw [e]
  exact h _ (List.getElem_mem hk)
theorem pend_zero {d : Int} {X : List TK} (h : ∀ j, j < X.length → 0 ≤ (X.getD j tk0).left) (h2 : ∀ j, j < X.length → 0 < (X.getD j tk0).left → d < (X.getD j tk0).fin) : ∀ z ∈ X, pend d z = 0 := by
  intro z hz
  obtain ⟨j, hj, rfl⟩ := List.getElem_of_mem hz
  have e : X.getD j tk0 = X[j] := by simp [List.getD, List.getElem?_eq_getElem hj]
  have a1 := h j hj
  have a2 := h2 j hj
  rw [e] at a1 a2
  unfold pend
  split
  · apply Classical.byContradiction
    intro hc
    have := a2 (by omega)
    omega
  · rfl
theorem aft_pend {d : Int} {X : List TK} {M : Int} (h : ∀ z ∈ X, pend d z = 0) (hf : 0 ≤ M → d < (X.getD M.toNat tk0).fin) : ∀ z ∈ aft X M, pend d z = 0 := by
  unfold aft
  split
  · rename_i h0
    intro z hz
    rcases List.mem_or_eq_of_mem_set hz with hz | rfl
    · exact h z hz
    · have := hf h0
      unfold pend
      simp only
      rw [if_neg (by omega)]
  · exact h
/-- A quantum. -/
theorem edf_step {K : List TK} {zs : List RK} {t : Int} (hK : K.map rkT = zs) (hz : ∀ z ∈ zs, 1 ≤ z.period ∧ z.period ≤ 40 ∧ 1 ≤ z.budget) (ha : askP 5342931457063200 zs ≤ 5342931457063200) (hj : ∀ z ∈ K, ej t z) (hd : ∀ d : Int, t ≤ d → DD d (d - t).toNat t K ≤ d - t) :
    (∀ z ∈ (stp t K).1, ej (t + 1) z) ∧ ∀ d : Int, t + 1 ≤ d → DD d (d - (t + 1)).toNat (t + 1) (stp t K).1 ≤ d - (t + 1) := by
  have hp0 : ∀ z ∈ K, pend t z = 0 := DD_mem hj (by have := hd t (Int.le_refl _); simpa using this)
  have hX : ∀ z ∈ K.map (bgn t), ej (t + 1) z := fun z hz => by
    obtain ⟨y, hy, rfl⟩ := List.mem_map.1 hz
    exact (ej_bgn (hj y hy) (hp0 y hy)).1
  have hXl : (K.map (bgn t)).length = K.length := by simp
  have hXr : (K.map (bgn t)).map rkT = zs := by
    rw [List.map_map, ← hK]
    exact List.map_congr_left fun z _ => rkT_bgn t z
  have hSr : (stp t K).1.map rkT = zs := by rw [rkT_stp, hK]
  have hb := nx_b (K.map (bgn t)) K.length
  have hlft : ∀ j, j < (K.map (bgn t)).length → 0 ≤ ((K.map (bgn t)).getD j tk0).left := fun j hj => (mem_getD hX j hj).2.2.2.2.2.1
  have hfst := nx_first (K.map (bgn t)) K.length (by simp)
  have hnl := nx_left (K.map (bgn t)) K.length
  have hst : (stp t K).1 = aft (K.map (bgn t)) (nx (K.map (bgn t)) K.length) := rfl
  have hDX : ∀ d : Int, t + 1 ≤ d → DD d (d - (t + 1)).toNat (t + 1) (K.map (bgn t)) ≤ d - t := fun d h1 => by
    have h2 := hd d (by omega)
    have e : (d - t).toNat = (d - (t + 1)).toNat + 1 := by omega
    rw [e] at h2
    rw [DD_bgn K hj hp0]
    exact h2
  rw [hst] at hSr ⊢
  generalize hXe : K.map (bgn t) = X at *
  generalize nx X K.length = M at *
  refine ⟨?_, fun d h1 => ?_⟩
  · unfold aft
    split
    · rename_i h0
      intro z hz
      rcases List.mem_or_eq_of_mem_set hz with hz | rfl
      · exact hX z hz
      · have h3 := hnl h0
        obtain ⟨a1, a2, a3, a4, a5, a6, a7, a8⟩ := mem_getD hX M.toNat (by omega)
        refine ⟨a1, a2, a3, a4, a5, by simp only; omega, a7, ?_⟩
        rcases a8 with h | h
        · omega
        · exact .inr h
    · exact hX
  · by_cases h0 : 0 ≤ M
    · have h3 := hnl h0
      have hMl : M.toNat < X.length := by omega
      by_cases hf : (X.getD M.toNat tk0).fin ≤ d
      · have e : X.getD M.toNat tk0 = X[M.toNat] := by simp [List.getD, List.getElem?_eq_getElem hMl]
        have h4 := hDX d h1
        unfold aft
        rw [if_pos h0, DD_set _ _ _ _ _ hMl]
        rw [e] at hf h3 ⊢
        have e1 : d1 d (d - (t + 1)).toNat (t + 1) { X[M.toNat] with left := X[M.toNat].left - 1 } = d1 d (d - (t + 1)).toNat (t + 1) X[M.toNat] - 1 := by
          unfold d1 pend
          simp only
          rw [if_pos hf, if_pos hf]
          omega
        rw [e1]
        omega
      · have hp : ∀ z ∈ X, pend d z = 0 := pend_zero hlft (fun j hj hl => by
          have := (hfst j (by omega) hl).2
          omega)
        rw [DD_FF _ _ _ _ (aft_pend hp (fun _ => by omega)), hSr]
        exact FF_le _ h1 zs hz ha
    · have hp : ∀ z ∈ X, pend d z = 0 := pend_zero hlft (fun j hj hl => by
        have := (hfst j (by omega) hl).1
        omega)
      rw [DD_FF _ _ _ _ (aft_pend hp (fun h => absurd h h0)), hSr]
      exact FF_le _ h1 zs hz ha
theorem edf {zs : List RK} (hr : ∀ z ∈ zs, rkB z = true) (ha : askP 5342931457063200 zs ≤ 5342931457063200) : ∀ t : Nat, (∀ z ∈ (runK (zs.map tkOf) t).1, ej (t : Int) z) ∧ ∀ d : Int, (t : Int) ≤ d → DD d (d - t).toNat t (runK (zs.map tkOf) t).1 ≤ d - t := by
  have hz : ∀ z ∈ zs, 1 ≤ z.period ∧ z.period ≤ 40 ∧ 1 ≤ z.budget := fun z h => by
    have := rkB_yes (hr z h)
    omega
  intro t
  induction t with
  | zero =>
    refine ⟨fun z h => ?_, fun d h => ?_⟩
    · obtain ⟨y, hy, rfl⟩ := List.mem_map.1 (show z ∈ zs.map tkOf from h)
      have := rkB_yes (hr y hy)
      exact ⟨this.1, this.2.2.1, this.2.2.2.1, this.2.2.2.2.1, this.2.2.2.2.2, Int.le_refl _, rfl, .inl rfl⟩
    · have hp : ∀ z ∈ zs.map tkOf, pend d z = 0 := fun z h => by
        obtain ⟨y, hy, rfl⟩ := List.mem_map.1 h
        unfold pend tkOf
        simp
      show DD d _ _ (zs.map tkOf) ≤ _
      rw [DD_FF _ _ _ _ hp, rkT_of]
      exact FF_le _ h zs hz ha
  | succ t ih =>
    have h := edf_step (K := (runK (zs.map tkOf) t).1) (zs := zs) (t := (t : Int)) (by rw [rkT_run, rkT_of]) hz ha ih.1 ih.2
    simpa [runK] using h
/-- The task that got a quantum. -/
def slK (K0 : List TK) (q : Nat) : Int := (stp (q : Int) (runK K0 q).1).2
theorem slK_at (K0 : List TK) (q : Nat) : ∀ Q, q < Q → (runK K0 Q).2.getD q 0 = slK K0 q
  | 0, h => by omega
  | Q + 1, h => by
    have hl := (runK_len K0 Q).2
    have e : (runK K0 (Q + 1)).2 = (runK K0 Q).2 ++ [(stp (Q : Int) (runK K0 Q).1).2] := rfl
    rw [e]
    by_cases hq : q < Q
    · rw [← slK_at K0 q Q hq]
      simp only [List.getD]
      rw [List.getElem?_append_left (by omega)]
    · have : q = Q := by omega
      subst this
      simp only [List.getD]
      rw [List.getElem?_append_right (by omega), hl]
      simp [slK]
def lfK (K0 : List TK) (i t : Nat) : TK := (runK K0 t).1.getD i tk0
theorem lfK_next (K0 : List TK) (i t : Nat) (hi : i < K0.length) : lfK K0 i (t + 1) = { bgn (t : Int) (lfK K0 i t) with left := (bgn (t : Int) (lfK K0 i t)).left - if slK K0 t = (i : Int) then 1 else 0 } := by
  have hl := (runK_len K0 t).1
  have hb := nx_b ((runK K0 t).1.map (bgn (t : Int))) (runK K0 t).1.length
  unfold lfK slK
  have e : (runK K0 (t + 1)).1 = (stp (t : Int) (runK K0 t).1).1 := rfl
  rw [e]
  have eb := bgn_getD (t : Int) (runK K0 t).1 i (by omega)
  simp only [stp, aft]
  generalize nx ((runK K0 t).1.map (bgn (t : Int))) (runK K0 t).1.length = M at *
  by_cases h0 : 0 ≤ M
  · rw [if_pos h0, getD_set' _ _ _ _ (by simp; omega)]
    by_cases hm : M.toNat = i
    · rw [if_pos hm, if_pos (show M = (i : Int) by omega), hm, eb]
    · rw [if_neg hm, if_neg (show ¬ M = (i : Int) by omega), eb]
      simp
  · rw [if_neg h0, if_neg (show ¬ M = (i : Int) by omega), eb]
    simp
/-- How often a task gets one of so many quanta. -/
def cntK (K0 : List TK) (i a : Nat) : Nat → Int
  | 0 => 0
  | m + 1 => cntK K0 i a m + if slK K0 (a + m) = (i : Int) then 1 else 0
theorem win {K0 : List TK} {i a : Nat} {s p b : Int} (hi : i < K0.length) (hs : ∀ t, (lfK K0 i t).start = s ∧ (lfK K0 i t).period = p ∧ (lfK K0 i t).budget = b) (hp : 1 ≤ p) (hr : rel s p (a : Int)) : ∀ m : Nat, 1 ≤ m → (m : Int) ≤ p → (lfK K0 i (a + m)).left + cntK K0 i a m = b ∧ (lfK K0 i (a + m)).fin = (a : Int) + p
  | 0, h, _ => by omega
  | m + 1, _, h2 => by
    have e := lfK_next K0 i (a + m) hi
    rw [show a + (m + 1) = a + m + 1 by omega, e, cntK]
    obtain ⟨e1, e2, e3⟩ := hs (a + m)
    by_cases hm : m = 0
    · subst hm
      have hb : beg ((a + 0 : Nat) : Int) (lfK K0 i (a + 0)) = true := rel_beg.2 (by rw [e1, e2]; simpa using hr)
      unfold bgn
      rw [hb]
      simp only [if_true, cntK]
      rw [e2, e3]
      refine ⟨by omega, by simp⟩
    · have ih := win hi hs hp hr m (by omega) (by omega)
      have hb : beg ((a + m : Nat) : Int) (lfK K0 i (a + m)) = false := by
        cases hc : beg ((a + m : Nat) : Int) (lfK K0 i (a + m)) with
        | false => rfl
        | true =>
          have h3 := rel_beg.1 hc
          rw [e1, e2] at h3
          have h4 := rel_two hp hr h3 (by omega)
          omega
      have eb : bgn ((a + m : Nat) : Int) (lfK K0 i (a + m)) = lfK K0 i (a + m) := by unfold bgn; rw [hb]; rfl
      rw [eb]
      simp only
      exact ⟨by omega, ih.2⟩
/-- Tasks that are admitted: nothing is missed, and each gets its Budget in each whole Period. -/
theorem edf_all {zs : List RK} (hr : ∀ z ∈ zs, rkB z = true) (ha : askP 5342931457063200 zs ≤ 5342931457063200) : (∀ Q, ∀ z ∈ (runK (zs.map tkOf) Q).1, z.missed = 0) ∧ ∀ (i : Nat) (hi : i < zs.length) (a : Nat), rel zs[i].start zs[i].period (a : Int) → cntK (zs.map tkOf) i a zs[i].period.toNat = zs[i].budget := by
  refine ⟨fun Q z hz => ((edf hr ha Q).1 z hz).2.2.2.2.2.2.1, fun i hi a hrel => ?_⟩
  have hz := rkB_yes (hr zs[i] (List.getElem_mem hi))
  have hs : ∀ t, (lfK (zs.map tkOf) i t).start = zs[i].start ∧ (lfK (zs.map tkOf) i t).period = zs[i].period ∧ (lfK (zs.map tkOf) i t).budget = zs[i].budget := fun t => by
    have h1 : (runK (zs.map tkOf) t).1.map rkT = zs := by rw [rkT_run, rkT_of]
    have hl : i < (runK (zs.map tkOf) t).1.length := by rw [(runK_len _ t).1]; simpa using hi
    have h2 : rkT (lfK (zs.map tkOf) i t) = zs[i] := by
      have : ((runK (zs.map tkOf) t).1.map rkT)[i]'(by simpa using hl) = zs[i] := by simp only [h1]
      rw [← this]
      simp [lfK, List.getD, List.getElem?_eq_getElem hl]
    rw [← h2]
    exact ⟨rfl, rfl, rfl⟩
  obtain ⟨P, hP⟩ := Int.eq_ofNat_of_zero_le (show 0 ≤ zs[i].period by omega)
  have hw := win (by simpa using hi) hs (by omega) hrel P (by omega) (by omega)
  have he := edf hr ha (a + P)
  have hp0 := DD_mem he.1 (by have := he.2 ((a + P : Nat) : Int) (Int.le_refl _); simpa using this)
  have hl : i < (runK (zs.map tkOf) (a + P)).1.length := by rw [(runK_len _ _).1]; simpa using hi
  have h3 : pend ((a + P : Nat) : Int) (lfK (zs.map tkOf) i (a + P)) = 0 := mem_getD hp0 i hl
  unfold pend at h3
  rw [if_pos (by rw [hw.2]; omega)] at h3
  rw [hP, Int.toNat_natCast]
  omega
end Go.Proofs.Ytcglpigmellfcab
