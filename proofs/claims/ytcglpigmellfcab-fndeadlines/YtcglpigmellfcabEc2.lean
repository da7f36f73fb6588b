import Derived.Test.YtcglpigmellfcabEc1
namespace Go.Proofs.Ytcglpigmellfcab
open Go.ChangeShapes Go.WideShapes Go.ChangeAt Go.RowKit

def pend (d : Int) (z : TK) : Int := if z.fin ≤ d then z.left else 0
/-- What is left, and what is still to come, that ends by d. -/
def d1 (d : Int) (f : Nat) (t : Int) (z : TK) : Int := pend d z + z.budget * NN z.start z.period d f t
def DD (d : Int) (f : Nat) (t : Int) : List TK → Int
  | [] => 0
  | z :: zs => d1 d f t z + DD d f t zs
theorem DD_set (d : Int) (f : Nat) (t : Int) : ∀ (zs : List TK) (k : Nat) (hk : k < zs.length) (z : TK), DD d f t (zs.set k z) = DD d f t zs - d1 d f t zs[k] + d1 d f t z
  | [], k, hk, _ => by simp at hk
  | y :: ys, 0, _, z => by simp only [List.set_cons_zero, DD, List.getElem_cons_zero]; omega
  | y :: ys, k + 1, hk, z => by
    have := DD_set d f t ys k (by simpa using hk) z
    simp only [List.set_cons_succ, DD, List.getElem_cons_succ]
    omega
theorem DD_FF (d : Int) (f : Nat) (t : Int) (zs : List TK) (h : ∀ z ∈ zs, pend d z = 0) : DD d f t zs = FF d f t (zs.map rkT) := by
  induction zs with
  | nil => rfl
  | cons z zs ih =>
    have h1 := h z (by simp)
    have h2 := ih (fun q hq => h q (by simp [hq]))
    simp only [DD, d1, List.map_cons, FF, rkT]
    rw [h1, h2]
    omega
/-- What holds of a task ahead of a quantum, where none was missed. -/
def ej (t : Int) (z : TK) : Prop := 0 ≤ z.start ∧ 1 ≤ z.period ∧ z.period ≤ 40 ∧ 1 ≤ z.budget ∧ z.budget ≤ z.period ∧ 0 ≤ z.left ∧ z.missed = 0 ∧ (z.left = 0 ∨ (rel z.start z.period (z.fin - z.period) ∧ z.fin - z.period < t))
theorem DD_nn (d : Int) (f : Nat) (t t2 : Int) (zs : List TK) (h : ∀ z ∈ zs, ej t2 z) : 0 ≤ DD d f t zs := by
  induction zs with
  | nil => exact Int.le_refl _
  | cons z zs ih =>
    have h1 := h z (by simp)
    have h2 := ih (fun q hq => h q (by simp [hq]))
    have h3 := NN_nn z.start z.period d f t
    have h4 : 0 ≤ z.budget * NN z.start z.period d f t := Int.mul_nonneg (by have := h1.2.2.2.1; omega) h3
    simp only [DD, d1, pend]
    have h5 := h1.2.2.2.2.2.1
    split <;> omega
theorem DD_mem {d : Int} {f : Nat} {t t2 : Int} {zs : List TK} (h : ∀ z ∈ zs, ej t2 z) (h0 : DD d f t zs ≤ 0) : ∀ z ∈ zs, pend d z = 0 := by
  induction zs with
  | nil => intro z hz; cases hz
  | cons y ys ih =>
    have h1 := h y (by simp)
    have hn := DD_nn d f t t2 ys (fun q hq => h q (by simp [hq]))
    have h3 := NN_nn y.start y.period d f t
    have h4 : 0 ≤ y.budget * NN y.start y.period d f t := Int.mul_nonneg (by have := h1.2.2.2.1; omega) h3
    have h5 := h1.2.2.2.2.2.1
    have hp : 0 ≤ pend d y := by unfold pend; split <;> omega
    simp only [DD, d1] at h0
    intro z hz
    rcases List.mem_cons.1 hz with rfl | hz
    · omega
    · exact ih (fun q hq => h q (by simp [hq])) (by omega) z hz
/-- The one that is picked ends first. -/
theorem nx_first (zs : List TK) : ∀ k, k ≤ zs.length → ∀ j, j < k → 0 < (zs.getD j tk0).left → 0 ≤ nx zs k ∧ (zs.getD (nx zs k).toNat tk0).fin ≤ (zs.getD j tk0).fin
  | 0, _, j, hj, _ => by omega
  | k + 1, hk, j, hj, hl => by
    have ih := nx_first zs k (by omega)
    rw [nx_succ]
    by_cases hjk : j = k
    · subst hjk
      split
      · exact ⟨by omega, by simp⟩
      · rename_i hc
        have h1 : ¬ nx zs j < 0 := fun h => hc ⟨hl, .inl h⟩
        have h2 : ¬ (zs.getD j tk0).fin < (zs.getD (nx zs j).toNat tk0).fin := fun h => hc ⟨hl, .inr h⟩
        exact ⟨by omega, by omega⟩
    · obtain ⟨h1, h2⟩ := ih j (by omega) hl
      split
      · rename_i hc
        rcases hc.2 with h | h
        · omega
        · exact ⟨by omega, by rw [Int.toNat_natCast]; omega⟩
      · exact ⟨h1, h2⟩
theorem rel_beg {q : Int} {z : TK} : beg q z = true ↔ rel z.start z.period q := by
  unfold beg rel
  simp
/-- Two that begin and lie behind one another are a Period apart. -/
theorem rel_two {s p a b : Int} (hp : 1 ≤ p) (ha : rel s p a) (hb : rel s p b) (h : a < b) : a + p ≤ b := by
  have h1 : (b - a) % p = 0 := by
    have e : b - a = (b - s) - (a - s) := by omega
    rw [e, Int.sub_emod, hb.2, ha.2]
    simp
  have h2 := Int.mul_ediv_add_emod (b - a) p
  rw [h1] at h2
  have h3 : 0 < (b - a) / p := by
    apply Classical.byContradiction
    intro hc
    have : p * ((b - a) / p) ≤ 0 := Int.mul_nonpos_of_nonneg_of_nonpos (by omega) (by omega)
    omega
  have h4 : p * 1 ≤ p * ((b - a) / p) := Int.mul_le_mul_of_nonneg_left (by omega) (by omega)
  omega
/-- A task with nothing left that ends by now begins a quantum without a miss. -/
theorem ej_bgn {t : Int} {z : TK} (h : ej t z) (h0 : pend t z = 0) : ej (t + 1) (bgn t z) ∧ (beg t z = true → z.left = 0) := by
  obtain ⟨a1, a2, a3, a4, a5, a6, a7, a8⟩ := h
  have hl : beg t z = true → z.left = 0 := fun hb => by
    rcases a8 with h | ⟨h1, h2⟩
    · exact h
    · have h3 := rel_two a2 h1 (rel_beg.1 hb) h2
      unfold pend at h0
      rw [if_pos (by omega)] at h0
      exact h0
  refine ⟨?_, hl⟩
  unfold bgn
  split
  · rename_i hb
    have h1 := hl hb
    refine ⟨a1, a2, a3, a4, a5, by simp only; omega, by simp only; rw [if_neg (by omega)]; exact a7, .inr ⟨?_, ?_⟩⟩
    · simp only
      rw [show t + z.period - z.period = t by omega]
      exact rel_beg.1 hb
    · simp only
      omega
  · refine ⟨a1, a2, a3, a4, a5, a6, a7, ?_⟩
    rcases a8 with h | ⟨h1, h2⟩
    · exact .inl h
    · exact .inr ⟨h1, by omega⟩
/-- What begins was to come. -/
theorem d1_bgn {t d : Int} {f : Nat} {z : TK} (h : ej t z) (h0 : pend t z = 0) : d1 d f (t + 1) (bgn t z) = d1 d (f + 1) t z := by
  obtain ⟨_, hl⟩ := ej_bgn h h0
  unfold d1
  rw [NN]
  cases hb : beg t z
  · have hr : ¬ rel z.start z.period t := fun e => by rw [rel_beg.2 e] at hb; cases hb
    have e : bgn t z = z := by unfold bgn; rw [hb]; rfl
    rw [e, if_neg (fun h => hr h.1)]
    simp
  · have hr := rel_beg.1 hb
    have hl0 := hl hb
    have e : bgn t z = ⟨z.start, z.period, z.budget, z.budget, t + z.period, if 0 < z.left then z.missed + 1 else z.missed⟩ := by unfold bgn; rw [hb]; rfl
    rw [e]
    have hp : pend d z = 0 := by unfold pend; split <;> omega
    rw [hp, Int.mul_add]
    unfold pend
    simp only
    by_cases hd : t + z.period ≤ d
    · rw [if_pos hd, if_pos ⟨hr, hd⟩]
      omega
    · rw [if_neg hd, if_neg (fun h => hd h.2)]
      omega
theorem DD_bgn {t d : Int} {f : Nat} (zs : List TK) (h : ∀ z ∈ zs, ej t z) (h0 : ∀ z ∈ zs, pend t z = 0) : DD d f (t + 1) (zs.map (bgn t)) = DD d (f + 1) t zs := by
  induction zs with
  | nil => rfl
  | cons z zs ih =>
    simp only [List.map_cons, DD]
    rw [d1_bgn (h z (by simp)) (h0 z (by simp)), ih (fun q hq => h q (by simp [hq])) (fun q hq => h0 q (by simp [hq]))]
end Go.Proofs.Ytcglpigmellfcab
