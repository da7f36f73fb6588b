import Derived.Test.YtcglpigmellfcabEc3
import Derived.Test.YtcglpigmellfcabEd2
import Derived.Test.YtcglpigmellfcabEa6
namespace Go.Proofs.Ytcglpigmellfcab
open Go.ChangeShapes Go.WideShapes Go.ChangeAt Go.RowKit

theorem rtC_yes {zs : List RK} {q : Int} (h : rtC zs q = 0) : tasksB zs = true ∧ 0 ≤ q ∧ q ≤ 1000 := by
  unfold rtC at h
  split at h
  · omega
  · split at h
    · rename_i h2
      exact h2
    · omega
theorem dS_len (zs : List RK) (q : Int) : (rtS zs q).length ≤ 1000 := by
  unfold rtS
  split
  · rename_i h
    have := rtC_yes h
    rw [(runK_len _ _).2]
    omega
  · simp
/-- What a law of admitted tasks asks. -/
structure DL (zs : List RK) (q : Int) (S M : List Int) : Prop where
  q0 : 0 ≤ q
  q1 : q ≤ 1000
  sl : S.length = q.toNat
  ml : M.length = zs.length
  mz : ∀ k (h : k < M.length), M[k] = 0
  sv : ∀ t (h : t < S.length), S[t] = slK (zs.map tkOf) t
  ct : ∀ i (hi : i < zs.length) (f : Nat), rel zs[i].start zs[i].period (f : Int) → cntK (zs.map tkOf) i f zs[i].period.toNat = zs[i].budget
  ok : ∀ z ∈ zs, rkB z = true
theorem dl_facts {zs : List RK} {q : Int} (hc : rtC zs q = 0) (ha : adB zs = true) : DL zs q (rtS zs q) (rtM zs q) := by
  obtain ⟨h1, h2, h3⟩ := rtC_yes hc
  have hall : ∀ z ∈ zs, rkB z = true := by
    simp only [tasksB, Bool.and_eq_true, List.all_eq_true] at h1
    exact h1.2
  have hask : askP 5342931457063200 zs ≤ 5342931457063200 := by
    simp only [adB, Bool.and_eq_true, decide_eq_true_eq] at ha
    exact ha.2
  obtain ⟨e1, e2⟩ := edf_all hall hask
  have eS : rtS zs q = (runK (zs.map tkOf) q.toNat).2 := by unfold rtS; rw [if_pos hc]
  have eM : rtM zs q = (runK (zs.map tkOf) q.toNat).1.map (·.missed) := by unfold rtM; rw [if_pos hc]
  refine ⟨h2, h3, ?_, ?_, ?_, ?_, e2, hall⟩
  · rw [eS, (runK_len _ _).2]
  · rw [eM, List.length_map, (runK_len _ _).1, List.length_map]
  · rw [eM]
    intro k h
    rw [List.getElem_map]
    exact e1 _ _ (List.getElem_mem _)
  · rw [eS]
    intro t h
    have h9 := slK_at (zs.map tkOf) t q.toNat (by rw [(runK_len _ _).2] at h; exact h)
    rw [List.getD_eq_getElem?_getD, List.getElem?_eq_getElem h] at h9
    exact h9
theorem cntK_b (K0 : List TK) (i a : Nat) : ∀ m, 0 ≤ cntK K0 i a m ∧ cntK K0 i a m ≤ (m : Int)
  | 0 => by simp [cntK]
  | m + 1 => by
    have h := cntK_b K0 i a m
    unfold cntK
    split <;> omega
theorem cntK_s (K0 : List TK) (i a m : Nat) : cntK K0 i a (m + 1) = cntK K0 i a m + if slK K0 (a + m) = (i : Int) then 1 else 0 := rfl
theorem rel_s {s p : Int} : rel s p s := ⟨Int.le_refl _, by simp⟩
theorem rel_n {s p t : Int} (h : rel s p t) (hp : 1 ≤ p) : rel s p (t + p) := by
  refine ⟨by have := h.1; omega, ?_⟩
  have e : t + p - s = (t - s) + p := by omega
  rw [e, Int.add_emod_right]
  exact h.2
end Go.Proofs.Ytcglpigmellfcab
