import Derived.Test.YtcglpigmellfcabEa7
import Derived.Test.YtcglpigmellfcabEd2
namespace Go.Proofs.Ytcglpigmellfcab
open Go.ChangeShapes Go.WideShapes Go.ChangeAt Go.RowKit

theorem emod_pred {x p : Int} (hp : 1 ≤ p) : (x - 1) % p = if x % p = 0 then p - 1 else x % p - 1 := by
  have h0 := Int.emod_nonneg x (show p ≠ 0 by omega)
  have h1 := Int.emod_lt_of_pos x (show 0 < p by omega)
  have h2 := Int.mul_ediv_add_emod x p
  have hm : ∀ a k : Int, 0 ≤ a → a < p → (p * k + a) % p = a := fun a k ha hb => by
    rw [Int.add_comm, Int.add_mul_emod_self_left]
    exact Int.emod_eq_of_lt ha hb
  split
  · rename_i h
    have e : x - 1 = p * (x / p - 1) + (p - 1) := by rw [Int.mul_sub]; omega
    rw [e]
    exact hm _ _ (by omega) (by omega)
  · rename_i h
    have e : x - 1 = p * (x / p) + (x % p - 1) := by omega
    rw [e]
    exact hm _ _ (by omega) (by omega)
theorem emod_neg_zero {x p : Int} : x % p = 0 ↔ (-x) % p = 0 := by
  rw [← Int.dvd_iff_emod_eq_zero, ← Int.dvd_iff_emod_eq_zero, Int.dvd_neg]
/-- A Period begins here. -/
def rel (s p t : Int) : Prop := s ≤ t ∧ (t - s) % p = 0
instance (s p t : Int) : Decidable (rel s p t) := inferInstanceAs (Decidable (_ ∧ _))
/-- Where the next one begins. -/
def rho (s p t : Int) : Int := if t < s then s else t + (s - t) % p
theorem rho_ge (s p t : Int) (hp : 1 ≤ p) : t ≤ rho s p t := by
  unfold rho
  split
  · omega
  · have := Int.emod_nonneg (s - t) (show p ≠ 0 by omega)
    omega
theorem rel_mod {s p t : Int} (_ : s ≤ t) : (t - s) % p = 0 ↔ (s - t) % p = 0 := by
  rw [emod_neg_zero, show -(t - s) = s - t by omega]
theorem rho_rel {s p t : Int} (hp : 1 ≤ p) (h : rel s p t) : rho s p t = t ∧ rho s p (t + 1) = t + p := by
  obtain ⟨h1, h2⟩ := h
  have h3 := (rel_mod h1).1 h2
  unfold rho
  rw [if_neg (by omega), if_neg (by omega), h3, show s - (t + 1) = s - t - 1 by omega, emod_pred hp, if_pos h3]
  omega
theorem rho_not {s p t : Int} (hp : 1 ≤ p) (h : ¬ rel s p t) : rho s p (t + 1) = rho s p t := by
  unfold rho
  by_cases hs : t < s
  · rw [if_pos hs]
    split
    · rfl
    · have e : s = t + 1 := by omega
      rw [e]
      simp
  · have h3 : ¬ (s - t) % p = 0 := fun e => h ⟨by omega, (rel_mod (by omega)).2 e⟩
    rw [if_neg hs, if_neg (by omega), show s - (t + 1) = s - t - 1 by omega, emod_pred hp, if_neg h3]
    omega
/-- How many begin from here on, of so many quanta, and end by d. -/
def NN (s p d : Int) : Nat → Int → Int
  | 0, _ => 0
  | f + 1, t => (if rel s p t ∧ t + p ≤ d then 1 else 0) + NN s p d f (t + 1)
theorem NN_nn (s p d : Int) : ∀ f t, 0 ≤ NN s p d f t
  | 0, _ => Int.le_refl _
  | f + 1, t => by
    have := NN_nn s p d f (t + 1)
    rw [NN]
    split <;> omega
theorem NN_b {s p d : Int} (hp : 1 ≤ p) : ∀ f t, NN s p d f t * p ≤ max 0 (d - rho s p t)
  | 0, t => by simp [NN]; omega
  | f + 1, t => by
    have ih := NN_b (s := s) (d := d) hp f (t + 1)
    rw [NN, Int.add_mul]
    by_cases hr : rel s p t
    · obtain ⟨e1, e2⟩ := rho_rel hp hr
      rw [e2] at ih
      rw [e1]
      split
      · omega
      · rename_i hc
        have : ¬ t + p ≤ d := fun h => hc ⟨hr, h⟩
        omega
    · rw [if_neg (fun h => hr h.1), ← rho_not hp hr]
      omega
theorem NN_le {s p d : Int} (hp : 1 ≤ p) (f : Nat) (t : Int) (h : t ≤ d) : NN s p d f t * p ≤ d - t := by
  have h1 := NN_b (s := s) (d := d) hp f t
  have h2 := rho_ge s p t hp
  omega
/-- What is asked for from here on and ends by d. -/
def FF (d : Int) (f : Nat) (t : Int) : List RK → Int
  | [] => 0
  | z :: zs => z.budget * NN z.start z.period d f t + FF d f t zs
theorem FF_ask {d t : Int} (f : Nat) (h : t ≤ d) (zs : List RK) (hz : ∀ z ∈ zs, 1 ≤ z.period ∧ z.period ≤ 40 ∧ 1 ≤ z.budget) : FF d f t zs * 5342931457063200 ≤ askP 5342931457063200 zs * (d - t) := by
  induction zs with
  | nil => simp [FF, askP]
  | cons z zs ih =>
    have ih2 := ih (fun q hq => hz q (by simp [hq]))
    obtain ⟨h1, h2, h3⟩ := hz z (by simp)
    have h4 := NN_le (s := z.start) (d := d) h1 f t h
    obtain ⟨y, hy⟩ := all_dvd h1 h2
    have e : (5342931457063200 : Int) / z.period = y := by rw [hy]; exact Int.mul_ediv_cancel_left y (by omega)
    have hy0 : 0 ≤ y := by rw [← e]; exact Int.ediv_nonneg (by omega) (by omega)
    simp only [FF, askP]
    rw [Int.add_mul, Int.add_mul, e]
    have k1 : z.budget * NN z.start z.period d f t * 5342931457063200 = (y * z.budget) * (NN z.start z.period d f t * z.period) := by
      rw [hy]
      generalize NN z.start z.period d f t = n
      rw [Int.mul_comm z.period y, Int.mul_comm z.budget n, Int.mul_comm y z.budget, Int.mul_assoc n, Int.mul_assoc z.budget y, Int.mul_left_comm, Int.mul_left_comm y n, Int.mul_left_comm z.budget n]
      skip
    have k2 : (y * z.budget) * (NN z.start z.period d f t * z.period) ≤ (y * z.budget) * (d - t) := Int.mul_le_mul_of_nonneg_left h4 (Int.mul_nonneg hy0 (by omega))
    omega
theorem FF_le {d t : Int} (f : Nat) (h : t ≤ d) (zs : List RK) (hz : ∀ z ∈ zs, 1 ≤ z.period ∧ z.period ≤ 40 ∧ 1 ≤ z.budget) (ha : askP 5342931457063200 zs ≤ 5342931457063200) : FF d f t zs ≤ d - t := by
  have h1 := FF_ask f h zs hz
  have h2 : askP 5342931457063200 zs * (d - t) ≤ 5342931457063200 * (d - t) := Int.mul_le_mul_of_nonneg_right ha (by omega)
  omega
end Go.Proofs.Ytcglpigmellfcab
