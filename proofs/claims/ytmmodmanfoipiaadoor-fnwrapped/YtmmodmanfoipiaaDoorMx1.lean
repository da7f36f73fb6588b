import Derived.Test.YtmmodmanfoipiaaDoorMix
namespace Go.Proofs.YtmmodmanfoipiaaDoor
open Go.ChangeShapes Go.WideShapes Go.ChangeAt Go.RowKit

theorem inj_mul {p u c m d : Int} (hu : u * c = 1 + p * m) (h : p ∣ d * u) (h0 : -p < d) (h1 : d < p) : d = 0 := by
  obtain ⟨t, ht⟩ := h
  have h2 : d * (u * c) = p * (t * c) := by rw [← Int.mul_assoc, ht, Int.mul_assoc]
  rw [hu, Int.mul_add, Int.mul_one] at h2
  have h3 : d = p * (t * c - d * m) := by
    rw [Int.mul_sub, ← h2, Int.mul_left_comm d p m]
    omega
  have h4 : p ∣ d := ⟨_, h3⟩
  exact Int.eq_zero_of_dvd_of_natAbs_lt_natAbs h4 (by omega)
theorem mod_dvd {p a b : Int} (h : a % p = b % p) : p ∣ a - b := Int.dvd_of_emod_eq_zero (by rw [Int.sub_emod, h]; simp)
theorem step_inj {a b c : Int} (ha : 0 ≤ a) (ha1 : a < 2147483629) (hb : 0 ≤ b) (hb1 : b < 2147483629) (h : (a * 65599 + c + 1) % 2147483629 = (b * 65599 + c + 1) % 2147483629) : a = b := by
  have h1 := mod_dvd h
  have h2 : (2147483629 : Int) ∣ (a - b) * 65599 := by
    have e : (a - b) * 65599 = a * 65599 + c + 1 - (b * 65599 + c + 1) := by omega
    rw [e]; exact h1
  have := inj_mul (p := 2147483629) (u := 65599) (c := 1843197583) (m := 56304) (by kernel_rfl) h2 (by omega) (by omega)
  omega
theorem end_inj {a b : Int} (ha : 0 ≤ a) (ha1 : a < 2147483629) (hb : 0 ≤ b) (hb1 : b < 2147483629) (h : (a * 40503 + 77) % 2147483629 = (b * 40503 + 77) % 2147483629) : a = b := by
  have hd0 : -(2147483629 : Int) < a - b := by clear h; omega
  have hd1 : a - b < (2147483629 : Int) := by clear h; omega
  have h1 : (2147483629 : Int) ∣ (a * 40503 + 77) - (b * 40503 + 77) := mod_dvd h
  clear h
  have h2 : (2147483629 : Int) ∣ (a - b) * 40503 := by
    have e : (a - b) * 40503 = a * 40503 + 77 - (b * 40503 + 77) := by
      clear h1
      rw [Int.sub_mul]
      generalize a * 40503 = A
      generalize b * 40503 = B
      omega
    rw [e]; exact h1
  have := inj_mul (p := 2147483629) (u := 40503) (c := 1528842072) (m := 28835) (by kernel_rfl) h2 hd0 hd1
  clear h1 h2
  omega
theorem mixR_s (x : Int) (s : ByteArray) (k : Nat) : 0 ≤ mixR x s (k + 1) ∧ mixR x s (k + 1) < 2147483629 := by
  simp only [mixR]
  omega
/-- Two texts that differ at one byte below j alone. -/
theorem mixR_ne {x : Int} {s s' : ByteArray} {k : Nat} (hk : bt s k ≠ bt s' k) (ho : ∀ i, i ≠ k → bt s i = bt s' i) : ∀ j, mixR x s (k + 1 + j) ≠ mixR x s' (k + 1 + j)
  | 0 => by
    have e : ∀ i, i ≤ k → mixR x s i = mixR x s' i := by
      intro i
      induction i with
      | zero => intro _; rfl
      | succ i ih => intro hi; simp only [mixR]; rw [ih (by omega), ho i (by omega)]
    obtain ⟨b0, b1⟩ := bt_b s k
    obtain ⟨c0, c1⟩ := bt_b s' k
    show mixR x s (k + 1) ≠ mixR x s' (k + 1)
    simp only [mixR]
    rw [e k (Nat.le_refl _)]
    omega
  | j + 1 => fun h => by
    have h1 := mixR_s x s (k + j)
    have h2 := mixR_s x s' (k + j)
    rw [show k + j + 1 = k + 1 + j by omega] at h1 h2
    refine mixR_ne (x := x) hk ho j (step_inj (c := bt s (k + 1 + j)) h1.1 h1.2 h2.1 h2.2 ?_)
    have h9 : mixR x s (k + 1 + j + 1) = mixR x s' (k + 1 + j + 1) := h
    simp only [mixR] at h9
    rw [ho (k + 1 + j) (by omega)] at h9 ⊢
    exact h9
theorem mixv_ne {s s' : ByteArray} {k : Nat} (sd : Int) (hz : s.size = s'.size) (h9 : s.size ≤ 65536) (hs : k < s.size) (hk : bt s k ≠ bt s' k) (ho : ∀ i, i ≠ k → bt s i = bt s' i) : mixv s sd ≠ mixv s' sd := by
  unfold mixv
  rw [if_neg (by omega), if_neg (by omega), ← hz]
  obtain ⟨j, hj⟩ : ∃ j, s.size = k + 1 + j := ⟨s.size - (k + 1), by omega⟩
  rw [hj]
  intro h
  simp only [mixE] at h
  have h1 := mixR_s (mixS sd) s (k + j)
  have h2 := mixR_s (mixS sd) s' (k + j)
  rw [show k + j + 1 = k + 1 + j by omega] at h1 h2
  exact mixR_ne hk ho j (end_inj h1.1 h1.2 h2.1 h2.2 h)
end Go.Proofs.YtmmodmanfoipiaaDoor
