import Derived.Test.YtegcbghhcidcaaaDoorCq3
namespace Go.Proofs.YtegcbghhcidcaaaDoor
open Go.ChangeShapes Go.WideShapes Go.ChangeAt Go.RowKit

/-- In two parts as in one. -/
theorem adv_two {c : CK} {s t : Int} (hd : 1 ≤ c.den) : (adv (adv c s) t).guest = (adv c t).guest ∧ (adv (adv c s) t).part = (adv c t).part ∨ c.frz = true := by
  cases hf : c.frz
  · left
    have e1 : pP c t = (pP (adv c s) t) + c.den * (pP c s / c.den) := by
      unfold pP adv
      simp only [hf, Bool.false_eq_true, if_false]
      unfold pP
      simp only [hf, Bool.false_eq_true, if_false]
      have h1 := Int.emod_add_mul_ediv (c.part + c.num * (s - c.host)) c.den
      have h2 : c.num * (t - c.host) = c.num * (s - c.host) + c.num * (t - s) := by rw [← Int.mul_add]; congr 1; omega
      omega
    have hne : c.den ≠ 0 := by omega
    refine ⟨?_, ?_⟩
    · show c.guest + pP c s / c.den + pP (adv c s) t / c.den = c.guest + pP c t / c.den
      rw [e1, Int.add_mul_ediv_left _ _ hne]
      omega
    · show pP (adv c s) t % c.den = pP c t % c.den
      rw [e1, Int.add_mul_emod_self_left]
  · right
    rfl
theorem adv_fz {c : CK} {t : Int} (hf : c.frz = true) (p0 : 0 ≤ c.part) (p1 : c.part < c.den) : (adv c t).guest = c.guest ∧ (adv c t).part = c.part ∧ (adv c t).frz = true ∧ (adv c t).den = c.den := by
  have h1 : pP c t = c.part := by unfold pP; rw [if_pos hf]
  refine ⟨?_, ?_, hf, rfl⟩
  · show c.guest + pP c t / c.den = c.guest
    rw [h1, Int.ediv_eq_zero_of_lt p0 p1]
    omega
  · show pP c t % c.den = c.part
    rw [h1, Int.emod_eq_of_lt p0 p1]
/-- A small step is let. -/
theorem may_small {c : CK} {t : Int} (hc : ckB c = true) (h1 : c.host ≤ 1073742334) (g1 : c.guest ≤ 1099511000000) (t0 : c.host ≤ t) (t1 : t ≤ c.host + 510) : May c t := by
  unfold ckB tmB rtB at hc
  simp only [Bool.and_eq_true, decide_eq_true_eq] at hc
  obtain ⟨⟨⟨⟨⟨⟨⟨h0, _⟩, ⟨g0, _⟩⟩, ⟨⟨⟨n0, n1⟩, d0⟩, d1⟩⟩, p0⟩, p1⟩, _⟩, _⟩ := hc
  refine ⟨t0, by omega, h0, g0, n0, n1, d0, d1, p0, p1, ?_⟩
  have hx := mul_b n0 n1 (show 0 ≤ t - c.host by omega) (by omega)
  have hx2 : c.num * (t - c.host) ≤ 510000 := by
    have e1 : c.num * (t - c.host) ≤ 1000 * (t - c.host) := Int.mul_le_mul_of_nonneg_right n1 (by omega)
    omega
  have hp : 0 ≤ pP c t ∧ pP c t ≤ 511000 := by
    unfold pP
    split <;> omega
  have hq := (quo_b hp.1 d0).2.2.2.1
  omega
theorem adv_ok {c : CK} {t : Int} (hc : ckB c = true) (hm : May c t) : ckB (adv c t) = true := by
  have hc' := hc
  unfold ckB at hc'
  simp only [Bool.and_eq_true, decide_eq_true_eq] at hc'
  obtain ⟨⟨⟨⟨⟨⟨_, _⟩, r⟩, _⟩, _⟩, l⟩, ts⟩ := hc'
  have hp : 0 ≤ pP c t := by
    unfold pP
    have := mul_b hm.n0 hm.n1 (show 0 ≤ t - c.host by have := hm.t0; omega) (by have := hm.t1; have := hm.h0; omega)
    have := hm.p0
    split <;> omega
  have hq := quo_b hp hm.d0
  refine ckB_y ?_ ?_ r l hq.2.2.2.2.1 hq.2.2.2.2.2 ts
  · show tmB t = true
    unfold tmB
    rw [decide_eq_true (show 0 ≤ t by have := hm.t0; have := hm.h0; omega), decide_eq_true hm.t1]
    rfl
  · show tmB (c.guest + pP c t / c.den) = true
    unfold tmB
    rw [decide_eq_true (show 0 ≤ c.guest + pP c t / c.den by have := hm.g0; omega), decide_eq_true hm.gm]
    rfl
/-- The two runs of the law. -/
theorem mays_two {c : CK} {a b : Int} (hc : ckB c = true) (h1 : c.host ≤ 1073741824) (g1 : c.guest ≤ 1073741824) (a0 : 0 ≤ a) (a1 : a < 256) (b0 : 0 ≤ b) (b1 : b < 256) : Mays c [c.host + a + b] ∧ Mays c [c.host + a, c.host + a + b] ∧ (advs c [c.host + a, c.host + a + b]).guest = (advs c [c.host + a + b]).guest ∧ (advs c [c.host + a, c.host + a + b]).part = (advs c [c.host + a + b]).part ∧ (c.frz = true → (advs c [c.host + a + b]).guest = c.guest) := by
  have m1 := may_small (t := c.host + a + b) hc (by omega) (by omega) (by omega) (by omega)
  have m2 := may_small (t := c.host + a) hc (by omega) (by omega) (by omega) (by omega)
  have hok := adv_ok hc m2
  have hgs : (adv c (c.host + a)).guest ≤ 1073741824 + 511000 := by
    show c.guest + pP c (c.host + a) / c.den ≤ _
    have hx2 : c.num * (c.host + a - c.host) ≤ 510000 := by
      have e1 : c.num * (c.host + a - c.host) ≤ 1000 * (c.host + a - c.host) := Int.mul_le_mul_of_nonneg_right m2.n1 (by omega)
      omega
    have hx0 : 0 ≤ c.num * (c.host + a - c.host) := Int.mul_nonneg m2.n0 (by omega)
    have hp : 0 ≤ pP c (c.host + a) ∧ pP c (c.host + a) ≤ 511000 := by
      have q0 := m2.p0
      have q1 := m2.p1
      have q2 := m2.d1
      unfold pP
      split <;> omega
    have hq := (quo_b hp.1 m2.d0).2.2.2.1
    omega
  have m3 : May (adv c (c.host + a)) (c.host + a + b) := may_small hok (show c.host + a ≤ _ by omega) (by omega) (show c.host + a ≤ _ by omega) (show c.host + a + b ≤ c.host + a + 510 by omega)
  refine ⟨⟨m1, trivial⟩, ⟨m2, m3, trivial⟩, ?_, ?_, fun hf => ?_⟩
  · show (adv (adv c (c.host + a)) (c.host + a + b)).guest = (adv c (c.host + a + b)).guest
    rcases adv_two (c := c) (s := c.host + a) (t := c.host + a + b) m1.d0 with h | hf
    · exact h.1
    · have e1 := adv_fz (t := c.host + a) hf m1.p0 m1.p1
      have e2 := adv_fz (c := adv c (c.host + a)) (t := c.host + a + b) e1.2.2.1 (by rw [e1.2.1]; exact m1.p0) (by rw [e1.2.1, e1.2.2.2]; exact m1.p1)
      have e3 := adv_fz (t := c.host + a + b) hf m1.p0 m1.p1
      rw [e2.1, e1.1, e3.1]
  · show (adv (adv c (c.host + a)) (c.host + a + b)).part = (adv c (c.host + a + b)).part
    rcases adv_two (c := c) (s := c.host + a) (t := c.host + a + b) m1.d0 with h | hf
    · exact h.2
    · have e1 := adv_fz (t := c.host + a) hf m1.p0 m1.p1
      have e2 := adv_fz (c := adv c (c.host + a)) (t := c.host + a + b) e1.2.2.1 (by rw [e1.2.1]; exact m1.p0) (by rw [e1.2.1, e1.2.2.2]; exact m1.p1)
      have e3 := adv_fz (t := c.host + a + b) hf m1.p0 m1.p1
      rw [e2.2.1, e1.2.1, e3.2.1]
  · exact (adv_fz (t := c.host + a + b) hf m1.p0 m1.p1).1
end Go.Proofs.YtegcbghhcidcaaaDoor
