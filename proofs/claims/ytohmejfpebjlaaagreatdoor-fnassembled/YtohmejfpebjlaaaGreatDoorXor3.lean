import Derived.Test.YtohmejfpebjlaaaGreatDoorXor2
namespace Go.Proofs.YtohmejfpebjlaaaGreatDoor

def xN : Nat := 18446744073709551615
theorem pN : pw 64 xN = 1 := by decide +kernel
theorem it_N (x : BitVec 64) : it xN x = x := by rw [← pw_act 64 xN x (by decide), pN, act_one]
theorem not_part (q g : Nat) (hq : xN / q < 2 ^ 64) (hg : mulP g (pw 64 (xN / q) ^^^ 1) = 1) (x : BitVec 64) (h : it (xN / q) x = x) : x = 0 := by
  have e : act 64 (pw 64 (xN / q) ^^^ 1) x = 0 := by
    rw [act_add, act_one, pw_act 64 _ x hq, h, BitVec.xor_self]
    rfl
  rw [← act_one x, ← hg, mulP_act _ _ (Nat.xor_lt_two_pow (pw_lt 64 _) (by decide)), e, act_x0]
theorem g3 : mulP 15511182550047884770 (pw 64 (xN / 3) ^^^ 1) = 1 := by decide +kernel
theorem g5 : mulP 11814715471047095913 (pw 64 (xN / 5) ^^^ 1) = 1 := by decide +kernel
theorem g17 : mulP 7202445018898142789 (pw 64 (xN / 17) ^^^ 1) = 1 := by decide +kernel
theorem g257 : mulP 9031751854939573325 (pw 64 (xN / 257) ^^^ 1) = 1 := by decide +kernel
theorem g641 : mulP 138158124418806406 (pw 64 (xN / 641) ^^^ 1) = 1 := by decide +kernel
theorem g65537 : mulP 17109817795786126257 (pw 64 (xN / 65537) ^^^ 1) = 1 := by decide +kernel
theorem g6700417 : mulP 5204763322158105013 (pw 64 (xN / 6700417) ^^^ 1) = 1 := by decide +kernel
/-- No number from 2 to 2600 but q itself parts q. -/
theorem prime_of (q : Nat) (h2 : q < 6760000) (h : (List.range 2600).all (fun k => decide (k < 2) || decide (q % k ≠ 0) || decide (k = q)) = true) (d : Nat) (hd : d ∣ q) : d = 1 ∨ d = q := by
  have hk : ∀ k, 2 ≤ k → k < 2600 → k ∣ q → k = q := by
    intro k h3 h4 h5
    have := List.all_eq_true.1 h k (by simp; exact h4)
    simp at this
    rcases this with (h6 | h6) | h6
    · omega
    · exact absurd (Nat.mod_eq_zero_of_dvd h5) h6
    · exact h6
  obtain ⟨e, he⟩ := hd
  by_cases h0 : q = 0
  · subst h0
    have := hk 2 (by omega) (by omega) (Nat.dvd_zero 2)
    omega
  by_cases h1 : d = 1
  · exact .inl h1
  refine .inr ?_
  have hd0 : d ≠ 0 := by rintro rfl; simp at he; exact h0 he
  by_cases hs : d < 2600
  · exact hk d (by omega) hs ⟨e, he⟩
  · by_cases he1 : e = 1
    · subst he1; omega
    have he0 : e ≠ 0 := by rintro rfl; simp at he; exact h0 he
    by_cases hs2 : e < 2600
    · have := hk e (by omega) hs2 ⟨d, by rw [he, Nat.mul_comm]⟩
      subst this
      have h9 : 2600 * e ≤ d * e := Nat.mul_le_mul_right e (by omega)
      omega
    · have h9 : 2600 * 2600 ≤ d * e := Nat.mul_le_mul (by omega) (by omega)
      omega
theorem part_or (q : Nat) (hq : ∀ d, d ∣ q → d = 1 ∨ d = q) (h : Nat) : q ∣ h ∨ Nat.gcd h q = 1 := by
  rcases hq (Nat.gcd h q) (Nat.gcd_dvd_right h q) with h1 | h1
  · exact .inr h1
  · exact .inl (h1 ▸ Nat.gcd_dvd_left h q)
theorem it_mul (a x) (h : it a x = x) (n : Nat) : it (a * n) x = x := by
  induction n with
  | zero => rfl
  | succ n ih => rw [Nat.mul_succ, it_add, h, ih]
theorem it_mod (a b x) (ha : it a x = x) (hb : it b x = x) : it (b % a) x = x := by
  have e : it (b % a + a * (b / a)) x = x := by rw [Nat.mod_add_div]; exact hb
  rw [it_add, it_mul a x ha] at e
  exact e
theorem it_gcd (x) : ∀ a b, it a x = x → it b x = x → it (Nat.gcd a b) x = x := by
  intro a b
  induction a, b using Nat.gcd.induction with
  | H0 n => intro _ h; rw [Nat.gcd_zero_left]; exact h
  | H1 m n _ ih =>
    intro ha hb
    rw [Nat.gcd_rec]
    exact ih (it_mod m n x ha hb) ha
theorem short (x : BitVec 64) (d : Nat) (h0 : 0 < d) (h1 : d < xN) (h : it d x = x) : x = 0 := by
  have hg := it_gcd x d xN h (it_N x)
  obtain ⟨c, hc⟩ := Nat.gcd_dvd_right d xN
  have hle : Nat.gcd d xN ≤ d := Nat.le_of_dvd h0 (Nat.gcd_dvd_left d xN)
  generalize Nat.gcd d xN = g at *
  have key : ∀ q k, (∀ d, d ∣ q → d = 1 ∨ d = q) → 0 < q → xN / q < 2 ^ 64 → mulP k (pw 64 (xN / q) ^^^ 1) = 1 → x = 0 ∨ Nat.gcd c q = 1 := by
    intro q k hq hq0 hlt hk
    rcases part_or q hq c with ⟨e, he⟩ | h2
    · refine .inl (not_part q k hlt hk x ?_)
      have : xN / q = g * e := by
        rw [hc, he, show g * (q * e) = q * (g * e) by ac_rfl, Nat.mul_div_cancel_left _ hq0]
      rw [this]
      exact it_mul g x hg e
    · exact .inr h2
  have p := fun q h2 h3 => prime_of q h2 h3
  rcases key 3 _ (p 3 (by decide) (by decide +kernel)) (by decide) (by decide) g3 with hx | c3
  · exact hx
  rcases key 5 _ (p 5 (by decide) (by decide +kernel)) (by decide) (by decide) g5 with hx | c5
  · exact hx
  rcases key 17 _ (p 17 (by decide) (by decide +kernel)) (by decide) (by decide) g17 with hx | c17
  · exact hx
  rcases key 257 _ (p 257 (by decide) (by decide +kernel)) (by decide) (by decide) g257 with hx | c257
  · exact hx
  rcases key 641 _ (p 641 (by decide) (by decide +kernel)) (by decide) (by decide) g641 with hx | c641
  · exact hx
  rcases key 65537 _ (p 65537 (by decide) (by decide +kernel)) (by decide) (by decide) g65537 with hx | c65537
  · exact hx
  rcases key 6700417 _ (p 6700417 (by decide) (by decide +kernel)) (by decide) (by decide) g6700417 with hx | c6700417
  · exact hx
  exfalso
  have hcop : Nat.Coprime c (3 * 5 * 17 * 257 * 641 * 65537 * 6700417) :=
    Nat.Coprime.mul_right (Nat.Coprime.mul_right (Nat.Coprime.mul_right (Nat.Coprime.mul_right (Nat.Coprime.mul_right (Nat.Coprime.mul_right c3 c5) c17) c257) c641) c65537) c6700417
  have hN : (3 * 5 * 17 * 257 * 641 * 65537 * 6700417 : Nat) = xN := by decide
  rw [hN] at hcop
  have hc1 : c ∣ 1 := by
    have : Nat.gcd c xN = 1 := hcop
    rw [← this]
    exact Nat.dvd_gcd (Nat.dvd_refl c) ⟨g, by rw [hc, Nat.mul_comm]⟩
  have : c = 1 := Nat.dvd_one.1 hc1
  subst this
  omega
theorem php : ∀ (m n : Nat) (f : Nat → Nat), (∀ i, i < n → f i < m) → (∀ i j, i < n → j < n → f i = f j → i = j) → n ≤ m := by
  intro m
  induction m with
  | zero =>
    intro n f h _
    by_cases hn : n = 0
    · omega
    · exact absurd (h 0 (by omega)) (by omega)
  | succ m ih =>
    intro n f h hi
    by_cases hn : n = 0
    · omega
    obtain ⟨k, rfl⟩ : ∃ k, n = k + 1 := ⟨n - 1, by omega⟩
    have := ih k (fun i => if f i = m then f k else f i) (by
      intro i hk
      skip
      split
      · rename_i e
        have h1 := h k (by omega)
        have h2 : f k ≠ m := fun e2 => by have := hi i k (by omega) (by omega) (e.trans e2.symm); omega
        omega
      · have := h i (by omega); omega) (by
      intro i j h1 h2 e
      skip
      split at e <;> split at e
      · rename_i e1 e2; exact hi i j (by omega) (by omega) (e1.trans e2.symm)
      · have := hi k j (by omega) (by omega) e; omega
      · have := hi i k (by omega) (by omega) e; omega
      · exact hi i j (by omega) (by omega) e)
    omega
theorem it_inj (n : Nat) (x y : BitVec 64) (hn : n ≤ xN) (h : it n x = it n y) : x = y := by
  have h1 := it_N x
  have h2 := it_N y
  rw [show xN = (xN - n) + n by omega, it_add] at h1 h2
  rw [← h1, ← h2, h]
theorem all_reached (x : BitVec 64) (hx : x ≠ 0) : ∃ k, k < xN ∧ it k x = 1 := by
  refine Classical.byContradiction fun hno => ?_
  have hne : ∀ k, k < xN → it k x ≠ 1 := fun k hk e => hno ⟨k, hk, e⟩
  have hnz : ∀ k, k < xN → it k x ≠ 0 := fun k hk e => hx (it_inj k x 0 (by omega) (by rw [it_zero]; exact e))
  have h2 : ∀ k, k < xN → 2 ≤ (it k x).toNat := by
    intro k hk
    have a0 : (it k x).toNat ≠ 0 := fun e => hnz k hk (BitVec.eq_of_toNat_eq e)
    have a1 : (it k x).toNat ≠ 1 := fun e => hne k hk (BitVec.eq_of_toNat_eq e)
    omega
  have := php (xN - 1) xN (fun k => (it k x).toNat - 2) (by
    intro k hk
    have h3 := h2 k hk
    have h4 := (it k x).isLt
    have h5 : (2 : Nat) ^ 64 = xN + 1 := by decide
    skip
    omega) (by
    intro i j hi hj e
    have h3 := h2 i hi
    have h4 := h2 j hj
    have e2 : it i x = it j x := BitVec.eq_of_toNat_eq (by omega)
    have hcl : ∀ a b, a < b → b < xN → it a x = it b x → False := by
      intro a b hab hb e3
      rw [show b = a + (b - a) by omega, it_add] at e3
      exact hx (short x (b - a) (by omega) (by omega) (it_inj a _ _ (by omega) e3).symm)
    by_cases hlt : i < j
    · exact (hcl i j hlt hj e2).elim
    by_cases hgt : j < i
    · exact (hcl j i hgt hi e2.symm).elim
    · omega)
  have : xN = 18446744073709551615 := rfl
  omega
/-- From whatever mixing number the source comes, behind some steps, to one whose upper bits are off. -/
theorem reach (x : BitVec 64) : ∃ k, 1 ≤ k ∧ (it k x).toNat / 1048576 = 0 := by
  by_cases hx : x = 0
  · subst hx
    exact ⟨1, Nat.le_refl _, by rw [it_zero]; rfl⟩
  obtain ⟨k, hk, e⟩ := all_reached x hx
  by_cases h0 : k = 0
  · subst h0
    refine ⟨xN, by decide, ?_⟩
    rw [it_N, show x = 1 from e]
    rfl
  · exact ⟨k, by omega, by rw [e]; rfl⟩
#print axioms reach
end Go.Proofs.YtohmejfpebjlaaaGreatDoor
