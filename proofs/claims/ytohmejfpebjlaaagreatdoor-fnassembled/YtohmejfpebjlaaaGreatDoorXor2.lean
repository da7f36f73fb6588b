import Derived.Test.YtohmejfpebjlaaaGreatDoorXor
namespace Go.Proofs.YtohmejfpebjlaaaGreatDoor

/-- The step's polynomial. -/
def xP : Nat := 18536486914334208513
def mulX (a : Nat) : Nat := if a < 9223372036854775808 then 2 * a else (2 * a) ^^^ xP
theorem lin_basis (f : BitVec 64 → BitVec 64) (hf : ∀ x y, f (x ^^^ y) = f x ^^^ f y) (hb : ∀ i, i < 64 → f (BitVec.ofNat 64 (2 ^ i)) = 0) : ∀ x, f x = 0 := by
  have h0 : f 0 = 0 := by
    have := hf 0 0
    rw [x0, BitVec.xor_self] at this
    exact this
  have h : ∀ n, n ≤ 64 → ∀ x : Nat, x < 2 ^ n → f (BitVec.ofNat 64 x) = 0 := by
    intro n
    induction n with
    | zero => intro _ x hx; have : x = 0 := by omega
              subst this; exact h0
    | succ n ih =>
      intro hn x hx
      by_cases hl : x < 2 ^ n
      · exact ih (by omega) x hl
      · have e : x = 2 ^ n ^^^ (x - 2 ^ n) := by
          have h2 : x - 2 ^ n < 2 ^ n := by rw [Nat.pow_succ] at hx; omega
          have e1 := Nat.two_pow_add_eq_or_of_lt h2 1
          rw [Nat.mul_one] at e1
          apply Nat.eq_of_testBit_eq
          intro i
          have e2 : x = 2 ^ n ||| (x - 2 ^ n) := by rw [← e1]; omega
          rw [Nat.testBit_xor]
          conv => lhs; rw [e2]
          rw [Nat.testBit_or, Nat.testBit_two_pow]
          by_cases hi : n = i
          · subst hi
            simp [Nat.testBit_lt_two_pow h2]
          · simp [hi]
        rw [e, show BitVec.ofNat 64 (2 ^ n ^^^ (x - 2 ^ n)) = BitVec.ofNat 64 (2 ^ n) ^^^ BitVec.ofNat 64 (x - 2 ^ n) from by simp, hf, hb n (by omega), ih (by omega) _ (by rw [Nat.pow_succ] at hx; omega)]
        simp
  intro x
  have := h 64 (Nat.le_refl _) x.toNat x.isLt
  rwa [BitVec.ofNat_toNat, BitVec.setWidth_eq] at this
theorem ch_basis : ∀ i, i < 64 → act 65 xP (BitVec.ofNat 64 (2 ^ i)) = 0 := by decide +kernel
theorem ch (x : BitVec 64) : act 65 xP x = 0 := lin_basis (act 65 xP) (act_xor 65 xP) ch_basis x
theorem mulX_lt (a : Nat) (h : a < 2 ^ 64) : mulX a < 2 ^ 64 := by
  unfold mulX
  split
  · omega
  · have e : (2 * a) ^^^ xP = (2 * a - 2 ^ 64) ^^^ (xP - 2 ^ 64) := by
      have h1 : ∀ y, y < 2 ^ 64 → 2 ^ 64 + y = 2 ^ 64 ^^^ y := by
        intro y hy
        have e1 := Nat.two_pow_add_eq_or_of_lt hy 1
        rw [Nat.mul_one] at e1
        rw [e1]
        apply Nat.eq_of_testBit_eq
        intro i
        rw [Nat.testBit_xor, Nat.testBit_or, Nat.testBit_two_pow]
        by_cases hi : 64 = i
        · subst hi
          simp [Nat.testBit_lt_two_pow hy]
        · simp [hi]
      have e1 := h1 (2 * a - 2 ^ 64) (by omega)
      have e2 : xP = 2 ^ 64 ^^^ (xP - 2 ^ 64) := by decide +kernel
      rw [show 2 ^ 64 + (2 * a - 2 ^ 64) = 2 * a by omega] at e1
      have e3 : ∀ p u v : Nat, (p ^^^ u) ^^^ (p ^^^ v) = u ^^^ v := by
        intro p u v
        have : (p ^^^ u) ^^^ (p ^^^ v) = (p ^^^ p) ^^^ (u ^^^ v) := by ac_rfl
        rw [this, Nat.xor_self, Nat.zero_xor]
      conv => lhs; rw [e1, e2]
      exact e3 _ _ _
    rw [e]
    exact Nat.xor_lt_two_pow (by omega) (by decide +kernel)
theorem act_mulX (a : Nat) (h : a < 2 ^ 64) (x : BitVec 64) : act 64 (mulX a) x = xT (act 64 a x) := by
  have e : act 65 (2 * a) x = act 64 a (xT x) := by
    rw [act, show 2 * a % 2 = 0 by omega, if_neg (by omega), show 2 * a / 2 = a by omega, z0]
  rw [← act_T, ← e, ← act_more 64 _ x (mulX_lt a h)]
  unfold mulX
  split
  · rfl
  · rw [act_add, ch, x0]
/-- Horner's way over the bits of a, from bit n - 1 down. -/
def mulG : Nat → Nat → Nat → Nat → Nat
  | 0, _, _, r => r
  | n + 1, a, b, r => mulG n a b (if (a / 2 ^ n) % 2 = 1 then mulX r ^^^ b else mulX r)
theorem mulG_lt (n : Nat) : ∀ a b r, b < 2 ^ 64 → r < 2 ^ 64 → mulG n a b r < 2 ^ 64 := by
  induction n with
  | zero => intro a b r _ hr; exact hr
  | succ n ih =>
    intro a b r hb hr
    refine ih _ _ _ hb ?_
    split
    · exact Nat.xor_lt_two_pow (mulX_lt r hr) hb
    · exact mulX_lt r hr
/-- What is read of a's low n bits. -/
theorem act_low (n : Nat) : ∀ a x, act n a x = act n (a % 2 ^ n) x := by
  induction n with
  | zero => intro a x; rfl
  | succ n ih =>
    intro a x
    rw [act, act, ih (a / 2), ih (a % 2 ^ (n + 1) / 2)]
    have h1 : a % 2 ^ (n + 1) % 2 = a % 2 := by rw [Nat.pow_succ]; exact Nat.mod_mod_of_dvd _ (Nat.dvd_mul_left _ _)
    have h2 : a % 2 ^ (n + 1) / 2 % 2 ^ n = a / 2 % 2 ^ n := by
      rw [Nat.pow_succ, Nat.mul_comm, Nat.mod_mul_right_div_self, Nat.mod_mod]
    rw [h1, h2]
theorem act_top (n : Nat) : ∀ a x, act (n + 1) a x = act n a x ^^^ (if (a / 2 ^ n) % 2 = 1 then it n x else 0) := by
  induction n with
  | zero => intro a x; simp [act, it]
  | succ n ih =>
    intro a x
    rw [act, ih (a / 2) (xT x)]
    conv => rhs; rw [act]
    rw [show a / 2 / 2 ^ n = a / 2 ^ (n + 1) from by rw [Nat.div_div_eq_div_mul, Nat.pow_succ, Nat.mul_comm]]
    simp only [it]
    ac_rfl
theorem mulG_act (n : Nat) : ∀ a b r x, b < 2 ^ 64 → r < 2 ^ 64 → act 64 (mulG n a b r) x = it n (act 64 r x) ^^^ act n a (act 64 b x) := by
  induction n with
  | zero => intro a b r x _ _; exact (x0 _).symm
  | succ n ih =>
    intro a b r x hb hr
    rw [mulG]
    by_cases h : (a / 2 ^ n) % 2 = 1
    · rw [if_pos h, ih _ _ _ _ hb (Nat.xor_lt_two_pow (mulX_lt r hr) hb), act_add, act_mulX r hr, act_top n a, if_pos h]
      have hl : ∀ u v, it n (u ^^^ v) = it n u ^^^ it n v := by
        clear ih h
        induction n with
        | zero => intro u v; rfl
        | succ n ih => intro u v; show it n (xT (u ^^^ v)) = _; rw [xT_xor, ih]; rfl
      rw [hl]
      simp only [it]
      ac_rfl
    · rw [if_neg h, ih _ _ _ _ hb (mulX_lt r hr), act_mulX r hr, act_top n a, if_neg h, x0]
      rfl
def mulP (a b : Nat) : Nat := mulG 64 a b 0
theorem mulP_lt (a b : Nat) (hb : b < 2 ^ 64) : mulP a b < 2 ^ 64 := mulG_lt 64 a b 0 hb (by decide)
theorem mulP_act (a b : Nat) (hb : b < 2 ^ 64) (x : BitVec 64) : act 64 (mulP a b) x = act 64 a (act 64 b x) := by
  unfold mulP
  rw [mulG_act 64 a b 0 x hb (by decide), act_zero, it_zero, z0]
/-- The power of the step, as a polynomial. -/
def pw : Nat → Nat → Nat
  | 0, _ => 1
  | f + 1, n => if n = 0 then 1 else if n % 2 = 1 then mulX (mulP (pw f (n / 2)) (pw f (n / 2))) else mulP (pw f (n / 2)) (pw f (n / 2))
theorem pw_lt (f : Nat) : ∀ n, pw f n < 2 ^ 64 := by
  induction f with
  | zero => intro n; exact (by decide : 1 < 2 ^ 64)
  | succ f ih =>
    intro n
    rw [pw]
    split
    · decide
    split
    · exact mulX_lt _ (mulP_lt _ _ (ih _))
    · exact mulP_lt _ _ (ih _)
theorem act_one (x : BitVec 64) : act 64 1 x = x := by
  rw [act, if_pos (by decide), show 1 / 2 = 0 from rfl, act_zero, x0]
theorem pw_act (f : Nat) : ∀ n x, n < 2 ^ f → act 64 (pw f n) x = it n x := by
  induction f with
  | zero => intro n x h; have : n = 0 := by omega
            subst this; exact act_one x
  | succ f ih =>
    intro n x h
    rw [pw]
    split
    · rename_i h0; subst h0; exact act_one x
    have hh : act 64 (mulP (pw f (n / 2)) (pw f (n / 2))) x = it (n / 2 + n / 2) x := by
      rw [mulP_act _ _ (pw_lt f _), ih _ _ (by omega), ih _ _ (by omega), it_add]
    split
    · rw [act_mulX _ (mulP_lt _ _ (pw_lt f _)), hh, ← it_T]
      show it (n / 2 + n / 2 + 1) x = it n x
      rw [show n / 2 + n / 2 + 1 = n by omega]
    · rw [hh, show n / 2 + n / 2 = n by omega]
end Go.Proofs.YtohmejfpebjlaaaGreatDoor
