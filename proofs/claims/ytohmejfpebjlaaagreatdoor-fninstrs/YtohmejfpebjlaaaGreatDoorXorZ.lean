import Derived.Test.YtohmejfpebjlaaaGreatDoorPlain
namespace Go.Proofs.YtohmejfpebjlaaaGreatDoor

def s1 (x : BitVec 64) : BitVec 64 := x ^^^ (x <<< 13)
def s2 (x : BitVec 64) : BitVec 64 := x ^^^ (x >>> 7)
def s3 (x : BitVec 64) : BitVec 64 := x ^^^ (x <<< 17)
/-- One step of the source's mixing number. -/
def xT (x : BitVec 64) : BitVec 64 := s3 (s2 (s1 x))
theorem ac4 (x y a b : BitVec 64) : (x ^^^ y) ^^^ (a ^^^ b) = (x ^^^ a) ^^^ (y ^^^ b) := by ac_rfl
theorem s1_xor (x y : BitVec 64) : s1 (x ^^^ y) = s1 x ^^^ s1 y := by
  unfold s1
  rw [BitVec.shiftLeft_xor_distrib]
  exact ac4 _ _ _ _
theorem s2_xor (x y : BitVec 64) : s2 (x ^^^ y) = s2 x ^^^ s2 y := by
  unfold s2
  rw [BitVec.ushiftRight_xor_distrib]
  exact ac4 _ _ _ _
theorem s3_xor (x y : BitVec 64) : s3 (x ^^^ y) = s3 x ^^^ s3 y := by
  unfold s3
  rw [BitVec.shiftLeft_xor_distrib]
  exact ac4 _ _ _ _
theorem xT_xor (x y : BitVec 64) : xT (x ^^^ y) = xT x ^^^ xT y := by
  unfold xT
  rw [s1_xor, s2_xor, s3_xor]
theorem xT_zero : xT 0 = 0 := by decide
def it : Nat → BitVec 64 → BitVec 64
  | 0, x => x
  | n + 1, x => it n (xT x)
theorem it_T (n : Nat) : ∀ x, it n (xT x) = xT (it n x) := by
  induction n with
  | zero => intro x; rfl
  | succ n ih => intro x; exact ih (xT x)
theorem it_add (m n : Nat) : ∀ x, it (m + n) x = it m (it n x) := by
  induction n with
  | zero => intro x; rfl
  | succ n ih => intro x; exact ih (xT x)
theorem it_zero (n : Nat) : it n 0 = 0 := by
  induction n with
  | zero => rfl
  | succ n ih => show it n (xT 0) = 0; rw [xT_zero]; exact ih
/-- A polynomial (its bits) of the step, at a number. -/
def act : Nat → Nat → BitVec 64 → BitVec 64
  | 0, _, _ => 0
  | n + 1, a, x => (if a % 2 = 1 then x else 0) ^^^ act n (a / 2) (xT x)
theorem x0 (x : BitVec 64) : x ^^^ 0 = x := by simp
theorem z0 (x : BitVec 64) : (0 : BitVec 64) ^^^ x = x := by simp
theorem act_xor (n : Nat) : ∀ a x y, act n a (x ^^^ y) = act n a x ^^^ act n a y := by
  induction n with
  | zero => intro a x y; simp [act]
  | succ n ih =>
    intro a x y
    simp only [act]
    rw [xT_xor, ih]
    split
    · ac_rfl
    · simp only [z0]
theorem act_x0 (n a : Nat) : act n a 0 = 0 := by
  have := act_xor n a 0 0
  rw [x0] at this
  have h2 : act n a 0 ^^^ act n a 0 = 0 := by simp
  rw [h2] at this
  exact this
theorem act_T (n : Nat) : ∀ a x, act n a (xT x) = xT (act n a x) := by
  induction n with
  | zero => intro a x; exact xT_zero.symm
  | succ n ih =>
    intro a x
    simp only [act]
    rw [xT_xor, ih]
    split
    · rfl
    · rw [xT_zero]
theorem mod_xor2 (a b : Nat) : (a ^^^ b) % 2 = (a % 2 + b % 2) % 2 := by
  have h := Nat.xor_mod_two_pow (a := a) (b := b) (n := 1)
  rw [Nat.pow_one] at h
  rw [h]
  rcases Nat.mod_two_eq_zero_or_one a with ha | ha <;> rcases Nat.mod_two_eq_zero_or_one b with hb | hb <;> rw [ha, hb] <;> rfl
theorem div_xor2 (a b : Nat) : (a ^^^ b) / 2 = (a / 2) ^^^ (b / 2) := by
  have := Nat.shiftRight_xor_distrib (a := a) (b := b) (i := 1)
  simpa [Nat.shiftRight_succ] using this
theorem act_add (n : Nat) : ∀ a b x, act n (a ^^^ b) x = act n a x ^^^ act n b x := by
  induction n with
  | zero => intro a b x; simp [act]
  | succ n ih =>
    intro a b x
    simp only [act]
    rw [div_xor2, ih, mod_xor2]
    rcases Nat.mod_two_eq_zero_or_one a with ha | ha <;> rcases Nat.mod_two_eq_zero_or_one b with hb | hb <;> simp only [ha, hb]
    · simp
    · simp; ac_rfl
    · simp; ac_rfl
    · have : ∀ u v : BitVec 64, u ^^^ v = (x ^^^ u) ^^^ (x ^^^ v) := by
        intro u v
        have e : (x ^^^ u) ^^^ (x ^^^ v) = (x ^^^ x) ^^^ (u ^^^ v) := by ac_rfl
        rw [e, BitVec.xor_self]; simp
      simp only [Nat.reduceAdd, Nat.reduceMod, if_true, if_false, Nat.zero_ne_one, z0]
      exact this _ _
theorem act_zero (n : Nat) : ∀ x, act n 0 x = 0 := by
  induction n with
  | zero => intro x; rfl
  | succ n ih => intro x; simp [act, ih]
theorem act_more (n : Nat) : ∀ a x, a < 2 ^ n → act (n + 1) a x = act n a x := by
  induction n with
  | zero => intro a x h; have : a = 0 := by omega
            subst this; simp [act]
  | succ n ih =>
    intro a x h
    rw [act, ih (a / 2) (xT x) (by omega)]
    rfl
end Go.Proofs.YtohmejfpebjlaaaGreatDoor
namespace Go.Proofs.YtohmejfpebjlaaaGreatDoor

/-- The step's polynomial. -/
def xP : Nat := 18536486914334208513
def mulX (a : Nat) : Nat := if a < 9223372036854775808 then 2 * a else (2 * a) ^^^ xP
theorem lin_basis (f : BitVec 64 → BitVec 64) (hf : ∀ x y, f (x ^^^ y) = f x ^^^ f y) (hb : ∀ i, i < 64 → f (BitVec.ofNat 64 (2 ^ i)) = 0) : ∀ x, f x = 0 := by
  have h0 : f 0 = 0 := by
    have := hf 0 0
    rw [x0, BitVec.xor_self] at this
    exact this
  have h : ∀ n, n ≤ 64 → ∀ x : Nat, x < 2 ^ n → f (BitVec.ofNat 64 x) = 0 := by
    intro n
    induction n with
    | zero => intro _ x hx; have : x = 0 := by omega
              subst this; exact h0
    | succ n ih =>
      intro hn x hx
      by_cases hl : x < 2 ^ n
      · exact ih (by omega) x hl
      · have e : x = 2 ^ n ^^^ (x - 2 ^ n) := by
          have h2 : x - 2 ^ n < 2 ^ n := by rw [Nat.pow_succ] at hx; omega
          have e1 := Nat.two_pow_add_eq_or_of_lt h2 1
          rw [Nat.mul_one] at e1
          apply Nat.eq_of_testBit_eq
          intro i
          have e2 : x = 2 ^ n ||| (x - 2 ^ n) := by rw [← e1]; omega
          rw [Nat.testBit_xor]
          conv => lhs; rw [e2]
          rw [Nat.testBit_or, Nat.testBit_two_pow]
          by_cases hi : n = i
          · subst hi
            simp [Nat.testBit_lt_two_pow h2]
          · simp [hi]
        rw [e, show BitVec.ofNat 64 (2 ^ n ^^^ (x - 2 ^ n)) = BitVec.ofNat 64 (2 ^ n) ^^^ BitVec.ofNat 64 (x - 2 ^ n) from by simp, hf, hb n (by omega), ih (by omega) _ (by rw [Nat.pow_succ] at hx; omega)]
        simp
  intro x
  have := h 64 (Nat.le_refl _) x.toNat x.isLt
  rwa [BitVec.ofNat_toNat, BitVec.setWidth_eq] at this
theorem ch_basis : ∀ i, i < 64 → act 65 xP (BitVec.ofNat 64 (2 ^ i)) = 0 := by decide +kernel
theorem ch (x : BitVec 64) : act 65 xP x = 0 := lin_basis (act 65 xP) (act_xor 65 xP) ch_basis x
theorem mulX_lt (a : Nat) (h : a < 2 ^ 64) : mulX a < 2 ^ 64 := by
  unfold mulX
  split
  · omega
  · have e : (2 * a) ^^^ xP = (2 * a - 2 ^ 64) ^^^ (xP - 2 ^ 64) := by
      have h1 : ∀ y, y < 2 ^ 64 → 2 ^ 64 + y = 2 ^ 64 ^^^ y := by
        intro y hy
        have e1 := Nat.two_pow_add_eq_or_of_lt hy 1
        rw [Nat.mul_one] at e1
        rw [e1]
        apply Nat.eq_of_testBit_eq
        intro i
        rw [Nat.testBit_xor, Nat.testBit_or, Nat.testBit_two_pow]
        by_cases hi : 64 = i
        · subst hi
          simp [Nat.testBit_lt_two_pow hy]
        · simp [hi]
      have e1 := h1 (2 * a - 2 ^ 64) (by omega)
      have e2 : xP = 2 ^ 64 ^^^ (xP - 2 ^ 64) := by decide +kernel
      rw [show 2 ^ 64 + (2 * a - 2 ^ 64) = 2 * a by omega] at e1
      have e3 : ∀ p u v : Nat, (p ^^^ u) ^^^ (p ^^^ v) = u ^^^ v := by
        intro p u v
        have : (p ^^^ u) ^^^ (p ^^^ v) = (p ^^^ p) ^^^ (u ^^^ v) := by ac_rfl
        rw [this, Nat.xor_self, Nat.zero_xor]
      conv => lhs; rw [e1, e2]
      exact e3 _ _ _
    rw [e]
    exact Nat.xor_lt_two_pow (by omega) (by decide +kernel)
theorem act_mulX (a : Nat) (h : a < 2 ^ 64) (x : BitVec 64) : act 64 (mulX a) x = xT (act 64 a x) := by
  have e : act 65 (2 * a) x = act 64 a (xT x) := by
    rw [act, show 2 * a % 2 = 0 by omega, if_neg (by omega), show 2 * a / 2 = a by omega, z0]
  rw [← act_T, ← e, ← act_more 64 _ x (mulX_lt a h)]
  unfold mulX
  split
  · rfl
  · rw [act_add, ch, x0]
/-- Horner's way over the bits of a, from bit n - 1 down. -/
def mulG : Nat → Nat → Nat → Nat → Nat
  | 0, _, _, r => r
  | n + 1, a, b, r => mulG n a b (if (a / 2 ^ n) % 2 = 1 then mulX r ^^^ b else mulX r)
theorem mulG_lt (n : Nat) : ∀ a b r, b < 2 ^ 64 → r < 2 ^ 64 → mulG n a b r < 2 ^ 64 := by
  induction n with
  | zero => intro a b r _ hr; exact hr
  | succ n ih =>
    intro a b r hb hr
    refine ih _ _ _ hb ?_
    split
    · exact Nat.xor_lt_two_pow (mulX_lt r hr) hb
    · exact mulX_lt r hr
/-- What is read of a's low n bits. -/
theorem act_low (n : Nat) : ∀ a x, act n a x = act n (a % 2 ^ n) x := by
  induction n with
  | zero => intro a x; rfl
  | succ n ih =>
    intro a x
    rw [act, act, ih (a / 2), ih (a % 2 ^ (n + 1) / 2)]
    have h1 : a % 2 ^ (n + 1) % 2 = a % 2 := by rw [Nat.pow_succ]; exact Nat.mod_mod_of_dvd _ (Nat.dvd_mul_left _ _)
    have h2 : a % 2 ^ (n + 1) / 2 % 2 ^ n = a / 2 % 2 ^ n := by
      rw [Nat.pow_succ, Nat.mul_comm, Nat.mod_mul_right_div_self, Nat.mod_mod]
    rw [h1, h2]
theorem act_top (n : Nat) : ∀ a x, act (n + 1) a x = act n a x ^^^ (if (a / 2 ^ n) % 2 = 1 then it n x else 0) := by
  induction n with
  | zero => intro a x; simp [act, it]
  | succ n ih =>
    intro a x
    rw [act, ih (a / 2) (xT x)]
    conv => rhs; rw [act]
    rw [show a / 2 / 2 ^ n = a / 2 ^ (n + 1) from by rw [Nat.div_div_eq_div_mul, Nat.pow_succ, Nat.mul_comm]]
    simp only [it]
    ac_rfl
theorem mulG_act (n : Nat) : ∀ a b r x, b < 2 ^ 64 → r < 2 ^ 64 → act 64 (mulG n a b r) x = it n (act 64 r x) ^^^ act n a (act 64 b x) := by
  induction n with
  | zero => intro a b r x _ _; exact (x0 _).symm
  | succ n ih =>
    intro a b r x hb hr
    rw [mulG]
    by_cases h : (a / 2 ^ n) % 2 = 1
    · rw [if_pos h, ih _ _ _ _ hb (Nat.xor_lt_two_pow (mulX_lt r hr) hb), act_add, act_mulX r hr, act_top n a, if_pos h]
      have hl : ∀ u v, it n (u ^^^ v) = it n u ^^^ it n v := by
        clear ih h
        induction n with
        | zero => intro u v; rfl
        | succ n ih => intro u v; show it n (xT (u ^^^ v)) = _; rw [xT_xor, ih]; rfl
      rw [hl]
      simp only [it]
      ac_rfl
    · rw [if_neg h, ih _ _ _ _ hb (mulX_lt r hr), act_mulX r hr, act_top n a, if_neg h, x0]
      rfl
def mulP (a b : Nat) : Nat := mulG 64 a b 0
theorem mulP_lt (a b : Nat) (hb : b < 2 ^ 64) : mulP a b < 2 ^ 64 := mulG_lt 64 a b 0 hb (by decide)
theorem mulP_act (a b : Nat) (hb : b < 2 ^ 64) (x : BitVec 64) : act 64 (mulP a b) x = act 64 a (act 64 b x) := by
  unfold mulP
  rw [mulG_act 64 a b 0 x hb (by decide), act_zero, it_zero, z0]
/-- The power of the step, as a polynomial. -/
def pw : Nat → Nat → Nat
  | 0, _ => 1
  | f + 1, n => if n = 0 then 1 else if n % 2 = 1 then mulX (mulP (pw f (n / 2)) (pw f (n / 2))) else mulP (pw f (n / 2)) (pw f (n / 2))
theorem pw_lt (f : Nat) : ∀ n, pw f n < 2 ^ 64 := by
  induction f with
  | zero => intro n; exact (by decide : 1 < 2 ^ 64)
  | succ f ih =>
    intro n
    rw [pw]
    split
    · decide
    split
    · exact mulX_lt _ (mulP_lt _ _ (ih _))
    · exact mulP_lt _ _ (ih _)
theorem act_one (x : BitVec 64) : act 64 1 x = x := by
  rw [act, if_pos (by decide), show 1 / 2 = 0 from rfl, act_zero, x0]
theorem pw_act (f : Nat) : ∀ n x, n < 2 ^ f → act 64 (pw f n) x = it n x := by
  induction f with
  | zero => intro n x h; have : n = 0 := by omega
            subst this; exact act_one x
  | succ f ih =>
    intro n x h
    rw [pw]
    split
    · rename_i h0; subst h0; exact act_one x
    have hh : act 64 (mulP (pw f (n / 2)) (pw f (n / 2))) x = it (n / 2 + n / 2) x := by
      rw [mulP_act _ _ (pw_lt f _), ih _ _ (by omega), ih _ _ (by omega), it_add]
    split
    · rw [act_mulX _ (mulP_lt _ _ (pw_lt f _)), hh, ← it_T]
      show it (n / 2 + n / 2 + 1) x = it n x
      rw [show n / 2 + n / 2 + 1 = n by omega]
    · rw [hh, show n / 2 + n / 2 = n by omega]
end Go.Proofs.YtohmejfpebjlaaaGreatDoor
namespace Go.Proofs.YtohmejfpebjlaaaGreatDoor

def xN : Nat := 18446744073709551615
theorem pN : pw 64 xN = 1 := by decide +kernel
theorem it_N (x : BitVec 64) : it xN x = x := by rw [← pw_act 64 xN x (by decide), pN, act_one]
theorem not_part (q g : Nat) (hq : xN / q < 2 ^ 64) (hg : mulP g (pw 64 (xN / q) ^^^ 1) = 1) (x : BitVec 64) (h : it (xN / q) x = x) : x = 0 := by
  have e : act 64 (pw 64 (xN / q) ^^^ 1) x = 0 := by
    rw [act_add, act_one, pw_act 64 _ x hq, h, BitVec.xor_self]
    rfl
  rw [← act_one x, ← hg, mulP_act _ _ (Nat.xor_lt_two_pow (pw_lt 64 _) (by decide)), e, act_x0]
theorem g3 : mulP 15511182550047884770 (pw 64 (xN / 3) ^^^ 1) = 1 := by decide +kernel
theorem g5 : mulP 11814715471047095913 (pw 64 (xN / 5) ^^^ 1) = 1 := by decide +kernel
theorem g17 : mulP 7202445018898142789 (pw 64 (xN / 17) ^^^ 1) = 1 := by decide +kernel
theorem g257 : mulP 9031751854939573325 (pw 64 (xN / 257) ^^^ 1) = 1 := by decide +kernel
theorem g641 : mulP 138158124418806406 (pw 64 (xN / 641) ^^^ 1) = 1 := by decide +kernel
theorem g65537 : mulP 17109817795786126257 (pw 64 (xN / 65537) ^^^ 1) = 1 := by decide +kernel
theorem g6700417 : mulP 5204763322158105013 (pw 64 (xN / 6700417) ^^^ 1) = 1 := by decide +kernel
/-- No number from 2 to 2600 but q itself parts q. -/
theorem prime_of (q : Nat) (h2 : q < 6760000) (h : (List.range 2600).all (fun k => decide (k < 2) || decide (q % k ≠ 0) || decide (k = q)) = true) (d : Nat) (hd : d ∣ q) : d = 1 ∨ d = q := by
  have hk : ∀ k, 2 ≤ k → k < 2600 → k ∣ q → k = q := by
    intro k h3 h4 h5
    have := List.all_eq_true.1 h k (by simp; exact h4)
    simp at this
    rcases this with (h6 | h6) | h6
    · omega
    · exact absurd (Nat.mod_eq_zero_of_dvd h5) h6
    · exact h6
  obtain ⟨e, he⟩ := hd
  by_cases h0 : q = 0
  · subst h0
    have := hk 2 (by omega) (by omega) (Nat.dvd_zero 2)
    omega
  by_cases h1 : d = 1
  · exact .inl h1
  refine .inr ?_
  have hd0 : d ≠ 0 := by rintro rfl; simp at he; exact h0 he
  by_cases hs : d < 2600
  · exact hk d (by omega) hs ⟨e, he⟩
  · by_cases he1 : e = 1
    · subst he1; omega
    have he0 : e ≠ 0 := by rintro rfl; simp at he; exact h0 he
    by_cases hs2 : e < 2600
    · have := hk e (by omega) hs2 ⟨d, by rw [he, Nat.mul_comm]⟩
      subst this
      have h9 : 2600 * e ≤ d * e := Nat.mul_le_mul_right e (by omega)
      omega
    · have h9 : 2600 * 2600 ≤ d * e := Nat.mul_le_mul (by omega) (by omega)
      omega
theorem part_or (q : Nat) (hq : ∀ d, d ∣ q → d = 1 ∨ d = q) (h : Nat) : q ∣ h ∨ Nat.gcd h q = 1 := by
  rcases hq (Nat.gcd h q) (Nat.gcd_dvd_right h q) with h1 | h1
  · exact .inr h1
  · exact .inl (h1 ▸ Nat.gcd_dvd_left h q)
theorem it_mul (a x) (h : it a x = x) (n : Nat) : it (a * n) x = x := by
  induction n with
  | zero => rfl
  | succ n ih => rw [Nat.mul_succ, it_add, h, ih]
theorem it_mod (a b x) (ha : it a x = x) (hb : it b x = x) : it (b % a) x = x := by
  have e : it (b % a + a * (b / a)) x = x := by rw [Nat.mod_add_div]; exact hb
  rw [it_add, it_mul a x ha] at e
  exact e
theorem it_gcd (x) : ∀ a b, it a x = x → it b x = x → it (Nat.gcd a b) x = x := by
  intro a b
  induction a, b using Nat.gcd.induction with
  | H0 n => intro _ h; rw [Nat.gcd_zero_left]; exact h
  | H1 m n _ ih =>
    intro ha hb
    rw [Nat.gcd_rec]
    exact ih (it_mod m n x ha hb) ha
theorem short (x : BitVec 64) (d : Nat) (h0 : 0 < d) (h1 : d < xN) (h : it d x = x) : x = 0 := by
  have hg := it_gcd x d xN h (it_N x)
  obtain ⟨c, hc⟩ := Nat.gcd_dvd_right d xN
  have hle : Nat.gcd d xN ≤ d := Nat.le_of_dvd h0 (Nat.gcd_dvd_left d xN)
  generalize Nat.gcd d xN = g at *
  have key : ∀ q k, (∀ d, d ∣ q → d = 1 ∨ d = q) → 0 < q → xN / q < 2 ^ 64 → mulP k (pw 64 (xN / q) ^^^ 1) = 1 → x = 0 ∨ Nat.gcd c q = 1 := by
    intro q k hq hq0 hlt hk
    rcases part_or q hq c with ⟨e, he⟩ | h2
    · refine .inl (not_part q k hlt hk x ?_)
      have : xN / q = g * e := by
        rw [hc, he, show g * (q * e) = q * (g * e) by ac_rfl, Nat.mul_div_cancel_left _ hq0]
      rw [this]
      exact it_mul g x hg e
    · exact .inr h2
  have p := fun q h2 h3 => prime_of q h2 h3
  rcases key 3 _ (p 3 (by decide) (by decide +kernel)) (by decide) (by decide) g3 with hx | c3
  · exact hx
  rcases key 5 _ (p 5 (by decide) (by decide +kernel)) (by decide) (by decide) g5 with hx | c5
  · exact hx
  rcases key 17 _ (p 17 (by decide) (by decide +kernel)) (by decide) (by decide) g17 with hx | c17
  · exact hx
  rcases key 257 _ (p 257 (by decide) (by decide +kernel)) (by decide) (by decide) g257 with hx | c257
  · exact hx
  rcases key 641 _ (p 641 (by decide) (by decide +kernel)) (by decide) (by decide) g641 with hx | c641
  · exact hx
  rcases key 65537 _ (p 65537 (by decide) (by decide +kernel)) (by decide) (by decide) g65537 with hx | c65537
  · exact hx
  rcases key 6700417 _ (p 6700417 (by decide) (by decide +kernel)) (by decide) (by decide) g6700417 with hx | c6700417
  · exact hx
  exfalso
  have hcop : Nat.Coprime c (3 * 5 * 17 * 257 * 641 * 65537 * 6700417) :=
    Nat.Coprime.mul_right (Nat.Coprime.mul_right (Nat.Coprime.mul_right (Nat.Coprime.mul_right (Nat.Coprime.mul_right (Nat.Coprime.mul_right c3 c5) c17) c257) c641) c65537) c6700417
  have hN : (3 * 5 * 17 * 257 * 641 * 65537 * 6700417 : Nat) = xN := by decide
  rw [hN] at hcop
  have hc1 : c ∣ 1 := by
    have : Nat.gcd c xN = 1 := hcop
    rw [← this]
    exact Nat.dvd_gcd (Nat.dvd_refl c) ⟨g, by rw [hc, Nat.mul_comm]⟩
  have : c = 1 := Nat.dvd_one.1 hc1
  subst this
  omega
theorem php : ∀ (m n : Nat) (f : Nat → Nat), (∀ i, i < n → f i < m) → (∀ i j, i < n → j < n → f i = f j → i = j) → n ≤ m := by
  intro m
  induction m with
  | zero =>
    intro n f h _
    by_cases hn : n = 0
    · omega
    · exact absurd (h 0 (by omega)) (by omega)
  | succ m ih =>
    intro n f h hi
    by_cases hn : n = 0
    · omega
    obtain ⟨k, rfl⟩ : ∃ k, n = k + 1 := ⟨n - 1, by omega⟩
    have := ih k (fun i => if f i = m then f k else f i) (by
      intro i hk
      skip
      split
      · rename_i e
        have h1 := h k (by omega)
        have h2 : f k ≠ m := fun e2 => by have := hi i k (by omega) (by omega) (e.trans e2.symm); omega
        omega
      · have := h i (by omega); omega) (by
      intro i j h1 h2 e
      skip
      split at e <;> split at e
      · rename_i e1 e2; exact hi i j (by omega) (by omega) (e1.trans e2.symm)
      · have := hi k j (by omega) (by omega) e; omega
      · have := hi i k (by omega) (by omega) e; omega
      · exact hi i j (by omega) (by omega) e)
    omega
theorem it_inj (n : Nat) (x y : BitVec 64) (hn : n ≤ xN) (h : it n x = it n y) : x = y := by
  have h1 := it_N x
  have h2 := it_N y
  rw [show xN = (xN - n) + n by omega, it_add] at h1 h2
  rw [← h1, ← h2, h]
theorem all_reached (x : BitVec 64) (hx : x ≠ 0) : ∃ k, k < xN ∧ it k x = 1 := by
  refine Classical.byContradiction fun hno => ?_
  have hne : ∀ k, k < xN → it k x ≠ 1 := fun k hk e => hno ⟨k, hk, e⟩
  have hnz : ∀ k, k < xN → it k x ≠ 0 := fun k hk e => hx (it_inj k x 0 (by omega) (by rw [it_zero]; exact e))
  have h2 : ∀ k, k < xN → 2 ≤ (it k x).toNat := by
    intro k hk
    have a0 : (it k x).toNat ≠ 0 := fun e => hnz k hk (BitVec.eq_of_toNat_eq e)
    have a1 : (it k x).toNat ≠ 1 := fun e => hne k hk (BitVec.eq_of_toNat_eq e)
    omega
  have := php (xN - 1) xN (fun k => (it k x).toNat - 2) (by
    intro k hk
    have h3 := h2 k hk
    have h4 := (it k x).isLt
    have h5 : (2 : Nat) ^ 64 = xN + 1 := by decide
    skip
    omega) (by
    intro i j hi hj e
    have h3 := h2 i hi
    have h4 := h2 j hj
    have e2 : it i x = it j x := BitVec.eq_of_toNat_eq (by omega)
    have hcl : ∀ a b, a < b → b < xN → it a x = it b x → False := by
      intro a b hab hb e3
      rw [show b = a + (b - a) by omega, it_add] at e3
      exact hx (short x (b - a) (by omega) (by omega) (it_inj a _ _ (by omega) e3).symm)
    by_cases hlt : i < j
    · exact (hcl i j hlt hj e2).elim
    by_cases hgt : j < i
    · exact (hcl j i hgt hi e2.symm).elim
    · omega)
  have : xN = 18446744073709551615 := rfl
  omega
/-- From whatever mixing number the source comes, behind some steps, to one whose upper bits are off. -/
theorem reach (x : BitVec 64) : ∃ k, 1 ≤ k ∧ (it k x).toNat / 1048576 = 0 := by
  by_cases hx : x = 0
  · subst hx
    exact ⟨1, Nat.le_refl _, by rw [it_zero]; rfl⟩
  obtain ⟨k, hk, e⟩ := all_reached x hx
  by_cases h0 : k = 0
  · subst h0
    refine ⟨xN, by decide, ?_⟩
    rw [it_N, show x = 1 from e]
    rfl
  · exact ⟨k, by omega, by rw [e]; rfl⟩
#print axioms reach
end Go.Proofs.YtohmejfpebjlaaaGreatDoor
