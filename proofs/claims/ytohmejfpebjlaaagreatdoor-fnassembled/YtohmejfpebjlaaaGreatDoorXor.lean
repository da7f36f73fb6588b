import Derived.Test.YtohmejfpebjlaaaGreatDoorPlain
namespace Go.Proofs.YtohmejfpebjlaaaGreatDoor

def s1 (x : BitVec 64) : BitVec 64 := x ^^^ (x <<< 13)
def s2 (x : BitVec 64) : BitVec 64 := x ^^^ (x >>> 7)
def s3 (x : BitVec 64) : BitVec 64 := x ^^^ (x <<< 17)
/-- One step of the source's mixing number. -/
def xT (x : BitVec 64) : BitVec 64 := s3 (s2 (s1 x))
theorem ac4 (x y a b : BitVec 64) : (x ^^^ y) ^^^ (a ^^^ b) = (x ^^^ a) ^^^ (y ^^^ b) := by ac_rfl
theorem s1_xor (x y : BitVec 64) : s1 (x ^^^ y) = s1 x ^^^ s1 y := by
  unfold s1
  rw [BitVec.shiftLeft_xor_distrib]
  exact ac4 _ _ _ _
theorem s2_xor (x y : BitVec 64) : s2 (x ^^^ y) = s2 x ^^^ s2 y := by
  unfold s2
  rw [BitVec.ushiftRight_xor_distrib]
  exact ac4 _ _ _ _
theorem s3_xor (x y : BitVec 64) : s3 (x ^^^ y) = s3 x ^^^ s3 y := by
  unfold s3
  rw [BitVec.shiftLeft_xor_distrib]
  exact ac4 _ _ _ _
theorem xT_xor (x y : BitVec 64) : xT (x ^^^ y) = xT x ^^^ xT y := by
  unfold xT
  rw [s1_xor, s2_xor, s3_xor]
theorem xT_zero : xT 0 = 0 := by decide
def it : Nat → BitVec 64 → BitVec 64
  | 0, x => x
  | n + 1, x => it n (xT x)
theorem it_T (n : Nat) : ∀ x, it n (xT x) = xT (it n x) := by
  induction n with
  | zero => intro x; rfl
  | succ n ih => intro x; exact ih (xT x)
theorem it_add (m n : Nat) : ∀ x, it (m + n) x = it m (it n x) := by
  induction n with
  | zero => intro x; rfl
  | succ n ih => intro x; exact ih (xT x)
theorem it_zero (n : Nat) : it n 0 = 0 := by
  induction n with
  | zero => rfl
  | succ n ih => show it n (xT 0) = 0; rw [xT_zero]; exact ih
/-- A polynomial (its bits) of the step, at a number. -/
def act : Nat → Nat → BitVec 64 → BitVec 64
  | 0, _, _ => 0
  | n + 1, a, x => (if a % 2 = 1 then x else 0) ^^^ act n (a / 2) (xT x)
theorem x0 (x : BitVec 64) : x ^^^ 0 = x := by simp
theorem z0 (x : BitVec 64) : (0 : BitVec 64) ^^^ x = x := by simp
theorem act_xor (n : Nat) : ∀ a x y, act n a (x ^^^ y) = act n a x ^^^ act n a y := by
  induction n with
  | zero => intro a x y; simp [act]
  | succ n ih =>
    intro a x y
    simp only [act]
    rw [xT_xor, ih]
    split
    · ac_rfl
    · simp only [z0]
theorem act_x0 (n a : Nat) : act n a 0 = 0 := by
  have := act_xor n a 0 0
  rw [x0] at this
  have h2 : act n a 0 ^^^ act n a 0 = 0 := by simp
  rw [h2] at this
  exact this
theorem act_T (n : Nat) : ∀ a x, act n a (xT x) = xT (act n a x) := by
  induction n with
  | zero => intro a x; exact xT_zero.symm
  | succ n ih =>
    intro a x
    simp only [act]
    rw [xT_xor, ih]
    split
    · rfl
    · rw [xT_zero]
theorem mod_xor2 (a b : Nat) : (a ^^^ b) % 2 = (a % 2 + b % 2) % 2 := by
  have h := Nat.xor_mod_two_pow (a := a) (b := b) (n := 1)
  rw [Nat.pow_one] at h
  rw [h]
  rcases Nat.mod_two_eq_zero_or_one a with ha | ha <;> rcases Nat.mod_two_eq_zero_or_one b with hb | hb <;> rw [ha, hb] <;> rfl
theorem div_xor2 (a b : Nat) : (a ^^^ b) / 2 = (a / 2) ^^^ (b / 2) := by
  have := Nat.shiftRight_xor_distrib (a := a) (b := b) (i := 1)
  simpa [Nat.shiftRight_succ] using this
theorem act_add (n : Nat) : ∀ a b x, act n (a ^^^ b) x = act n a x ^^^ act n b x := by
  induction n with
  | zero => intro a b x; simp [act]
  | succ n ih =>
    intro a b x
    simp only [act]
    rw [div_xor2, ih, mod_xor2]
    rcases Nat.mod_two_eq_zero_or_one a with ha | ha <;> rcases Nat.mod_two_eq_zero_or_one b with hb | hb <;> simp only [ha, hb]
    · simp
    · simp; ac_rfl
    · simp; ac_rfl
    · have : ∀ u v : BitVec 64, u ^^^ v = (x ^^^ u) ^^^ (x ^^^ v) := by
        intro u v
        have e : (x ^^^ u) ^^^ (x ^^^ v) = (x ^^^ x) ^^^ (u ^^^ v) := by ac_rfl
        rw [e, BitVec.xor_self]; simp
      simp only [Nat.reduceAdd, Nat.reduceMod, if_true, if_false, Nat.zero_ne_one, z0]
      exact this _ _
theorem act_zero (n : Nat) : ∀ x, act n 0 x = 0 := by
  induction n with
  | zero => intro x; rfl
  | succ n ih => intro x; simp [act, ih]
theorem act_more (n : Nat) : ∀ a x, a < 2 ^ n → act (n + 1) a x = act n a x := by
  induction n with
  | zero => intro a x h; have : a = 0 := by omega
            subst this; simp [act]
  | succ n ih =>
    intro a x h
    rw [act, ih (a / 2) (xT x) (by omega)]
    rfl
end Go.Proofs.YtohmejfpebjlaaaGreatDoor
