import Derived.Test.YthncnffnjjclfabRows
import Derived.Test.YthncnffnjjclfabPlain
import Derived.Test.YthncnffnjjclfabNums
import Derived.WalkLawsBesides
namespace Go.Proofs.Ythncnffnjjclfab
open Go.ChangeShapes Go.WideShapes Go.ChangeAt Go.RowKit

/-- A power modulo the prime, squared on its way: what is there times b to the power n. -/
def poL (o b n : Nat) : Nat := if h : n = 0 then o else poL (if n % 2 = 1 then o * b % 2147482763 else o) (b * b % 2147482763) (n / 2)
termination_by n
decreasing_by omega
theorem poL_zero (o b : Nat) : poL o b 0 = o := by rw [poL]; simp
theorem poL_odd (o b n : Nat) (h : n % 2 = 1) : poL o b n = poL (o * b % 2147482763) (b * b % 2147482763) (n / 2) := by
  rw [poL, dif_neg (by omega), if_pos h]
theorem poL_even (o b n : Nat) (h0 : n ≠ 0) (h : ¬ n % 2 = 1) : poL o b n = poL o (b * b % 2147482763) (n / 2) := by
  rw [poL, dif_neg h0, if_neg h]
theorem mul_b {a b : Nat} (h1 : a < 2147482763) (h2 : b < 2147482763) : (a : Int) * (b : Int) ≤ 4611682268466834169 ∧ 0 ≤ (a : Int) * (b : Int) := by
  have h : a * b ≤ 2147482763 * 2147482763 := Nat.mul_le_mul (by omega) (by omega)
  rw [← Int.natCast_mul]
  omega
theorem pow_end (x : Nat) : ((x % 2147482763 : Nat) : Int) = (x : Int) % 2147482763 := by omega
set_option maxRecDepth 100000 in
set_option maxHeartbeats 4000000 in
theorem sealPower_any (b n : Nat) (w : World) (hb : b < 2147482763) (hn : n ≤ 9223372036854775807) :
    Calls Try.prog 71 #[.int .i64 b, .int .i64 n] w fun e w' => e = .returned (.int .i64 (poL 1 b n : Nat)) ∧ w' = w := by
  have HE : Hid (∃ R, poL 1 b n = R) := ⟨_, rfl⟩
  obtain ⟨R, hR⟩ := HE.out
  rw [hR]
  have HR : Hid (poL 1 b n = R) := hR
  clear hR HE
  go_enter Try.func71, Try.ntmps71
  go_wp2
  go_loop [0, 1, 5] (fun x y z => ∃ b n o : Nat, b < 2147482763 ∧ o < 2147482763 ∧ n ≤ 9223372036854775807 ∧ x = .int .i64 b ∧ y = .int .i64 n ∧ z = .int .i64 o ∧ poL o b n = R) (fun _ y _ => (intOf y).toNat)
  case atStart => exact ⟨b, n, 1, hb, by omega, hn, rfl, rfl, rfl, HR.out⟩
  case round =>
    obtain ⟨b, n, o, hb, ho, hn, rfl, rfl, rfl, hp⟩ := hrel
    have HP : Hid (poL o b n = R) := hp
    clear hp HR
    by_cases h0 : n = 0
    · subst h0
      rw [poL_zero] at HP
      go_wp2
      go_ret
      exact ⟨by rw [HP.out]; rfl, rfl⟩
    · have hlt : decide (0 < (n : Int)) = true := decide_eq_true (by omega)
      obtain ⟨m1, m0⟩ := mul_b hb hb
      by_cases h2 : n % 2 = 1
      · obtain ⟨k1, k0⟩ := mul_b ho hb
        have hbit : bits .and .i64 (n : Int) 1 = 1 := by
          have := and_low (n : Int) 1 (by omega) (by omega) (by omega)
          simp at this
          rw [this]
          omega
        rw [poL_odd _ _ _ h2] at HP
        go_wp2
        refine ⟨⟨b * b % 2147482763, n / 2, o * b % 2147482763, Nat.mod_lt _ (by omega), Nat.mod_lt _ (by omega), by omega, by simp, by simp, by simp, HP.out⟩, by simp [intOf]; omega⟩
      · have hbit : bits .and .i64 (n : Int) 1 = 0 := by
          have := and_low (n : Int) 1 (by omega) (by omega) (by omega)
          simp at this
          rw [this]
          omega
        rw [poL_even _ _ _ h0 h2] at HP
        go_wp2
        refine ⟨⟨b * b % 2147482763, n / 2, o, Nat.mod_lt _ (by omega), ho, by omega, by simp, by simp, by simp, HP.out⟩, by simp [intOf]; omega⟩
set_option maxRecDepth 100000 in
set_option maxHeartbeats 4000000 in
theorem l15Power_any (b n : Nat) (w : World) (hb : b < 2147482763) (hn : n ≤ 9223372036854775807) :
    Calls Try.prog 74 #[.int .i64 b, .int .i64 n] w fun e w' => e = .returned (.int .i64 (poL 1 b n : Nat)) ∧ w' = w := by
  have HE : Hid (∃ R, poL 1 b n = R) := ⟨_, rfl⟩
  obtain ⟨R, hR⟩ := HE.out
  rw [hR]
  have HR : Hid (poL 1 b n = R) := hR
  clear hR HE
  go_enter Try.func74, Try.ntmps74
  go_wp2
  go_loop [0, 1, 5] (fun x y z => ∃ b n o : Nat, b < 2147482763 ∧ o < 2147482763 ∧ n ≤ 9223372036854775807 ∧ x = .int .i64 b ∧ y = .int .i64 n ∧ z = .int .i64 o ∧ poL o b n = R) (fun _ y _ => (intOf y).toNat)
  case atStart => exact ⟨b, n, 1, hb, by omega, hn, rfl, rfl, rfl, HR.out⟩
  case round =>
    obtain ⟨b, n, o, hb, ho, hn, rfl, rfl, rfl, hp⟩ := hrel
    have HP : Hid (poL o b n = R) := hp
    clear hp HR
    by_cases h0 : n = 0
    · subst h0
      rw [poL_zero] at HP
      go_wp2
      go_ret
      exact ⟨by rw [HP.out]; rfl, rfl⟩
    · have hlt : decide (0 < (n : Int)) = true := decide_eq_true (by omega)
      obtain ⟨m1, m0⟩ := mul_b hb hb
      by_cases h2 : n % 2 = 1
      · obtain ⟨k1, k0⟩ := mul_b ho hb
        have hbit : (n : Int) % 2 = 1 := by omega
        rw [poL_odd _ _ _ h2] at HP
        go_wp2
        refine ⟨⟨b * b % 2147482763, n / 2, o * b % 2147482763, Nat.mod_lt _ (by omega), Nat.mod_lt _ (by omega), by omega, by simp, by simp, by simp, HP.out⟩, by simp [intOf]; omega⟩
      · have hbit : (n : Int) % 2 = 0 := by omega
        rw [poL_even _ _ _ h0 h2] at HP
        go_wp2
        refine ⟨⟨b * b % 2147482763, n / 2, o, Nat.mod_lt _ (by omega), ho, by omega, by simp, by simp, by simp, HP.out⟩, by simp [intOf]; omega⟩
theorem poL_lt : ∀ (n o b : Nat), o < 2147482763 → poL o b n < 2147482763 := by
  intro n
  induction n using Nat.strongRecOn with
  | ind n ih =>
    intro o b ho
    by_cases h0 : n = 0
    · subst h0
      rw [poL_zero]
      exact ho
    · by_cases h2 : n % 2 = 1
      · rw [poL_odd _ _ _ h2]
        exact ih _ (by omega) _ _ (Nat.mod_lt _ (by omega))
      · rw [poL_even _ _ _ h0 h2]
        exact ih _ (by omega) _ _ ho
theorem poL_eq : ∀ (n o b : Nat), o < 2147482763 → poL o b n = o * b ^ n % 2147482763 := by
  intro n
  induction n using Nat.strongRecOn with
  | ind n ih =>
    intro o b ho
    by_cases h0 : n = 0
    · subst h0
      rw [poL_zero, Nat.pow_zero, Nat.mul_one, Nat.mod_eq_of_lt ho]
    · have hs : b ^ n = (if n % 2 = 1 then b else 1) * (b * b) ^ (n / 2) := by
        rw [← Nat.pow_two, ← Nat.pow_mul]
        split
        · conv => lhs; rw [show n = 1 + 2 * (n / 2) by omega, Nat.pow_add, Nat.pow_one]
        · conv => lhs; rw [show n = 2 * (n / 2) by omega]
          rw [Nat.one_mul]
      by_cases h2 : n % 2 = 1
      · rw [poL_odd _ _ _ h2, ih _ (by omega) _ _ (Nat.mod_lt _ (by omega)), hs, if_pos h2, Nat.mul_mod, Nat.mod_mod, ← Nat.pow_mod, ← Nat.mul_mod, Nat.mul_assoc]
      · rw [poL_even _ _ _ h0 h2, ih _ (by omega) _ _ ho, hs, if_neg h2, Nat.one_mul, Nat.mul_mod, ← Nat.pow_mod, ← Nat.mul_mod]
/-- A number with 4 alone in it is not 0 modulo the prime, which is odd. -/
theorem pow4_ne (n : Nat) : poL 1 4 n ≠ 0 := by
  rw [poL_eq n 1 4 (by omega), Nat.one_mul]
  intro h
  have h1 : Nat.Coprime (4 ^ n) 2147482763 := Nat.Coprime.pow_left n (by decide +kernel)
  have h2 : (2147482763 : Nat) ∣ 4 ^ n := Nat.dvd_of_mod_eq_zero h
  have h3 : Nat.gcd (4 ^ n) 2147482763 = 2147482763 := Nat.gcd_eq_right h2
  rw [Nat.Coprime] at h1
  omega
def scB (s : Int) : Bool := decide (1 ≤ s) && decide (s < 1073741381)
def pubV (s : Int) : Int := if scB s = true then (poL 1 4 s.toNat : Nat) else 0
theorem isSecret_any (s : Int) (w : World) : Calls Try.prog 69 #[.int .i64 s] w fun e w' => e = .returned (.bool (scB s)) ∧ w' = w := by
  unfold scB
  cases h1 : decide (1 ≤ s)
  all_goals go_enter Try.func69, Try.ntmps69
  all_goals go_wp2
  all_goals go_ret
  all_goals exact ⟨rfl, rfl⟩
theorem scB_b {s : Int} (h : scB s = true) : ∃ n : Nat, s = n ∧ 1 ≤ n ∧ n < 1073741381 := by
  simp only [scB, Bool.and_eq_true, decide_eq_true_eq] at h
  exact ⟨s.toNat, by omega, by omega, by omega⟩
theorem implPublic_any (s : Int) (w : World) : Calls Try.prog 28 #[.int .i64 s] w fun e w' => e = .returned (.int .i64 (pubV s)) ∧ w' = w := by
  cases h : scB s
  · have E : Hid (pubV s = 0) := (show pubV s = 0 by simp [pubV, h])
    go_enter Try.func28, Try.ntmps28
    go_wp2_with (go_at_call 69; refine (isSecret_any _ _).mono ?_; rintro e u1 ⟨rfl, hw1⟩; subst hw1)
    go_ret
    exact ⟨ret_int E.out.symm, rfl⟩
  · obtain ⟨n, rfl, n1, n2⟩ := scB_b h
    have E : Hid (pubV n = (poL 1 4 n : Nat)) := (show pubV n = (poL 1 4 n : Nat) by simp [pubV, h])
    have HP : Hid _ := fun u => sealPower_any 4 n u (by omega) (by omega)
    go_enter Try.func28, Try.ntmps28
    go_wp2_with (first | (go_at_call 69; refine (isSecret_any _ _).mono ?_; rintro e u1 ⟨rfl, hw1⟩; subst hw1) | (go_at_call 71; refine Calls.mono (HP.out _) ?_; rintro e u2 ⟨rfl, hw2⟩; rw [hw2]; clear hw2))
    go_ret
    exact ⟨ret_int E.out.symm, rfl⟩
theorem specPublic_any (s : Int) (w : World) : Calls Try.prog 30 #[.int .i64 s] w fun e w' => e = .returned (.int .i64 (pubV s)) ∧ w' = w := by
  cases h : scB s
  · have E : Hid (pubV s = 0) := (show pubV s = 0 by simp [pubV, h])
    cases h1 : decide (s < 1)
    · have h2 : decide (1073741381 ≤ s) = true := by
        have := of_decide_eq_false h1
        simp only [scB, Bool.and_eq_false_iff, decide_eq_false_iff_not] at h
        exact decide_eq_true (by omega)
      clear h
      go_enter Try.func30, Try.ntmps30
      go_wp2
      go_ret
      exact ⟨ret_int E.out.symm, rfl⟩
    · clear h
      go_enter Try.func30, Try.ntmps30
      go_wp2
      go_ret
      exact ⟨ret_int E.out.symm, rfl⟩
  · obtain ⟨n, rfl, n1, n2⟩ := scB_b h
    have E : Hid (pubV n = (poL 1 4 n : Nat)) := (show pubV n = (poL 1 4 n : Nat) by simp [pubV, h])
    have HP : Hid _ := fun u => l15Power_any 4 n u (by omega) (by omega)
    have h1 : decide ((n : Int) < 1) = false := decide_eq_false (by omega)
    have h2 : decide (1073741381 ≤ (n : Int)) = false := decide_eq_false (by omega)
    go_enter Try.func30, Try.ntmps30
    go_wp2_with ((go_at_call 74; refine Calls.mono (HP.out _) ?_; rintro e u2 ⟨rfl, hw2⟩; rw [hw2]; clear hw2))
    go_ret
    exact ⟨ret_int E.out.symm, rfl⟩
end Go.Proofs.Ythncnffnjjclfab
