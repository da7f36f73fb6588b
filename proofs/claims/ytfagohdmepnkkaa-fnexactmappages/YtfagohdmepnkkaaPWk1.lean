import Derived.Test.YtfagohdmepnkkaaPMem4
import Derived.Test.YtfagohdmepnkkaaNums2
import Derived.Test.YtfagohdmepnkkaaWalkM
import Derived.Deep.QuietTactic
import Derived.BigQuiet
namespace Go.Proofs.Ytfagohdmepnkkaa
open Go.ChangeShapes Go.WideShapes Go.ChangeAt Go.RowKit

def isFd (f b : Int) : Bool := decide (0 ≤ f ∧ 1 ≤ b ∧ b ≤ 32 - f)
theorem isFd_b {f b : Int} (h : isFd f b = true) : 0 ≤ f ∧ 1 ≤ b ∧ b ≤ 32 - f := by simpa [isFd] using h
set_option maxHeartbeats 400000 in
theorem isField_any (f b : Int) (w : World) (hf : f ≤ 9223372036854775807) :
    Calls Try.prog 128 #[.int .i64 f, .int .i64 b] w fun e w' => e = .returned (.bool (isFd f b)) ∧ w' = w := by
  by_cases h1 : 0 ≤ f
  · by_cases h2 : 1 ≤ b
    · by_cases h4 : b ≤ 32 - f
      · have E : Hid (isFd f b = true) := by show isFd f b = true; simp [isFd]; omega
        go_enter Try.func128, Try.ntmps128
        go_wp2
        go_ret
        exact ⟨ret_bool E.out.symm, rfl⟩
      · have E : Hid (isFd f b = false) := by show isFd f b = false; simp [isFd]; omega
        go_enter Try.func128, Try.ntmps128
        go_wp2
        go_ret
        exact ⟨ret_bool E.out.symm, rfl⟩
    · have E : Hid (isFd f b = false) := by show isFd f b = false; simp [isFd]; omega
      go_enter Try.func128, Try.ntmps128
      go_wp2
      go_ret
      exact ⟨ret_bool E.out.symm, rfl⟩
  · have E : Hid (isFd f b = false) := by show isFd f b = false; simp [isFd]; omega
    go_enter Try.func128, Try.ntmps128
    go_wp2
    go_ret
    exact ⟨ret_bool E.out.symm, rfl⟩
theorem lowBits_any (b : Int) (w : World) (h0 : 0 ≤ b) (h1 : b ≤ 32) :
    Calls Try.prog 129 #[.int .i64 b] w fun e w' => e = .returned (.int .i64 (2 ^ b.toNat - 1)) ∧ w' = w := by
  obtain ⟨p1, p2⟩ := pow_b b h0 h1
  go_enter Try.func129, Try.ntmps129
  go_wp2
  go_ret
  exact ⟨rfl, rfl⟩
theorem implField_yes (n f b : Int) (w : World) (h : isFd f b = true) (h0 : 0 ≤ f) (h1 : 1 ≤ b) (h2 : b ≤ 32 - f) :
    Calls Try.prog 118 #[.int .i64 n, .int .i64 f, .int .i64 b] w fun e w' => e = .returned (.int .i64 (n % 4294967296 / 2 ^ f.toNat % 2 ^ b.toNat)) ∧ ∃ q, w' = w.drewN q := by
  go_enter Try.func118, Try.ntmps118
  go_wp2_with (go_at_call 128; refine (isField_any _ _ _ (by omega)).mono ?_; rintro e w' ⟨rfl, rfl⟩)
  go_quiet (first | (go_at_call 108; exact Calls.quiet_of_same (implWord_any _ _)) | (go_at_call 129; exact Calls.quiet_of_same (lowBits_any _ _ (by omega) (by omega))))
  go_wp2
  go_ret
  exact ⟨ret_int (field_bits n f b h0 h1 h2), nq, rfl⟩
theorem firstIndex_any (va : Nat) (w : World) (hv : va ≤ 262143) :
    Calls Try.prog 98 #[.int .i64 va] w fun e w' => e = .returned (.int .i64 ((va : Int) / 8192)) ∧ ∃ q, w' = w.drewN q := by
  have E : Hid ((va : Int) % 4294967296 / 2 ^ (13 : Int).toNat % 2 ^ (5 : Int).toNat = (va : Int) / 8192) := by
    show (va : Int) % 4294967296 / 8192 % 32 = _
    omega
  have hF := fun w => implField_yes (va : Int) 13 5 w rfl (by omega) (by omega) (by omega)
  rw [E.out] at hF
  clear hv E
  go_enter Try.func98, Try.ntmps98
  go_wp2_with (go_at_call 118; refine Calls.mono (hF _) ?_; rintro e u ⟨rfl, q, rfl⟩)
  go_ret
  exact ⟨rfl, q, rfl⟩
theorem secondIndex_any (va : Nat) (w : World) (hv : va ≤ 262143) :
    Calls Try.prog 104 #[.int .i64 va] w fun e w' => e = .returned (.int .i64 ((va : Int) / 256 % 32)) ∧ ∃ q, w' = w.drewN q := by
  have E : Hid ((va : Int) % 4294967296 / 2 ^ (8 : Int).toNat % 2 ^ (5 : Int).toNat = (va : Int) / 256 % 32) := by
    show (va : Int) % 4294967296 / 256 % 32 = _
    omega
  have hF := fun w => implField_yes (va : Int) 8 5 w rfl (by omega) (by omega) (by omega)
  rw [E.out] at hF
  clear hv E
  go_enter Try.func104, Try.ntmps104
  go_wp2_with (go_at_call 118; refine Calls.mono (hF _) ?_; rintro e u ⟨rfl, q, rfl⟩)
  go_ret
  exact ⟨rfl, q, rfl⟩
theorem frameOf_any (e : Int) (w : World) : Calls Try.prog 103 #[.int .i64 e] w fun x w' => x = .returned (.int .i64 (e / 256)) ∧ w' = w := by
  go_enter Try.func103, Try.ntmps103
  go_wp2
  go_ret
  exact ⟨rfl, rfl⟩
theorem entryPlace_any (t i : Int) (w : World) (h0 : 0 ≤ t) (h1 : t ≤ 16777216) (h2 : 0 ≤ i) (h3 : i ≤ 31) : Calls Try.prog 97 #[.int .i64 t, .int .i64 i] w fun x w' => x = .returned (.int .i64 (t * 256 + i * 4)) ∧ w' = w := by
  go_enter Try.func97, Try.ntmps97
  go_wp2
  go_ret
  exact ⟨rfl, rfl⟩
theorem isTable_any (e : Int) (w : World) (h0 : 0 ≤ e) (h1 : e ≤ 4294967295) : Calls Try.prog 102 #[.int .i64 e] w fun x w' => x = .returned (.bool (decide (e % 16 = 1))) ∧ w' = w := by
  have e15 : bits .and .i64 e 15 = e % 16 := and15 e h0 (by omega)
  go_enter Try.func102, Try.ntmps102
  go_wp2
  go_ret
  exact ⟨ret_bool rfl, rfl⟩
theorem isRoot_any (r : Int) (w : World) : Calls Try.prog 44 #[.int .i64 r] w fun x w' => x = .returned (.bool (decide (0 ≤ r) && decide (r ≤ 255))) ∧ w' = w := by
  by_cases h : 0 ≤ r
  all_goals
    go_enter Try.func44, Try.ntmps44
    go_wp2
    go_ret
    exact ⟨ret_bool (by simp; try omega), rfl⟩
theorem isVirtual_any (r : Int) (w : World) : Calls Try.prog 45 #[.int .i64 r] w fun x w' => x = .returned (.bool (decide (0 ≤ r) && decide (r < 262144))) ∧ w' = w := by
  by_cases h : 0 ≤ r
  all_goals
    go_enter Try.func45, Try.ntmps45
    go_wp2
    go_ret
    exact ⟨ret_bool (by simp; try omega), rfl⟩
theorem isAccess_yes (acc : Int) (w : World) (h1 : 1 ≤ acc) (h2 : acc ≤ 3) :
    Calls Try.prog 46 #[.int .i64 acc] w fun e w' => e = .returned (.bool true) ∧ w' = w := by
  obtain rfl | rfl | rfl : acc = 1 ∨ acc = 2 ∨ acc = 3 := by omega
  all_goals
    go_enter Try.func46, Try.ntmps46
    go_wp2
    go_ret
    exact ⟨rfl, rfl⟩
theorem isAccess_no (acc : Int) (w : World) (h : ¬ (1 ≤ acc ∧ acc ≤ 3)) :
    Calls Try.prog 46 #[.int .i64 acc] w fun e w' => e = .returned (.bool false) ∧ w' = w := by
  have h1 : (acc == 1) = false := by simp; omega
  have h2 : (acc == 2) = false := by simp; omega
  have h3 : (acc == 3) = false := by simp; omega
  clear h
  go_enter Try.func46, Try.ntmps46
  go_wp2
  go_ret
  exact ⟨rfl, rfl⟩
set_option maxHeartbeats 4000000 in
theorem lets_any (e acc : Int) (user : Bool) (w : World) (h0 : 0 ≤ e) (h1 : e ≤ 4294967295) (a1 : 1 ≤ acc) (a2 : acc ≤ 3) :
    Calls Try.prog 88 #[.int .i64 e, .int .i64 acc, .bool user] w fun x w' => x = .returned (.bool (mayV e acc user)) ∧ Below w.heap.size w w' := by
  have e2 : Hid _ := and2 e h0 (by omega)
  have e4 : Hid _ := and4 e h0 (by omega)
  have e8 : Hid _ := and8 e h0 (by omega)
  have e16 : Hid _ := and16 e h0 (by omega)
  by_cases f16 : e / 16 % 2 = 0
  · have g16 : bits .and .i64 e 16 = 0 := e16.out.trans (by omega)
    obtain rfl | rfl | rfl : acc = 1 ∨ acc = 2 ∨ acc = 3 := by omega
    · by_cases f : e / 2 % 2 = 0
      · have g : bits .and .i64 e 2 = 0 := e2.out.trans (by omega)
        have E : Hid (mayV e 1 user = false) := by
          show mayV e 1 user = false
          simp [mayV, f]
        clear f f16
        go_enter Try.func88, Try.ntmps88
        go_wp2
        go_ret
        exact ⟨ret_bool E.out.symm, (Below.refl _ _).alloc (Nat.le_refl _) _⟩
      · have g : bits .and .i64 e 2 = 2 := e2.out.trans (by omega)
        have E : Hid (mayV e 1 user = (!user)) := by
          show mayV e 1 user = _
          have : e / 2 % 2 = 1 := by omega
          cases user <;> simp [mayV, this, f16]
        clear f f16
        cases user
        all_goals
          go_enter Try.func88, Try.ntmps88
          go_wp2
          go_ret
          exact ⟨ret_bool (by rw [E.out] <;> rfl), (Below.refl _ _).alloc (Nat.le_refl _) _⟩
    · by_cases f : e / 4 % 2 = 0
      · have g : bits .and .i64 e 4 = 0 := e4.out.trans (by omega)
        have E : Hid (mayV e 2 user = false) := by
          show mayV e 2 user = false
          simp [mayV, f]
        clear f f16
        go_enter Try.func88, Try.ntmps88
        go_wp2
        go_ret
        exact ⟨ret_bool E.out.symm, (Below.refl _ _).alloc (Nat.le_refl _) _⟩
      · have g : bits .and .i64 e 4 = 4 := e4.out.trans (by omega)
        have E : Hid (mayV e 2 user = (!user)) := by
          show mayV e 2 user = _
          have : e / 4 % 2 = 1 := by omega
          cases user <;> simp [mayV, this, f16]
        clear f f16
        cases user
        all_goals
          go_enter Try.func88, Try.ntmps88
          go_wp2
          go_ret
          exact ⟨ret_bool (by rw [E.out] <;> rfl), (Below.refl _ _).alloc (Nat.le_refl _) _⟩
    · by_cases f : e / 8 % 2 = 0
      · have g : bits .and .i64 e 8 = 0 := e8.out.trans (by omega)
        have E : Hid (mayV e 3 user = false) := by
          show mayV e 3 user = false
          simp [mayV, f]
        clear f f16
        go_enter Try.func88, Try.ntmps88
        go_wp2
        go_ret
        exact ⟨ret_bool E.out.symm, (Below.refl _ _).alloc (Nat.le_refl _) _⟩
      · have g : bits .and .i64 e 8 = 8 := e8.out.trans (by omega)
        have E : Hid (mayV e 3 user = (!user)) := by
          show mayV e 3 user = _
          have : e / 8 % 2 = 1 := by omega
          cases user <;> simp [mayV, this, f16]
        clear f f16
        cases user
        all_goals
          go_enter Try.func88, Try.ntmps88
          go_wp2
          go_ret
          exact ⟨ret_bool (by rw [E.out] <;> rfl), (Below.refl _ _).alloc (Nat.le_refl _) _⟩
  · have g16 : bits .and .i64 e 16 = 16 := e16.out.trans (by omega)
    replace f16 : e / 16 % 2 = 1 := by omega
    obtain rfl | rfl | rfl : acc = 1 ∨ acc = 2 ∨ acc = 3 := by omega
    · by_cases f : e / 2 % 2 = 0
      · have g : bits .and .i64 e 2 = 0 := e2.out.trans (by omega)
        have E : Hid (mayV e 1 user = false) := by
          show mayV e 1 user = false
          simp [mayV, f]
        clear f f16
        go_enter Try.func88, Try.ntmps88
        go_wp2
        go_ret
        exact ⟨ret_bool E.out.symm, (Below.refl _ _).alloc (Nat.le_refl _) _⟩
      · have g : bits .and .i64 e 2 = 2 := e2.out.trans (by omega)
        have E : Hid (mayV e 1 user = (true)) := by
          show mayV e 1 user = _
          have : e / 2 % 2 = 1 := by omega
          cases user <;> simp [mayV, this, f16]
        clear f f16
        cases user
        all_goals
          go_enter Try.func88, Try.ntmps88
          go_wp2
          go_ret
          exact ⟨ret_bool (by rw [E.out] <;> rfl), (Below.refl _ _).alloc (Nat.le_refl _) _⟩
    · by_cases f : e / 4 % 2 = 0
      · have g : bits .and .i64 e 4 = 0 := e4.out.trans (by omega)
        have E : Hid (mayV e 2 user = false) := by
          show mayV e 2 user = false
          simp [mayV, f]
        clear f f16
        go_enter Try.func88, Try.ntmps88
        go_wp2
        go_ret
        exact ⟨ret_bool E.out.symm, (Below.refl _ _).alloc (Nat.le_refl _) _⟩
      · have g : bits .and .i64 e 4 = 4 := e4.out.trans (by omega)
        have E : Hid (mayV e 2 user = (true)) := by
          show mayV e 2 user = _
          have : e / 4 % 2 = 1 := by omega
          cases user <;> simp [mayV, this, f16]
        clear f f16
        cases user
        all_goals
          go_enter Try.func88, Try.ntmps88
          go_wp2
          go_ret
          exact ⟨ret_bool (by rw [E.out] <;> rfl), (Below.refl _ _).alloc (Nat.le_refl _) _⟩
    · by_cases f : e / 8 % 2 = 0
      · have g : bits .and .i64 e 8 = 0 := e8.out.trans (by omega)
        have E : Hid (mayV e 3 user = false) := by
          show mayV e 3 user = false
          simp [mayV, f]
        clear f f16
        go_enter Try.func88, Try.ntmps88
        go_wp2
        go_ret
        exact ⟨ret_bool E.out.symm, (Below.refl _ _).alloc (Nat.le_refl _) _⟩
      · have g : bits .and .i64 e 8 = 8 := e8.out.trans (by omega)
        have E : Hid (mayV e 3 user = (user)) := by
          show mayV e 3 user = _
          have : e / 8 % 2 = 1 := by omega
          cases user <;> simp [mayV, this, f16]
        clear f f16
        cases user
        all_goals
          go_enter Try.func88, Try.ntmps88
          go_wp2
          go_ret
          exact ⟨ret_bool (by rw [E.out] <;> rfl), (Below.refl _ _).alloc (Nat.le_refl _) _⟩
end Go.Proofs.Ytfagohdmepnkkaa
