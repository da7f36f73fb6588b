import Derived.Test.YtmogemcbbcmeoabFlg
import Derived.Test.YtmogemcbbcmeoabLawTF
import Derived.Deep.RegionWith
import Derived.Deep.QuietTactic
import Derived.BigQuiet
namespace Go.Proofs.Ytmogemcbbcmeoab
open Go.ChangeShapes Go.WideShapes Go.ChangeAt Go.RowKit

/-- Whether an entry's flags let an access. -/
def mayV (e acc : Int) (user : Bool) : Bool :=
  decide ((if acc = 2 then e / 4 % 2 else if acc = 3 then e / 8 % 2 else e / 2 % 2) = 1) && (if user then decide (e / 16 % 2 = 1) else (decide (acc ≠ 3) || decide (e / 16 % 2 = 0)))
theorem l03Acc_yes (acc : Int) (w : World) (h1 : 1 ≤ acc) (h2 : acc ≤ 3) :
    Calls Try.prog 35 #[.int .i64 acc] w fun e w' => e = .returned (.bool true) ∧ w' = w := by
  obtain rfl | rfl | rfl : acc = 1 ∨ acc = 2 ∨ acc = 3 := by omega
  all_goals
    go_enter Try.func35, Try.ntmps35
    go_wp2
    go_ret
    exact ⟨rfl, rfl⟩
theorem l03Acc_no (acc : Int) (w : World) (h : ¬ (1 ≤ acc ∧ acc ≤ 3)) :
    Calls Try.prog 35 #[.int .i64 acc] w fun e w' => e = .returned (.bool false) ∧ w' = w := by
  have h1 : (acc == 1) = false := by simp; omega
  have h2 : (acc == 2) = false := by simp; omega
  have h3 : (acc == 3) = false := by simp; omega
  clear h
  go_enter Try.func35, Try.ntmps35
  go_wp2
  go_ret
  exact ⟨rfl, rfl⟩
theorem l03May_any (e acc : Int) (user : Bool) (w : World) (h0 : 0 ≤ e) (h1 : e ≤ 4294967295) (a1 : 1 ≤ acc) (a2 : acc ≤ 3) :
    Calls Try.prog 37 #[.int .i64 e, .int .i64 acc, .bool user] w fun x w' => x = .returned (.bool (mayV e acc user)) ∧ w' = w := by
  have e2 : Hid _ := and2 e h0 (by omega)
  have e4 : Hid _ := and4 e h0 (by omega)
  have e8 : Hid _ := and8 e h0 (by omega)
  have e16 : Hid _ := and16 e h0 (by omega)
  by_cases f16 : e / 16 % 2 = 0
  · have g16 : (bits .and .i64 e 16 == 0) = true := by rw [e16.out, f16]; rfl
    obtain rfl | rfl | rfl : acc = 1 ∨ acc = 2 ∨ acc = 3 := by omega
    · by_cases f : e / 2 % 2 = 0
      · have g : (bits .and .i64 e 2 == 0) = true := by rw [e2.out, f]; rfl
        have E : Hid (mayV e 1 user = false) := by
          show mayV e 1 user = false
          simp [mayV, f]
        clear f f16
        go_enter Try.func37, Try.ntmps37
        go_wp2
        go_ret
        exact ⟨ret_bool E.out.symm, rfl⟩
      · have g : (bits .and .i64 e 2 == 0) = false := by rw [e2.out]; simp; omega
        have E : Hid (mayV e 1 user = !user) := by
          show mayV e 1 user = _
          have : e / 2 % 2 = 1 := by omega
          cases user <;> simp [mayV, this, f16]
        clear f f16
        cases user
        all_goals
          go_enter Try.func37, Try.ntmps37
          go_wp2
          go_ret
          exact ⟨ret_bool (by rw [E.out] <;> simp_all), rfl⟩
    · by_cases f : e / 4 % 2 = 0
      · have g : (bits .and .i64 e 4 == 0) = true := by rw [e4.out, f]; rfl
        have E : Hid (mayV e 2 user = false) := by
          show mayV e 2 user = false
          simp [mayV, f]
        clear f f16
        go_enter Try.func37, Try.ntmps37
        go_wp2
        go_ret
        exact ⟨ret_bool E.out.symm, rfl⟩
      · have g : (bits .and .i64 e 4 == 0) = false := by rw [e4.out]; simp; omega
        have E : Hid (mayV e 2 user = !user) := by
          show mayV e 2 user = _
          have : e / 4 % 2 = 1 := by omega
          cases user <;> simp [mayV, this, f16]
        clear f f16
        cases user
        all_goals
          go_enter Try.func37, Try.ntmps37
          go_wp2
          go_ret
          exact ⟨ret_bool (by rw [E.out] <;> simp_all), rfl⟩
    · by_cases f : e / 8 % 2 = 0
      · have g : (bits .and .i64 e 8 == 0) = true := by rw [e8.out, f]; rfl
        have E : Hid (mayV e 3 user = false) := by
          show mayV e 3 user = false
          simp [mayV, f]
        clear f f16
        go_enter Try.func37, Try.ntmps37
        go_wp2
        go_ret
        exact ⟨ret_bool E.out.symm, rfl⟩
      · have g : (bits .and .i64 e 8 == 0) = false := by rw [e8.out]; simp; omega
        have E : Hid (mayV e 3 user = !user) := by
          show mayV e 3 user = _
          have : e / 8 % 2 = 1 := by omega
          cases user <;> simp [mayV, this, f16]
        clear f f16
        cases user
        all_goals
          go_enter Try.func37, Try.ntmps37
          go_wp2
          go_ret
          exact ⟨ret_bool (by rw [E.out] <;> simp_all), rfl⟩
  · have g16 : (bits .and .i64 e 16 == 0) = false := by rw [e16.out]; simp; omega
    have f1 : e / 16 % 2 = 1 := by omega
    obtain rfl | rfl | rfl : acc = 1 ∨ acc = 2 ∨ acc = 3 := by omega
    · by_cases f : e / 2 % 2 = 0
      · have g : (bits .and .i64 e 2 == 0) = true := by rw [e2.out, f]; rfl
        have E : Hid (mayV e 1 user = false) := by
          show mayV e 1 user = false
          simp [mayV, f]
        clear f f16 f1
        go_enter Try.func37, Try.ntmps37
        go_wp2
        go_ret
        exact ⟨ret_bool E.out.symm, rfl⟩
      · have g : (bits .and .i64 e 2 == 0) = false := by rw [e2.out]; simp; omega
        have E : Hid (mayV e 1 user = true) := by
          show mayV e 1 user = _
          have : e / 2 % 2 = 1 := by omega
          cases user <;> simp [mayV, this, f1]
        clear f f16 f1
        cases user
        all_goals
          go_enter Try.func37, Try.ntmps37
          go_wp2
          go_ret
          exact ⟨ret_bool (by rw [E.out] <;> simp_all), rfl⟩
    · by_cases f : e / 4 % 2 = 0
      · have g : (bits .and .i64 e 4 == 0) = true := by rw [e4.out, f]; rfl
        have E : Hid (mayV e 2 user = false) := by
          show mayV e 2 user = false
          simp [mayV, f]
        clear f f16 f1
        go_enter Try.func37, Try.ntmps37
        go_wp2
        go_ret
        exact ⟨ret_bool E.out.symm, rfl⟩
      · have g : (bits .and .i64 e 4 == 0) = false := by rw [e4.out]; simp; omega
        have E : Hid (mayV e 2 user = true) := by
          show mayV e 2 user = _
          have : e / 4 % 2 = 1 := by omega
          cases user <;> simp [mayV, this, f1]
        clear f f16 f1
        cases user
        all_goals
          go_enter Try.func37, Try.ntmps37
          go_wp2
          go_ret
          exact ⟨ret_bool (by rw [E.out] <;> simp_all), rfl⟩
    · by_cases f : e / 8 % 2 = 0
      · have g : (bits .and .i64 e 8 == 0) = true := by rw [e8.out, f]; rfl
        have E : Hid (mayV e 3 user = false) := by
          show mayV e 3 user = false
          simp [mayV, f]
        clear f f16 f1
        go_enter Try.func37, Try.ntmps37
        go_wp2
        go_ret
        exact ⟨ret_bool E.out.symm, rfl⟩
      · have g : (bits .and .i64 e 8 == 0) = false := by rw [e8.out]; simp; omega
        have E : Hid (mayV e 3 user = user) := by
          show mayV e 3 user = _
          have : e / 8 % 2 = 1 := by omega
          cases user <;> simp [mayV, this, f1]
        clear f f16 f1
        cases user
        all_goals
          go_enter Try.func37, Try.ntmps37
          go_wp2
          go_ret
          exact ⟨ret_bool (by rw [E.out] <;> simp_all), rfl⟩
theorem isVirtual_any (r : Int) (w : World) : Calls Try.prog 40 #[.int .i64 r] w fun x w' => x = .returned (.bool (decide (0 ≤ r) && decide (r < 262144))) ∧ w' = w := by
  by_cases h : 0 ≤ r
  all_goals
    go_enter Try.func40, Try.ntmps40
    go_wp2
    go_ret
    exact ⟨ret_bool (by simp; try omega), rfl⟩
theorem isAccess_yes (acc : Int) (w : World) (h1 : 1 ≤ acc) (h2 : acc ≤ 3) :
    Calls Try.prog 41 #[.int .i64 acc] w fun e w' => e = .returned (.bool true) ∧ w' = w := by
  obtain rfl | rfl | rfl : acc = 1 ∨ acc = 2 ∨ acc = 3 := by omega
  all_goals
    go_enter Try.func41, Try.ntmps41
    go_wp2
    go_ret
    exact ⟨rfl, rfl⟩
theorem isAccess_no (acc : Int) (w : World) (h : ¬ (1 ≤ acc ∧ acc ≤ 3)) :
    Calls Try.prog 41 #[.int .i64 acc] w fun e w' => e = .returned (.bool false) ∧ w' = w := by
  have h1 : (acc == 1) = false := by simp; omega
  have h2 : (acc == 2) = false := by simp; omega
  have h3 : (acc == 3) = false := by simp; omega
  clear h
  go_enter Try.func41, Try.ntmps41
  go_wp2
  go_ret
  exact ⟨rfl, rfl⟩
set_option maxHeartbeats 4000000 in
theorem lets_any (e acc : Int) (user : Bool) (w : World) (h0 : 0 ≤ e) (h1 : e ≤ 4294967295) (a1 : 1 ≤ acc) (a2 : acc ≤ 3) :
    Calls Try.prog 45 #[.int .i64 e, .int .i64 acc, .bool user] w fun x w' => x = .returned (.bool (mayV e acc user)) ∧ Below w.heap.size w w' := by
  have e2 : Hid _ := and2 e h0 (by omega)
  have e4 : Hid _ := and4 e h0 (by omega)
  have e8 : Hid _ := and8 e h0 (by omega)
  have e16 : Hid _ := and16 e h0 (by omega)
  by_cases f16 : e / 16 % 2 = 0
  · have g16 : bits .and .i64 e 16 = 0 := e16.out.trans (by omega)
    obtain rfl | rfl | rfl : acc = 1 ∨ acc = 2 ∨ acc = 3 := by omega
    · by_cases f : e / 2 % 2 = 0
      · have g : bits .and .i64 e 2 = 0 := e2.out.trans (by omega)
        have E : Hid (mayV e 1 user = false) := by
          show mayV e 1 user = false
          simp [mayV, f]
        clear f f16
        go_enter Try.func45, Try.ntmps45
        go_wp2
        go_ret
        exact ⟨ret_bool E.out.symm, (Below.refl _ _).alloc (Nat.le_refl _) _⟩
      · have g : bits .and .i64 e 2 = 2 := e2.out.trans (by omega)
        have E : Hid (mayV e 1 user = (!user)) := by
          show mayV e 1 user = _
          have : e / 2 % 2 = 1 := by omega
          cases user <;> simp [mayV, this, f16]
        clear f f16
        cases user
        all_goals
          go_enter Try.func45, Try.ntmps45
          go_wp2
          go_ret
          exact ⟨ret_bool (by rw [E.out] <;> rfl), (Below.refl _ _).alloc (Nat.le_refl _) _⟩
    · by_cases f : e / 4 % 2 = 0
      · have g : bits .and .i64 e 4 = 0 := e4.out.trans (by omega)
        have E : Hid (mayV e 2 user = false) := by
          show mayV e 2 user = false
          simp [mayV, f]
        clear f f16
        go_enter Try.func45, Try.ntmps45
        go_wp2
        go_ret
        exact ⟨ret_bool E.out.symm, (Below.refl _ _).alloc (Nat.le_refl _) _⟩
      · have g : bits .and .i64 e 4 = 4 := e4.out.trans (by omega)
        have E : Hid (mayV e 2 user = (!user)) := by
          show mayV e 2 user = _
          have : e / 4 % 2 = 1 := by omega
          cases user <;> simp [mayV, this, f16]
        clear f f16
        cases user
        all_goals
          go_enter Try.func45, Try.ntmps45
          go_wp2
          go_ret
          exact ⟨ret_bool (by rw [E.out] <;> rfl), (Below.refl _ _).alloc (Nat.le_refl _) _⟩
    · by_cases f : e / 8 % 2 = 0
      · have g : bits .and .i64 e 8 = 0 := e8.out.trans (by omega)
        have E : Hid (mayV e 3 user = false) := by
          show mayV e 3 user = false
          simp [mayV, f]
        clear f f16
        go_enter Try.func45, Try.ntmps45
        go_wp2
        go_ret
        exact ⟨ret_bool E.out.symm, (Below.refl _ _).alloc (Nat.le_refl _) _⟩
      · have g : bits .and .i64 e 8 = 8 := e8.out.trans (by omega)
        have E : Hid (mayV e 3 user = (!user)) := by
          show mayV e 3 user = _
          have : e / 8 % 2 = 1 := by omega
          cases user <;> simp [mayV, this, f16]
        clear f f16
        cases user
        all_goals
          go_enter Try.func45, Try.ntmps45
          go_wp2
          go_ret
          exact ⟨ret_bool (by rw [E.out] <;> rfl), (Below.refl _ _).alloc (Nat.le_refl _) _⟩
  · have g16 : bits .and .i64 e 16 = 16 := e16.out.trans (by omega)
    replace f16 : e / 16 % 2 = 1 := by omega
    obtain rfl | rfl | rfl : acc = 1 ∨ acc = 2 ∨ acc = 3 := by omega
    · by_cases f : e / 2 % 2 = 0
      · have g : bits .and .i64 e 2 = 0 := e2.out.trans (by omega)
        have E : Hid (mayV e 1 user = false) := by
          show mayV e 1 user = false
          simp [mayV, f]
        clear f f16
        go_enter Try.func45, Try.ntmps45
        go_wp2
        go_ret
        exact ⟨ret_bool E.out.symm, (Below.refl _ _).alloc (Nat.le_refl _) _⟩
      · have g : bits .and .i64 e 2 = 2 := e2.out.trans (by omega)
        have E : Hid (mayV e 1 user = (true)) := by
          show mayV e 1 user = _
          have : e / 2 % 2 = 1 := by omega
          cases user <;> simp [mayV, this, f16]
        clear f f16
        cases user
        all_goals
          go_enter Try.func45, Try.ntmps45
          go_wp2
          go_ret
          exact ⟨ret_bool (by rw [E.out] <;> rfl), (Below.refl _ _).alloc (Nat.le_refl _) _⟩
    · by_cases f : e / 4 % 2 = 0
      · have g : bits .and .i64 e 4 = 0 := e4.out.trans (by omega)
        have E : Hid (mayV e 2 user = false) := by
          show mayV e 2 user = false
          simp [mayV, f]
        clear f f16
        go_enter Try.func45, Try.ntmps45
        go_wp2
        go_ret
        exact ⟨ret_bool E.out.symm, (Below.refl _ _).alloc (Nat.le_refl _) _⟩
      · have g : bits .and .i64 e 4 = 4 := e4.out.trans (by omega)
        have E : Hid (mayV e 2 user = (true)) := by
          show mayV e 2 user = _
          have : e / 4 % 2 = 1 := by omega
          cases user <;> simp [mayV, this, f16]
        clear f f16
        cases user
        all_goals
          go_enter Try.func45, Try.ntmps45
          go_wp2
          go_ret
          exact ⟨ret_bool (by rw [E.out] <;> rfl), (Below.refl _ _).alloc (Nat.le_refl _) _⟩
    · by_cases f : e / 8 % 2 = 0
      · have g : bits .and .i64 e 8 = 0 := e8.out.trans (by omega)
        have E : Hid (mayV e 3 user = false) := by
          show mayV e 3 user = false
          simp [mayV, f]
        clear f f16
        go_enter Try.func45, Try.ntmps45
        go_wp2
        go_ret
        exact ⟨ret_bool E.out.symm, (Below.refl _ _).alloc (Nat.le_refl _) _⟩
      · have g : bits .and .i64 e 8 = 8 := e8.out.trans (by omega)
        have E : Hid (mayV e 3 user = (user)) := by
          show mayV e 3 user = _
          have : e / 8 % 2 = 1 := by omega
          cases user <;> simp [mayV, this, f16]
        clear f f16
        cases user
        all_goals
          go_enter Try.func45, Try.ntmps45
          go_wp2
          go_ret
          exact ⟨ret_bool (by rw [E.out] <;> rfl), (Below.refl _ _).alloc (Nat.le_refl _) _⟩
end Go.Proofs.Ytmogemcbbcmeoab
