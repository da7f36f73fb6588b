import Derived.Test.YtfagohdmepnkkaaWalkM
import Derived.Test.YtfagohdmepnkkaaJoinedCore
import Derived.Deep.QuietTactic
import Derived.BigQuiet
import Derived.Deep.RegionWith
namespace Go.Proofs.Ytfagohdmepnkkaa
open Go.ChangeShapes Go.WideShapes Go.ChangeAt Go.RowKit

theorem l03Acc_yes (acc : Int) (w : World) (h1 : 1 ≤ acc) (h2 : acc ≤ 3) :
    Calls Try.prog 37 #[.int .i64 acc] w fun e w' => e = .returned (.bool true) ∧ w' = w := by
  obtain rfl | rfl | rfl : acc = 1 ∨ acc = 2 ∨ acc = 3 := by omega
  all_goals
    go_enter Try.func37, Try.ntmps37
    go_wp2
    go_ret
    exact ⟨rfl, rfl⟩
theorem l03Acc_no (acc : Int) (w : World) (h : ¬ (1 ≤ acc ∧ acc ≤ 3)) :
    Calls Try.prog 37 #[.int .i64 acc] w fun e w' => e = .returned (.bool false) ∧ w' = w := by
  have h1 : (acc == 1) = false := by simp; omega
  have h2 : (acc == 2) = false := by simp; omega
  have h3 : (acc == 3) = false := by simp; omega
  clear h
  go_enter Try.func37, Try.ntmps37
  go_wp2
  go_ret
  exact ⟨rfl, rfl⟩
theorem l03May_any (e acc : Int) (user : Bool) (w : World) (h0 : 0 ≤ e) (h1 : e ≤ 4294967295) (a1 : 1 ≤ acc) (a2 : acc ≤ 3) :
    Calls Try.prog 41 #[.int .i64 e, .int .i64 acc, .bool user] w fun x w' => x = .returned (.bool (mayV e acc user)) ∧ w' = w := by
  have e2 : Hid _ := and2 e h0 (by omega)
  have e4 : Hid _ := and4 e h0 (by omega)
  have e8 : Hid _ := and8 e h0 (by omega)
  have e16 : Hid _ := and16 e h0 (by omega)
  by_cases f16 : e / 16 % 2 = 0
  · have g16 : (bits .and .i64 e 16 == 0) = true := by rw [e16.out, f16]; rfl
    obtain rfl | rfl | rfl : acc = 1 ∨ acc = 2 ∨ acc = 3 := by omega
    · by_cases f : e / 2 % 2 = 0
      · have g : (bits .and .i64 e 2 == 0) = true := by rw [e2.out, f]; rfl
        have E : Hid (mayV e 1 user = false) := by
          show mayV e 1 user = false
          simp [mayV, f]
        clear f f16
        go_enter Try.func41, Try.ntmps41
        go_wp2
        go_ret
        exact ⟨ret_bool E.out.symm, rfl⟩
      · have g : (bits .and .i64 e 2 == 0) = false := by rw [e2.out]; simp; omega
        have E : Hid (mayV e 1 user = !user) := by
          show mayV e 1 user = _
          have : e / 2 % 2 = 1 := by omega
          cases user <;> simp [mayV, this, f16]
        clear f f16
        cases user
        all_goals
          go_enter Try.func41, Try.ntmps41
          go_wp2
          go_ret
          exact ⟨ret_bool (by rw [E.out] <;> simp_all), rfl⟩
    · by_cases f : e / 4 % 2 = 0
      · have g : (bits .and .i64 e 4 == 0) = true := by rw [e4.out, f]; rfl
        have E : Hid (mayV e 2 user = false) := by
          show mayV e 2 user = false
          simp [mayV, f]
        clear f f16
        go_enter Try.func41, Try.ntmps41
        go_wp2
        go_ret
        exact ⟨ret_bool E.out.symm, rfl⟩
      · have g : (bits .and .i64 e 4 == 0) = false := by rw [e4.out]; simp; omega
        have E : Hid (mayV e 2 user = !user) := by
          show mayV e 2 user = _
          have : e / 4 % 2 = 1 := by omega
          cases user <;> simp [mayV, this, f16]
        clear f f16
        cases user
        all_goals
          go_enter Try.func41, Try.ntmps41
          go_wp2
          go_ret
          exact ⟨ret_bool (by rw [E.out] <;> simp_all), rfl⟩
    · by_cases f : e / 8 % 2 = 0
      · have g : (bits .and .i64 e 8 == 0) = true := by rw [e8.out, f]; rfl
        have E : Hid (mayV e 3 user = false) := by
          show mayV e 3 user = false
          simp [mayV, f]
        clear f f16
        go_enter Try.func41, Try.ntmps41
        go_wp2
        go_ret
        exact ⟨ret_bool E.out.symm, rfl⟩
      · have g : (bits .and .i64 e 8 == 0) = false := by rw [e8.out]; simp; omega
        have E : Hid (mayV e 3 user = !user) := by
          show mayV e 3 user = _
          have : e / 8 % 2 = 1 := by omega
          cases user <;> simp [mayV, this, f16]
        clear f f16
        cases user
        all_goals
          go_enter Try.func41, Try.ntmps41
          go_wp2
          go_ret
          exact ⟨ret_bool (by rw [E.out] <;> simp_all), rfl⟩
  · have g16 : (bits .and .i64 e 16 == 0) = false := by rw [e16.out]; simp; omega
    have f1 : e / 16 % 2 = 1 := by omega
    obtain rfl | rfl | rfl : acc = 1 ∨ acc = 2 ∨ acc = 3 := by omega
    · by_cases f : e / 2 % 2 = 0
      · have g : (bits .and .i64 e 2 == 0) = true := by rw [e2.out, f]; rfl
        have E : Hid (mayV e 1 user = false) := by
          show mayV e 1 user = false
          simp [mayV, f]
        clear f f16 f1
        go_enter Try.func41, Try.ntmps41
        go_wp2
        go_ret
        exact ⟨ret_bool E.out.symm, rfl⟩
      · have g : (bits .and .i64 e 2 == 0) = false := by rw [e2.out]; simp; omega
        have E : Hid (mayV e 1 user = true) := by
          show mayV e 1 user = _
          have : e / 2 % 2 = 1 := by omega
          cases user <;> simp [mayV, this, f1]
        clear f f16 f1
        cases user
        all_goals
          go_enter Try.func41, Try.ntmps41
          go_wp2
          go_ret
          exact ⟨ret_bool (by rw [E.out] <;> simp_all), rfl⟩
    · by_cases f : e / 4 % 2 = 0
      · have g : (bits .and .i64 e 4 == 0) = true := by rw [e4.out, f]; rfl
        have E : Hid (mayV e 2 user = false) := by
          show mayV e 2 user = false
          simp [mayV, f]
        clear f f16 f1
        go_enter Try.func41, Try.ntmps41
        go_wp2
        go_ret
        exact ⟨ret_bool E.out.symm, rfl⟩
      · have g : (bits .and .i64 e 4 == 0) = false := by rw [e4.out]; simp; omega
        have E : Hid (mayV e 2 user = true) := by
          show mayV e 2 user = _
          have : e / 4 % 2 = 1 := by omega
          cases user <;> simp [mayV, this, f1]
        clear f f16 f1
        cases user
        all_goals
          go_enter Try.func41, Try.ntmps41
          go_wp2
          go_ret
          exact ⟨ret_bool (by rw [E.out] <;> simp_all), rfl⟩
    · by_cases f : e / 8 % 2 = 0
      · have g : (bits .and .i64 e 8 == 0) = true := by rw [e8.out, f]; rfl
        have E : Hid (mayV e 3 user = false) := by
          show mayV e 3 user = false
          simp [mayV, f]
        clear f f16 f1
        go_enter Try.func41, Try.ntmps41
        go_wp2
        go_ret
        exact ⟨ret_bool E.out.symm, rfl⟩
      · have g : (bits .and .i64 e 8 == 0) = false := by rw [e8.out]; simp; omega
        have E : Hid (mayV e 3 user = user) := by
          show mayV e 3 user = _
          have : e / 8 % 2 = 1 := by omega
          cases user <;> simp [mayV, this, f1]
        clear f f16 f1
        cases user
        all_goals
          go_enter Try.func41, Try.ntmps41
          go_wp2
          go_ret
          exact ⟨ret_bool (by rw [E.out] <;> simp_all), rfl⟩
theorem l03Entry_yes (s : ByteArray) (t k : Nat) (w : World) (h : (t + 1) * 256 ≤ s.size) (hk : k ≤ 31) (hs : s.size ≤ 65536) :
    Calls Try.prog 77 #[.string s, .int .i64 t, .int .i64 k] w fun e w' => e = .returned (.tuple #[.int .i64 (wv s (t * 256 + 4 * k)), .bool true]) ∧ ∃ q, w' = w.drewN q := by
  have hc : ¬ ((t : Int) + 1) * 256 > (s.size : Int) := by omega
  have E : Hid ((t : Int) * 256 + 4 * (k : Int) = ((t * 256 + 4 * k : Nat) : Int)) := by
    show _ = _
    omega
  have T : Hid (t ≤ 255) := by
    show t ≤ 255
    omega
  go_enter Try.func77, Try.ntmps77
  go_wp2_with (go_at_call 40; rw [E.out]; refine (l01Word_any _ _ _ (by omega) (by omega)).mono ?_; rintro e w' ⟨rfl, q, rfl⟩)
  exact bodyPost_ret (v := .tuple #[.int .i64 (wv s (t * 256 + 4 * k)), .bool true]) (by simp [results, Try.results77, go_sem]) rfl ⟨rfl, q, rfl⟩
theorem l03Entry_no (s : ByteArray) (t k : Int) (w : World) (h : (s.size : Int) < (t + 1) * 256) (h0 : 0 ≤ t) (h1 : t ≤ 16777216) :
    Calls Try.prog 77 #[.string s, .int .i64 t, .int .i64 k] w fun e w' => e = .returned (.tuple #[.int .i64 0, .bool false]) ∧ w' = w := by
  go_enter Try.func77, Try.ntmps77
  go_wp2
  exact bodyPost_ret (v := .tuple #[.int .i64 0, .bool false]) (by simp [results, Try.results77, go_sem]) rfl ⟨rfl, rfl⟩
end Go.Proofs.Ytfagohdmepnkkaa
