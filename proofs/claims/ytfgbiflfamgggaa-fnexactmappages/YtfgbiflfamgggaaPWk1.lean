import Derived.Test.YtfgbiflfamgggaaPMem4
import Derived.Test.YtfgbiflfamgggaaNums2
import Derived.Deep.QuietTactic
import Derived.BigQuiet
namespace Go.Proofs.Ytfgbiflfamgggaa
open Go.ChangeShapes Go.WideShapes Go.ChangeAt Go.RowKit

def isFd (f b : Int) : Bool := decide (0 ≤ f ∧ 1 ≤ b ∧ b ≤ 32 - f)
theorem isFd_b {f b : Int} (h : isFd f b = true) : 0 ≤ f ∧ 1 ≤ b ∧ b ≤ 32 - f := by simpa [isFd] using h
set_option maxHeartbeats 400000 in
theorem isField_any (f b : Int) (w : World) (hf : f ≤ 9223372036854775807) :
    Calls Try.prog 53 #[.int .i64 f, .int .i64 b] w fun e w' => e = .returned (.bool (isFd f b)) ∧ w' = w := by
  by_cases h1 : 0 ≤ f
  · by_cases h2 : 1 ≤ b
    · by_cases h4 : b ≤ 32 - f
      · have E : Hid (isFd f b = true) := by show isFd f b = true; simp [isFd]; omega
        go_enter Try.func53, Try.ntmps53
        go_wp2
        go_ret
        exact ⟨ret_bool E.out.symm, rfl⟩
      · have E : Hid (isFd f b = false) := by show isFd f b = false; simp [isFd]; omega
        go_enter Try.func53, Try.ntmps53
        go_wp2
        go_ret
        exact ⟨ret_bool E.out.symm, rfl⟩
    · have E : Hid (isFd f b = false) := by show isFd f b = false; simp [isFd]; omega
      go_enter Try.func53, Try.ntmps53
      go_wp2
      go_ret
      exact ⟨ret_bool E.out.symm, rfl⟩
  · have E : Hid (isFd f b = false) := by show isFd f b = false; simp [isFd]; omega
    go_enter Try.func53, Try.ntmps53
    go_wp2
    go_ret
    exact ⟨ret_bool E.out.symm, rfl⟩
theorem lowBits_any (b : Int) (w : World) (h0 : 0 ≤ b) (h1 : b ≤ 32) :
    Calls Try.prog 55 #[.int .i64 b] w fun e w' => e = .returned (.int .i64 (2 ^ b.toNat - 1)) ∧ w' = w := by
  obtain ⟨p1, p2⟩ := pow_b b h0 h1
  go_enter Try.func55, Try.ntmps55
  go_wp2
  go_ret
  exact ⟨rfl, rfl⟩
theorem implField_yes (n f b : Int) (w : World) (h : isFd f b = true) (h0 : 0 ≤ f) (h1 : 1 ≤ b) (h2 : b ≤ 32 - f) :
    Calls Try.prog 48 #[.int .i64 n, .int .i64 f, .int .i64 b] w fun e w' => e = .returned (.int .i64 (n % 4294967296 / 2 ^ f.toNat % 2 ^ b.toNat)) ∧ ∃ q, w' = w.drewN q := by
  go_enter Try.func48, Try.ntmps48
  go_wp2_with (go_at_call 53; refine (isField_any _ _ _ (by omega)).mono ?_; rintro e w' ⟨rfl, rfl⟩)
  go_quiet (first | (go_at_call 54; exact Calls.quiet_of_same (implWord_any _ _)) | (go_at_call 55; exact Calls.quiet_of_same (lowBits_any _ _ (by omega) (by omega))))
  go_wp2
  go_ret
  exact ⟨ret_int (field_bits n f b h0 h1 h2), nq, rfl⟩
theorem firstIndex_any (va : Nat) (w : World) (hv : va ≤ 262143) :
    Calls Try.prog 38 #[.int .i64 va] w fun e w' => e = .returned (.int .i64 ((va : Int) / 8192)) ∧ ∃ q, w' = w.drewN q := by
  have E : Hid ((va : Int) % 4294967296 / 2 ^ (13 : Int).toNat % 2 ^ (5 : Int).toNat = (va : Int) / 8192) := by
    show (va : Int) % 4294967296 / 8192 % 32 = _
    omega
  have hF := fun w => implField_yes (va : Int) 13 5 w rfl (by omega) (by omega) (by omega)
  rw [E.out] at hF
  clear hv E
  go_enter Try.func38, Try.ntmps38
  go_wp2_with (go_at_call 48; refine Calls.mono (hF _) ?_; rintro e u ⟨rfl, q, rfl⟩)
  go_ret
  exact ⟨rfl, q, rfl⟩
theorem secondIndex_any (va : Nat) (w : World) (hv : va ≤ 262143) :
    Calls Try.prog 44 #[.int .i64 va] w fun e w' => e = .returned (.int .i64 ((va : Int) / 256 % 32)) ∧ ∃ q, w' = w.drewN q := by
  have E : Hid ((va : Int) % 4294967296 / 2 ^ (8 : Int).toNat % 2 ^ (5 : Int).toNat = (va : Int) / 256 % 32) := by
    show (va : Int) % 4294967296 / 256 % 32 = _
    omega
  have hF := fun w => implField_yes (va : Int) 8 5 w rfl (by omega) (by omega) (by omega)
  rw [E.out] at hF
  clear hv E
  go_enter Try.func44, Try.ntmps44
  go_wp2_with (go_at_call 48; refine Calls.mono (hF _) ?_; rintro e u ⟨rfl, q, rfl⟩)
  go_ret
  exact ⟨rfl, q, rfl⟩
theorem frameOf_any (e : Int) (w : World) : Calls Try.prog 43 #[.int .i64 e] w fun x w' => x = .returned (.int .i64 (e / 256)) ∧ w' = w := by
  go_enter Try.func43, Try.ntmps43
  go_wp2
  go_ret
  exact ⟨rfl, rfl⟩
theorem entryPlace_any (t i : Int) (w : World) (h0 : 0 ≤ t) (h1 : t ≤ 16777216) (h2 : 0 ≤ i) (h3 : i ≤ 31) : Calls Try.prog 37 #[.int .i64 t, .int .i64 i] w fun x w' => x = .returned (.int .i64 (t * 256 + i * 4)) ∧ w' = w := by
  go_enter Try.func37, Try.ntmps37
  go_wp2
  go_ret
  exact ⟨rfl, rfl⟩
theorem isTable_any (e : Int) (w : World) (h0 : 0 ≤ e) (h1 : e ≤ 4294967295) : Calls Try.prog 42 #[.int .i64 e] w fun x w' => x = .returned (.bool (decide (e % 16 = 1))) ∧ w' = w := by
  have e15 : bits .and .i64 e 15 = e % 16 := and15 e h0 (by omega)
  go_enter Try.func42, Try.ntmps42
  go_wp2
  go_ret
  exact ⟨ret_bool rfl, rfl⟩
theorem isVirtual_any (r : Int) (w : World) : Calls Try.prog 47 #[.int .i64 r] w fun x w' => x = .returned (.bool (decide (0 ≤ r) && decide (r < 262144))) ∧ w' = w := by
  by_cases h : 0 ≤ r
  all_goals
    go_enter Try.func47, Try.ntmps47
    go_wp2
    go_ret
    exact ⟨ret_bool (by simp; try omega), rfl⟩
end Go.Proofs.Ytfgbiflfamgggaa
