import Derived.Test.YtakacapcphbjiaaOwnB
namespace Go.Proofs.Ytakacapcphbjiaa
open Go.ChangeShapes Go.WideShapes Go.ChangeAt Go.RowKit

/-- Days of a month, of a year; days ahead of a year, of a month. -/
def dm (y m : Int) : Int := if m = 2 then (if y % 4 = 0 then 29 else 28) else if m = 4 ∨ m = 6 ∨ m = 9 ∨ m = 11 then 30 else 31
def dy (y : Int) : Int := if y % 4 = 0 then 366 else 365
def cy (y : Int) : Int := 365 * (y - 2000) + (y - 2000 + 3) / 4
def c0 (m : Int) : Int := if m ≤ 1 then 0 else if m = 2 then 31 else if m = 3 then 59 else if m = 4 then 90 else if m = 5 then 120 else if m = 6 then 151 else if m = 7 then 181 else if m = 8 then 212 else if m = 9 then 243 else if m = 10 then 273 else if m = 11 then 304 else if m = 12 then 334 else 365
def cm (y m : Int) : Int := c0 m + (if 3 ≤ m then (if y % 4 = 0 then 1 else 0) else 0)
theorem twelve {m : Int} (h0 : 1 ≤ m) (h1 : m ≤ 12) : m = 1 ∨ m = 2 ∨ m = 3 ∨ m = 4 ∨ m = 5 ∨ m = 6 ∨ m = 7 ∨ m = 8 ∨ m = 9 ∨ m = 10 ∨ m = 11 ∨ m = 12 := by omega
theorem cy_succ (y : Int) : cy (y + 1) = cy y + dy y := by
  unfold cy dy
  split <;> omega
theorem cm_succ {y m : Int} (h0 : 1 ≤ m) (h1 : m ≤ 12) : cm y (m + 1) = cm y m + dm y m := by
  rcases twelve h0 h1 with rfl | rfl | rfl | rfl | rfl | rfl | rfl | rfl | rfl | rfl | rfl | rfl <;> (unfold cm dm c0; by_cases h : y % 4 = 0 <;> simp [h])
theorem cm_one (y : Int) : cm y 1 = 0 := by unfold cm c0; simp
theorem cm_end (y : Int) : cm y 13 = dy y := by
  unfold cm dy c0
  by_cases h : y % 4 = 0 <;> simp [h]
theorem dm_pos (y m : Int) : 28 ≤ dm y m ∧ dm y m ≤ 31 := by
  unfold dm
  split
  · split <;> omega
  · split <;> omega
theorem dy_pos (y : Int) : 365 ≤ dy y ∧ dy y ≤ 366 := by
  unfold dy
  split <;> omega
theorem cm_in {y m : Int} (h0 : 1 ≤ m) (h1 : m ≤ 12) : 0 ≤ cm y m ∧ cm y m + dm y m ≤ dy y := by
  rcases twelve h0 h1 with rfl | rfl | rfl | rfl | rfl | rfl | rfl | rfl | rfl | rfl | rfl | rfl <;> (unfold cm dm dy c0; by_cases h : y % 4 = 0 <;> simp [h])
theorem cm_up {y m : Int} (h0 : 1 ≤ m) (k : Nat) (h1 : m + k ≤ 13) : cm y m ≤ cm y (m + k) := by
  induction k with
  | zero => simp
  | succ k ih =>
    have e := cm_succ (y := y) (m := m + k) (by omega) (by omega)
    have := dm_pos y (m + k)
    rw [show m + ((k + 1 : Nat) : Int) = m + k + 1 by omega, e]
    have := ih (by omega)
    omega
theorem cm_mono {y m m' : Int} (h0 : 1 ≤ m) (hm : m < m') (h1 : m' ≤ 12) : cm y m + dm y m ≤ cm y m' := by
  have := cm_up (y := y) (m := m + 1) (by omega) (m' - m - 1).toNat (by omega)
  rw [show m + 1 + ((m' - m - 1).toNat : Int) = m' by omega, cm_succ h0 (by omega)] at this
  exact this
/-- A day lies in one month of one year alone. -/
theorem same_day {D y m y' m' : Int} (h0 : 1 ≤ m) (h1 : m ≤ 12) (g0 : 1 ≤ m') (g1 : m' ≤ 12) (ha : cy y + cm y m ≤ D) (hb : D < cy y + cm y m + dm y m) (ga : cy y' + cm y' m' ≤ D) (gb : D < cy y' + cm y' m' + dm y' m') : y = y' ∧ m = m' := by
  have a1 := cm_in (y := y) h0 h1
  have a2 := cm_in (y := y') g0 g1
  have e1 : cy y ≤ D ∧ D < cy (y + 1) := by rw [cy_succ]; omega
  have e2 : cy y' ≤ D ∧ D < cy (y' + 1) := by rw [cy_succ]; omega
  have hy : y = y' := by
    unfold cy at e1 e2
    omega
  subst hy
  refine ⟨rfl, ?_⟩
  rcases Int.lt_trichotomy m m' with hm | hm | hm
  · have := cm_mono (y := y) h0 hm g1
    omega
  · exact hm
  · have := cm_mono (y := y) g0 hm h1
    omega
theorem rem4 {y : Int} (h : 0 ≤ y) : y.tmod 4 = y % 4 := Int.tmod_eq_emod_of_nonneg h
theorem isLeap_any (y : Int) (w : World) (h : 0 ≤ y) : Calls Try.prog 21 #[.int .i64 y] w fun e w' => e = .returned (.bool (decide (y % 4 = 0))) ∧ w' = w := by
  have h4 := rem4 h
  go_enter Try.func21, Try.ntmps21
  go_wp2
  all_goals go_ret
  all_goals refine ⟨ret_bool ?_, rfl⟩
  all_goals first | rfl | simp [h4]
theorem l09Leap_any (y : Int) (w : World) (h : 0 ≤ y) : Calls Try.prog 17 #[.int .i64 y] w fun e w' => e = .returned (.bool (decide (y % 4 = 0))) ∧ w' = w := by
  have h4 := rem4 h
  go_enter Try.func17, Try.ntmps17
  go_wp2
  all_goals go_ret
  all_goals refine ⟨ret_bool ?_, rfl⟩
  all_goals first | rfl | simp [h4]
theorem l01Bool_any (b : Bool) (w : World) : Calls Try.prog 16 #[.bool b] w fun e w' => e = .returned (.int .i64 (if b = true then 1 else 0)) ∧ w' = w := by
  cases b
  all_goals go_enter Try.func16, Try.ntmps16
  all_goals go_wp2
  all_goals go_ret
  all_goals exact ⟨ret_int (by simp), rfl⟩
theorem daysOfYear_any (y : Int) (w : World) (h : 0 ≤ y) : Calls Try.prog 14 #[.int .i64 y] w fun e w' => e = .returned (.int .i64 (dy y)) ∧ w' = w := by
  have HL : Hid _ := fun u => isLeap_any y u h
  by_cases h4 : y % 4 = 0
  · have hd : dy y = 366 := by simp [dy, h4]
    rw [hd]
    simp only [h4, decide_true] at HL
    go_enter Try.func14, Try.ntmps14
    go_wp2_with (go_at_call 21; refine (HL.out _).mono ?_; rintro e u1 ⟨rfl, hu1⟩; rw [hu1]; clear hu1)
    go_ret
    exact ⟨rfl, rfl⟩
  · have hd : dy y = 365 := by simp [dy, h4]
    rw [hd]
    simp only [h4, decide_false] at HL
    go_enter Try.func14, Try.ntmps14
    go_wp2_with (go_at_call 21; refine (HL.out _).mono ?_; rintro e u1 ⟨rfl, hu1⟩; rw [hu1]; clear hu1)
    go_ret
    exact ⟨rfl, rfl⟩
theorem daysOfMonth_any (y m : Int) (w : World) (h : 0 ≤ y) : Calls Try.prog 15 #[.int .i64 y, .int .i64 m] w fun e w' => e = .returned (.int .i64 (dm y m)) ∧ w' = w := by
  have HL : Hid _ := fun u => isLeap_any y u h
  unfold dm
  by_cases h2 : m = 2
  · subst h2
    by_cases h4 : y % 4 = 0
    · simp only [h4, decide_true] at HL
      simp only [h4, if_true]
      go_enter Try.func15, Try.ntmps15
      go_wp2_with (go_at_call 21; refine (HL.out _).mono ?_; rintro e u1 ⟨rfl, hu1⟩; rw [hu1]; clear hu1)
      go_ret
      exact ⟨rfl, rfl⟩
    · simp only [h4, decide_false] at HL
      simp only [h4, if_true, if_false]
      go_enter Try.func15, Try.ntmps15
      go_wp2_with (go_at_call 21; refine (HL.out _).mono ?_; rintro e u1 ⟨rfl, hu1⟩; rw [hu1]; clear hu1)
      go_ret
      exact ⟨rfl, rfl⟩
  · simp only [h2, if_false]
    by_cases h3 : m = 4 ∨ m = 6 ∨ m = 9 ∨ m = 11
    · simp only [h3, if_true]
      rcases h3 with rfl | rfl | rfl | rfl
      all_goals go_enter Try.func15, Try.ntmps15
      all_goals go_wp2
      all_goals go_ret
      all_goals exact ⟨rfl, rfl⟩
    · simp only [h3, if_false]
      have k1 : ¬ m = 4 := by omega
      have k2 : ¬ m = 6 := by omega
      have k3 : ¬ m = 9 := by omega
      have k4 : ¬ m = 11 := by omega
      go_enter Try.func15, Try.ntmps15
      go_wp2
      go_ret
      exact ⟨rfl, rfl⟩
set_option maxRecDepth 100000 in
set_option maxHeartbeats 4000000 in
theorem l09Days_any (y m : Int) (w : World) (h : 0 ≤ y) (m0 : 1 ≤ m) (m1 : m ≤ 12) : Calls Try.prog 13 #[.int .i64 y, .int .i64 m] w fun e w' => e = .returned (.int .i64 (dm y m)) ∧ Below w.heap.size w w' := by
  have HL : Hid _ := fun u => l09Leap_any y u h
  unfold dm
  have HB : Hid (∀ o, Below w.heap.size w (w.alloc o)) := fun o => (Below.refl _ _).alloc (Nat.le_refl _) _
  by_cases h4 : y % 4 = 0
  · simp only [h4, decide_true] at HL
    simp only [h4, if_true]
    rcases twelve m0 m1 with rfl | rfl | rfl | rfl | rfl | rfl | rfl | rfl | rfl | rfl | rfl | rfl
    all_goals go_enter Try.func13, Try.ntmps13
    all_goals go_wp2_with (go_at_call 17; refine (HL.out _).mono ?_; rintro e u1 ⟨rfl, hu1⟩; rw [hu1]; clear hu1)
    all_goals go_ret
    all_goals first | exact ⟨rfl, HB.out _⟩ | exact ⟨rfl, Below.refl _ _⟩
  · simp only [h4, decide_false] at HL
    simp only [h4, if_false]
    rcases twelve m0 m1 with rfl | rfl | rfl | rfl | rfl | rfl | rfl | rfl | rfl | rfl | rfl | rfl
    all_goals go_enter Try.func13, Try.ntmps13
    all_goals go_wp2_with (go_at_call 17; refine (HL.out _).mono ?_; rintro e u1 ⟨rfl, hu1⟩; rw [hu1]; clear hu1)
    all_goals go_ret
    all_goals first | exact ⟨rfl, HB.out _⟩ | exact ⟨rfl, Below.refl _ _⟩
end Go.Proofs.Ytakacapcphbjiaa
