import Derived.Test.YtalpcjclahkgnaaGreatBytesC
namespace Go.Proofs.YtalpcjclahkgnaaGreat
open Go.ChangeShapes Go.WideShapes Go.ChangeAt Go.RowKit

/-- A sign of an image's name. -/
def sgB (x : Int) : Bool := decide (97 ≤ x ∧ x ≤ 122 ∨ 48 ≤ x ∧ x ≤ 57 ∨ x = 45)
/-- An image's name. -/
def nmB (s : ByteArray) : Bool := decide (1 ≤ s.size ∧ s.size ≤ 20 ∧ ∀ k, k < s.size → sgB (bt s k) = true)
theorem nmB_no {s : ByteArray} {k : Nat} (hk : k < s.size) (h : sgB (bt s k) = false) : nmB s = false := by
  refine decide_eq_false (fun ⟨_, _, h3⟩ => ?_)
  rw [h3 k hk] at h
  cases h
theorem ret_bw {a b : Bool} {w u : World} (h : a = b) (hw : u = w) : Ending.returned (.bool a) = .returned (.bool b) ∧ u = w := ⟨by rw [h], hw⟩
set_option maxRecDepth 100000
set_option maxHeartbeats 2000000 in
theorem l13Name_any (s : ByteArray) (w : World) : Calls Tryz.prog 31 #[.string s] w fun e w' => e = .returned (.bool (nmB s)) ∧ w' = w := by
  by_cases h1 : s.size < 1
  · have hg : nmB s = false := decide_eq_false (fun h => by omega)
    rw [hg]
    have hz : (s.size : Int) < 1 := by omega
    clear hg
    go_enter Tryz.func31, Tryz.ntmps31
    go_wp2
    go_ret
    exact ⟨rfl, rfl⟩
  have hz : ¬ (s.size : Int) < 1 := by omega
  by_cases h20 : 20 < s.size
  · have hg : nmB s = false := decide_eq_false (fun h => by omega)
    rw [hg]
    have hy : (20 : Int) < (s.size : Int) := by omega
    clear hg
    go_enter Tryz.func31, Tryz.ntmps31
    go_wp2
    go_ret
    exact ⟨rfl, rfl⟩
  have hy : ¬ (20 : Int) < (s.size : Int) := by omega
  have HI : Hid (∀ (k : Nat), k < s.size → (∀ w, Sem.run Tryz.prog (Instr.index 9 (.string s) (.int .i64 k)) w = .ok (.int .u8 (bt s k)) w) ∧ 0 ≤ bt s k ∧ bt s k ≤ 255) := fun k hk => ⟨fun w => idx_str s k hk w k rfl, bt_b s k⟩
  have HN : Hid (∀ k, k < s.size → sgB (bt s k) = false → nmB s = false) := fun k hk h => nmB_no hk h
  have HY : Hid ((∀ k, k < s.size → sgB (bt s k) = true) → nmB s = true) := fun h => decide_eq_true ⟨by omega, by omega, h⟩
  generalize nmB s = g at *
  go_enter Tryz.func31, Tryz.ntmps31
  go_wp2
  go_loopw [3, 4] (fun i c wr => ∃ k : Nat, k ≤ s.size ∧ i = .int .i64 k ∧ (∀ j, j < k → sgB (bt s j) = true) ∧ wr = w) (fun i _ _ => s.size - (intOf i).toNat)
  case atStart => exact ⟨0, Nat.zero_le _, rfl, fun j hj => absurd hj (Nat.not_lt_zero _), rfl⟩
  case round =>
    obtain ⟨k, hk, rfl, hal, rfl⟩ := hrel
    have HA : Hid (∀ j, j < k → sgB (bt s j) = true) := hal
    clear hal
    by_cases hlt : k < s.size
    · obtain ⟨ix, y0, y1⟩ := HI.out k hlt
      have HX : Hid (sgB (bt s k) = false → g = false) := fun h => HN.out k hlt h
      have HX2 : Hid (sgB (bt s k) = true → ∀ j, j < k + 1 → sgB (bt s j) = true) := fun h j hj => by
        rcases Nat.lt_succ_iff_lt_or_eq.1 hj with h2 | h2
        · exact HA.out j h2
        · rw [h2]; exact h
      generalize bt s k = x at *
      have hk0 : (0 : Int) ≤ (k : Int) := by omega
      have hk1 : (k : Int) < (s.size : Int) := by omega
      by_cases q : x = 45
      · subst q
        have HX3 : Hid _ := HX2.out rfl
        go_wp2
        exact ⟨⟨k + 1, hlt, by simp, HX3.out, trivial⟩, by simp [intOf]; omega⟩
      have q45 : (x == 45) = false := by simpa using q
      have HQ : Hid (¬ x = 45) := q
      clear q
      by_cases q1 : 97 ≤ x
      · by_cases q2 : x ≤ 122
        · have HX3 : Hid _ := HX2.out (decide_eq_true (by omega))
          go_wp2
          exact ⟨⟨k + 1, hlt, by simp, HX3.out, trivial⟩, by simp [intOf]; omega⟩
        · have hg := HX.out (decide_eq_false (by have := HQ.out; omega))
          subst hg
          have q3 : ¬ x ≤ 57 := by omega
          have q4 : 48 ≤ x := by omega
          go_wp2
          go_ret
          exact ⟨rfl, rfl⟩
      · by_cases q3 : 48 ≤ x
        · by_cases q4 : x ≤ 57
          · have HX3 : Hid _ := HX2.out (decide_eq_true (by omega))
            go_wp2
            exact ⟨⟨k + 1, hlt, by simp, HX3.out, trivial⟩, by simp [intOf]; omega⟩
          · have hg := HX.out (decide_eq_false (by have := HQ.out; omega))
            subst hg
            go_wp2
            go_ret
            exact ⟨rfl, rfl⟩
        · have hg := HX.out (decide_eq_false (by have := HQ.out; omega))
          subst hg
          go_wp2
          go_ret
          exact ⟨rfl, rfl⟩
    · obtain rfl : k = s.size := by omega
      have hg := HY.out HA.out
      subst hg
      go_wp2
      go_ret
      exact ⟨rfl, rfl⟩
set_option maxHeartbeats 2000000 in
theorem isImageSign_any (x : Int) (w : World) (h0 : 0 ≤ x) (h1 : x ≤ 255) : Calls Tryz.prog 88 #[.int .u8 x] w fun e w' => e = .returned (.bool (sgB x)) ∧ w' = w := by
  have H : Hid (sgB x = decide (97 ≤ x ∧ x ≤ 122 ∨ 48 ≤ x ∧ x ≤ 57 ∨ x = 45)) := (show sgB x = _ from rfl)
  generalize sgB x = g at *
  go_enter Tryz.func88, Tryz.ntmps88
  go_wp2
  all_goals
    go_ret
    refine ret_bw ?_ rfl
    rw [H.out, Bool.eq_iff_iff]
    simp
    try omega
set_option maxHeartbeats 2000000 in
theorem isImageName_any (s : ByteArray) (w : World) : Calls Tryz.prog 74 #[.string s] w fun e w' => e = .returned (.bool (nmB s)) ∧ w' = w := by
  by_cases h1 : s.size < 1
  · have hg : nmB s = false := decide_eq_false (fun h => by omega)
    rw [hg]
    have hz : (s.size : Int) < 1 := by omega
    clear hg
    go_enter Tryz.func74, Tryz.ntmps74
    go_wp2
    go_ret
    exact ⟨rfl, rfl⟩
  have hz : ¬ (s.size : Int) < 1 := by omega
  by_cases h20 : 20 < s.size
  · have hg : nmB s = false := decide_eq_false (fun h => by omega)
    rw [hg]
    have hy : (20 : Int) < (s.size : Int) := by omega
    clear hg
    go_enter Tryz.func74, Tryz.ntmps74
    go_wp2
    go_ret
    exact ⟨rfl, rfl⟩
  have hy : ¬ (20 : Int) < (s.size : Int) := by omega
  have HI : Hid (∀ (k : Nat), k < s.size → (∀ w, Sem.run Tryz.prog (Instr.index 9 (.string s) (.int .i64 k)) w = .ok (.int .u8 (bt s k)) w) ∧ 0 ≤ bt s k ∧ bt s k ≤ 255) := fun k hk => ⟨fun w => idx_str s k hk w k rfl, bt_b s k⟩
  have HN : Hid (∀ k, k < s.size → sgB (bt s k) = false → nmB s = false) := fun k hk h => nmB_no hk h
  have HY : Hid ((∀ k, k < s.size → sgB (bt s k) = true) → nmB s = true) := fun h => decide_eq_true ⟨by omega, by omega, h⟩
  generalize nmB s = g at *
  go_enter Tryz.func74, Tryz.ntmps74
  go_wp2
  go_loopw [14] (fun i wr => ∃ k : Nat, k ≤ s.size ∧ i = .int .i64 k ∧ (∀ j, j < k → sgB (bt s j) = true) ∧ wr = w) (fun i _ => s.size - (intOf i).toNat)
  case atStart => exact ⟨0, Nat.zero_le _, rfl, fun j hj => absurd hj (Nat.not_lt_zero _), rfl⟩
  case round =>
    obtain ⟨k, hk, rfl, hal, rfl⟩ := hrel
    have HA : Hid (∀ j, j < k → sgB (bt s j) = true) := hal
    clear hal
    by_cases hlt : k < s.size
    · obtain ⟨ix, y0, y1⟩ := HI.out k hlt
      have HX : Hid (sgB (bt s k) = false → g = false) := fun h => HN.out k hlt h
      have HX2 : Hid (sgB (bt s k) = true → ∀ j, j < k + 1 → sgB (bt s j) = true) := fun h j hj => by
        rcases Nat.lt_succ_iff_lt_or_eq.1 hj with h2 | h2
        · exact HA.out j h2
        · rw [h2]; exact h
      have HC : Hid _ := isImageSign_any (bt s k) wr y0 y1
      generalize bt s k = x at *
      generalize sgB x = b at *
      have hk0 : (0 : Int) ≤ (k : Int) := by omega
      have hk1 : (k : Int) < (s.size : Int) := by omega
      cases b
      · have hg := HX.out rfl
        subst hg
        go_wp2_with (go_at_call 88; refine Calls.mono HC.out ?_; rintro e u1 ⟨rfl, hw⟩; rw [hw]; clear hw)
        go_ret
        exact ⟨rfl, rfl⟩
      · go_wp2_with (go_at_call 88; refine Calls.mono HC.out ?_; rintro e u1 ⟨rfl, hw⟩; rw [hw]; clear hw)
        exact ⟨⟨k + 1, hlt, by simp, HX2.out (by trivial), trivial⟩, by simp [intOf]; omega⟩
    · obtain rfl : k = s.size := by omega
      have hg := HY.out HA.out
      subst hg
      go_wp2
      go_ret
      exact ⟨rfl, rfl⟩
end Go.Proofs.YtalpcjclahkgnaaGreat
