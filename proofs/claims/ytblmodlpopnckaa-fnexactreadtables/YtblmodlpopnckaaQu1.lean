import Derived.Test.YtblmodlpopnckaaMemF
import Derived.Deep.RegionWith
namespace Go.Proofs.Ytblmodlpopnckaa
open Go.ChangeShapes Go.WideShapes Go.ChangeAt Go.RowKit

/-- So many bytes from a place on are within n. -/
def inW (n : Nat) (a z : Int) : Bool := decide (0 ≤ a ∧ 0 ≤ z ∧ a + z ≤ (n : Int))
theorem inW_iff {n : Nat} {a z : Int} : inW n a z = true ↔ 0 ≤ a ∧ 0 ≤ z ∧ a + z ≤ (n : Int) := by simp [inW]
theorem inW_no {n : Nat} {a z : Int} : inW n a z = false ↔ ¬ (0 ≤ a ∧ 0 ≤ z ∧ a + z ≤ (n : Int)) := by simp [inW]
/-- A number of int64. -/
def i64B (a : Int) : Prop := -9223372036854775808 ≤ a ∧ a ≤ 9223372036854775807
theorem isWithin_any (n : Nat) (a z : Int) (w : World) (hn : n ≤ 1048576) (hz : i64B z) :
    Calls Try.prog 41 #[.int .i64 n, .int .i64 a, .int .i64 z] w fun e w' => e = .returned (.bool (inW n a z)) ∧ w' = w := by
  obtain ⟨z1, z2⟩ := hz
  by_cases h1 : 0 ≤ a
  · by_cases h2 : 0 ≤ z
    · have E : Hid (inW n a z = decide (a ≤ (n : Int) - z)) := by
        show inW _ _ _ = _
        unfold inW
        exact decide_eq_decide.2 (by omega)
      go_enter Try.func41, Try.ntmps41
      go_wp2
      go_ret
      exact ⟨ret_bool E.out.symm, rfl⟩
    · have E : Hid (inW n a z = false) := inW_no.2 (by omega)
      go_enter Try.func41, Try.ntmps41
      go_wp2
      go_ret
      exact ⟨ret_bool E.out.symm, rfl⟩
  · have E : Hid (inW n a z = false) := inW_no.2 (by omega)
    go_enter Try.func41, Try.ntmps41
    go_wp2
    go_ret
    exact ⟨ret_bool E.out.symm, rfl⟩
theorem l10In_any (s : ByteArray) (a z : Int) (w : World) (hn : s.size ≤ 1048576) :
    Calls Try.prog 16 #[.string s, .int .i64 a, .int .i64 z] w fun e w' => e = .returned (.bool (inW s.size a z)) ∧ w' = w := by
  by_cases h1 : 0 ≤ a
  · by_cases h2 : 0 ≤ z
    · by_cases h3 : a ≤ (s.size : Int)
      · have E : Hid (inW s.size a z = decide (z ≤ (s.size : Int) - a)) := by
          show inW _ _ _ = _
          unfold inW
          exact decide_eq_decide.2 (by omega)
        go_enter Try.func16, Try.ntmps16
        go_wp2
        go_ret
        exact ⟨ret_bool E.out.symm, rfl⟩
      · have E : Hid (inW s.size a z = false) := inW_no.2 (by omega)
        go_enter Try.func16, Try.ntmps16
        go_wp2
        go_ret
        exact ⟨ret_bool E.out.symm, rfl⟩
    · have E : Hid (inW s.size a z = false) := inW_no.2 (by omega)
      go_enter Try.func16, Try.ntmps16
      go_wp2
      go_ret
      exact ⟨ret_bool E.out.symm, rfl⟩
  · have E : Hid (inW s.size a z = false) := inW_no.2 (by omega)
    go_enter Try.func16, Try.ntmps16
    go_wp2
    go_ret
    exact ⟨ret_bool E.out.symm, rfl⟩
/-- A table is in memory. -/
def tbB (n : Nat) (a z : Int) : Bool := decide (a % 4 = 0) && inW n a z
theorem tmod4 (a : Int) : (a.tmod 4 == 0) = decide (a % 4 = 0) := by
  rw [Int.tmod_eq_emod (a := a) (b := 4)]
  by_cases h : a % 4 = 0
  · simp [h]
    intro h1
    exact Int.dvd_of_emod_eq_zero h
  · rw [decide_eq_false h]
    split
    · simpa using h
    · simp; omega
theorem holdsTable_any (s : ByteArray) (a z : Int) (w : World) (hn : s.size ≤ 1048576) (hz : i64B z) :
    Calls Try.prog 23 #[.string s, .int .i64 a, .int .i64 z] w fun e w' => e = .returned (.bool (tbB s.size a z)) ∧ w' = w := by
  have HW : Hid _ := fun u => isWithin_any s.size a z u hn hz
  by_cases h : a % 4 = 0
  · have h4 : (a.tmod 4 == 0) = true := by rw [tmod4]; simp [h]
    have E : Hid (tbB s.size a z = inW s.size a z) := by
      show tbB _ _ _ = _
      unfold tbB
      simp [h]
    clear hz h
    go_enter Try.func23, Try.ntmps23
    go_wp2_with (go_at_call 41; refine Calls.mono (HW.out _) ?_; rintro e u1 ⟨rfl, hu1⟩; subst hu1)
    go_ret
    exact ⟨ret_bool E.out.symm, rfl⟩
  · have h4 : (a.tmod 4 == 0) = false := by rw [tmod4]; simp [h]
    have E : Hid (tbB s.size a z = false) := by
      show tbB _ _ _ = _
      unfold tbB
      simp [h]
    clear hz h HW
    go_enter Try.func23, Try.ntmps23
    go_wp2_with fail
    go_ret
    exact ⟨ret_bool E.out.symm, rfl⟩
end Go.Proofs.Ytblmodlpopnckaa
