import Derived.Test.YtmmodmanfoipiaaDoorNums
import Derived.Test.YtmmodmanfoipiaaDoorBytes
import Derived.WalkLawsBesides
import Derived.Deep.QuietTactic
import Derived.BigQuiet
namespace Go.Proofs.YtmmodmanfoipiaaDoor
open Go.ChangeShapes Go.WideShapes Go.ChangeAt Go.RowKit

def hwd (s : ByteArray) (at_ : Int) : Bool := decide (s.size ≤ 65536 ∧ 0 ≤ at_ ∧ at_ ≤ (s.size : Int) - 4)

theorem holdsWord_any (s : ByteArray) (k : Int) (w : World) :
    Calls Tryd.prog 61 #[.string s, .int .i64 k] w fun e w' => e = .returned (.bool (hwd s k)) ∧ w' = w := by
  by_cases h1 : 65536 < (s.size : Int)
  · have E : Hid (hwd s k = false) := by show hwd s k = false; simp [hwd]; omega
    have hd : decide (65536 < (s.size : Int)) = true := by simpa using h1
    go_enter Tryd.func61, Tryd.ntmps61
    go_wp2_with (go_at_call 37; refine (tooLong_any _ _).mono ?_; rintro e w' ⟨rfl, rfl⟩)
    go_ret
    exact ⟨ret_bool E.out.symm, rfl⟩
  · have hd : decide (65536 < (s.size : Int)) = false := by simpa using h1
    by_cases h2 : 0 ≤ k
    · by_cases h3 : k ≤ (s.size : Int) - 4
      · have E : Hid (hwd s k = true) := by show hwd s k = true; simp [hwd]; omega
        go_enter Tryd.func61, Tryd.ntmps61
        go_wp2_with (go_at_call 37; refine (tooLong_any _ _).mono ?_; rintro e w' ⟨rfl, rfl⟩)
        go_ret
        exact ⟨ret_bool E.out.symm, rfl⟩
      · have E : Hid (hwd s k = false) := by show hwd s k = false; simp [hwd]; omega
        go_enter Tryd.func61, Tryd.ntmps61
        go_wp2_with (go_at_call 37; refine (tooLong_any _ _).mono ?_; rintro e w' ⟨rfl, rfl⟩)
        go_ret
        exact ⟨ret_bool (by rw [E.out]; simp; omega), rfl⟩
    · have E : Hid (hwd s k = false) := by show hwd s k = false; simp [hwd]; omega
      go_enter Tryd.func61, Tryd.ntmps61
      go_wp2_with (go_at_call 37; refine (tooLong_any _ _).mono ?_; rintro e w' ⟨rfl, rfl⟩)
      go_ret
      exact ⟨ret_bool E.out.symm, rfl⟩

def wv (s : ByteArray) (k : Nat) : Int := bt s k + bt s (k + 1) * 256 + bt s (k + 2) * 65536 + bt s (k + 3) * 16777216

theorem implGetWord_no (s : ByteArray) (k : Int) (w : World) (h : hwd s k = false) :
    Calls Tryd.prog 60 #[.string s, .int .i64 k] w fun e w' => e = .returned (.agg #[.bool false, .int .i64 0]) ∧ Below w.heap.size w w' := by
  go_enter Tryd.func60, Tryd.ntmps60
  go_wp2_with (go_at_call 61; refine (holdsWord_any _ _ _).mono ?_; rintro e w' ⟨rfl, hw1⟩; subst hw1)
  exact bodyPost_ret (v := .agg #[.bool false, .int .i64 0]) (by simp [results, Tryd.results60, go_sem]) rfl ⟨rfl, (Below.refl _ _).alloc (Nat.le_refl _) _⟩

def pt (s : ByteArray) (k j : Nat) : Int := match j with
  | 0 => 0
  | 1 => bt s k
  | 2 => bt s k + bt s (k + 1) * 256
  | 3 => bt s k + bt s (k + 1) * 256 + bt s (k + 2) * 65536
  | _ => wv s k

theorem implGetWord_yes (s : ByteArray) (k : Nat) (w : World) (hh : hwd s k = true) (h : k + 4 ≤ s.size) (hs : s.size ≤ 65536) :
    Calls Tryd.prog 60 #[.string s, .int .i64 k] w fun e w' => e = .returned (.agg #[.bool true, .int .i64 (wv s k)]) ∧ Below w.heap.size w w' := by
  have i0 := fun w => idx_str s k (by omega) w k rfl
  have i1 := fun w => idx_str s (k + 1) (by omega) w (k + 1) (by omega)
  have i2 := fun w => idx_str s (k + 2) (by omega) w (k + 2) (by omega)
  have i3 := fun w => idx_str s (k + 3) (by omega) w (k + 3) (by omega)
  obtain ⟨a0, c0⟩ := bt_b s k
  obtain ⟨a1, c1⟩ := bt_b s (k + 1)
  obtain ⟨a2, c2⟩ := bt_b s (k + 2)
  obtain ⟨a3, c3⟩ := bt_b s (k + 3)
  go_enter Tryd.func60, Tryd.ntmps60
  go_wp2_with (go_at_call 61; refine (holdsWord_any _ _ _).mono ?_; rintro e w' ⟨rfl, hw1⟩; subst hw1)
  go_loop [5, 12] (fun num i => ∃ j : Nat, j ≤ 4 ∧ i = .int .i64 j ∧ num = .int .i64 (pt s k j)) (fun _ i => 4 - (intOf i).toNat)
  case atStart => exact ⟨0, by omega, rfl, rfl⟩
  case round =>
    obtain ⟨j, hj, rfl, rfl⟩ := hrel
    by_cases hlt : j < 4
    · have hj4 : j = 0 ∨ j = 1 ∨ j = 2 ∨ j = 3 := by omega
      rcases hj4 with rfl | rfl | rfl | rfl
      · go_wp2
        refine ⟨⟨1, by omega, rfl, ?_⟩, by simp [intOf]⟩
        have e := or_join 0 1 (by simp) (by omega) 0 (bt s k) (by omega) (by omega) a0 c0
        rw [Int.mul_one, Int.zero_add] at e
        exact congrArg _ e
      · go_wp2
        refine ⟨⟨2, by omega, rfl, ?_⟩, by simp [intOf]⟩
        exact congrArg _ (or_join 8 256 (by simp) (by omega) (bt s k) (bt s (k + 1)) a0 (by omega) a1 c1)
      · go_wp2
        refine ⟨⟨3, by omega, rfl, ?_⟩, by simp [intOf]⟩
        exact congrArg _ (or_join 16 65536 (by simp) (by omega) (bt s k + bt s (k + 1) * 256) (bt s (k + 2)) (by omega) (by omega) a2 c2)
      · go_wp2
        refine ⟨⟨4, by omega, rfl, ?_⟩, by simp [intOf]⟩
        exact congrArg _ (or_join 24 16777216 (by simp) (by omega) (bt s k + bt s (k + 1) * 256 + bt s (k + 2) * 65536) (bt s (k + 3)) (by omega) (by omega) a3 c3)
    · obtain rfl : j = 4 := by omega
      go_wp2
      exact bodyPost_ret (v := .agg #[.bool true, .int .i64 (wv s k)]) (by simp [results, Tryd.results60, go_sem, pt]) rfl ⟨rfl, (Below.refl _ _).alloc (Nat.le_refl _) _⟩
end Go.Proofs.YtmmodmanfoipiaaDoor
