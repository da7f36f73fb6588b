import Derived.Test.YtomfbiiegcmmlaaGreatHasBit
namespace Go.Proofs.YtomfbiiegcmmlaaGreat
open Go.ChangeShapes Go.WideShapes Go.ChangeAt Go.RowKit

def cnt (s : ByteArray) : Nat → Int
  | 0 => 0
  | k + 1 => cnt s k + if hb s k then 1 else 0
theorem cnt_b (s : ByteArray) : ∀ k, 0 ≤ cnt s k ∧ cnt s k ≤ k
  | 0 => by simp [cnt]
  | k + 1 => by have := cnt_b s k; simp only [cnt]; split <;> omega
theorem cnt_long (s : ByteArray) (h : 65536 < s.size) : ∀ k, cnt s k = 0
  | 0 => rfl
  | k + 1 => by simp only [cnt]; rw [cnt_long s h k, hb_out s k (by omega)]; rfl

theorem l01Bool_any (b : Bool) (w : World) :
    Calls Tryz.prog 63 #[.bool b] w fun e w' => e = .returned (.int .i64 (if b then 1 else 0)) ∧ w' = w := by
  cases b
  · go_enter Tryz.func63, Tryz.ntmps63
    go_wp2
    go_ret
    exact ⟨rfl, rfl⟩
  · go_enter Tryz.func63, Tryz.ntmps63
    go_wp2
    go_ret
    exact ⟨rfl, rfl⟩

theorem specCountBits_any (s : ByteArray) (w : World) (hs : s.size ≤ 1048576) :
    Calls Tryz.prog 31 #[.string s] w fun e w' => e = .returned (.int .i64 (cnt s (8 * s.size))) ∧ w' = w := by
  go_enter Tryz.func31, Tryz.ntmps31
  go_wp2
  go_loop [3, 4] (fun n i => ∃ k : Nat, k ≤ 8 * s.size ∧ i = .int .i64 k ∧ n = .int .i64 (cnt s k)) (fun _ i => 8 * s.size - (intOf i).toNat)
  case atStart => exact ⟨0, by omega, rfl, rfl⟩
  case round =>
    obtain ⟨k, hk, rfl, rfl⟩ := hrel
    obtain ⟨b0, b1⟩ := cnt_b s k
    by_cases hlt : k < 8 * s.size
    · cases hbv : hb s k
      all_goals
        have E : Hid (cnt s (k + 1) = cnt s k + if hb s k then 1 else 0) := (show cnt s (k + 1) = cnt s k + if hb s k then 1 else 0 from rfl)
        have HB : Hid (hb s k = _) := hbv
        clear hbv
        go_wp2_with (first | (go_at_call 62; refine (specHasBit_any _ _ _ (by omega) (by omega)).mono ?_; rintro e u1 ⟨rfl, hw1⟩; subst hw1; rw [HB.out]) | (go_at_call 63; refine (l01Bool_any _ _).mono ?_; rintro e u2 ⟨rfl, hw2⟩; subst hw2))
        refine ⟨⟨k + 1, by omega, by go_num, ?_⟩, by simp [intOf]; omega⟩
        rw [E.out, HB.out]
        simp
    · obtain rfl : k = 8 * s.size := by omega
      go_wp2
      go_ret
      exact ⟨rfl, rfl⟩
theorem implCountBits_any (s : ByteArray) (w : World) (hs : s.size ≤ 1048576) :
    Calls Tryz.prog 86 #[.string s] w fun e w' => e = .returned (.int .i64 (cnt s (8 * s.size))) ∧ w' = w := by
  by_cases hl : 65536 < s.size
  · have hd : decide (65536 < (s.size : Int)) = true := by simp; omega
    have E : Hid (cnt s (8 * s.size) = 0) := cnt_long s hl _
    go_enter Tryz.func86, Tryz.ntmps86
    go_wp2_with (go_at_call 95; refine (tooLong_any _ _).mono ?_; rintro e u1 ⟨rfl, hw1⟩; subst hw1)
    go_ret
    exact ⟨ret_int E.out.symm, rfl⟩
  · have hd : decide (65536 < (s.size : Int)) = false := by simp; omega
    go_enter Tryz.func86, Tryz.ntmps86
    go_wp2_with (first | (go_at_call 95; refine (tooLong_any _ _).mono ?_; rintro e u1 ⟨rfl, hw1⟩; subst hw1) | (go_at_call 131; refine (setSize_any _ _ (by omega)).mono ?_; rintro e u1 ⟨rfl, hw1⟩; subst hw1))
    go_loop [3, 9] (fun n i => ∃ k : Nat, k ≤ 8 * s.size ∧ i = .int .i64 k ∧ n = .int .i64 (cnt s k)) (fun _ i => 8 * s.size - (intOf i).toNat)
    case atStart => exact ⟨0, by omega, rfl, rfl⟩
    case round =>
      obtain ⟨k, hk, rfl, rfl⟩ := hrel
      obtain ⟨b0, b1⟩ := cnt_b s k
      by_cases hlt : k < 8 * s.size
      · cases hbv : hb s k
        all_goals
          have E : Hid (cnt s (k + 1) = cnt s k + if hb s k then 1 else 0) := (show cnt s (k + 1) = cnt s k + if hb s k then 1 else 0 from rfl)
          have HB : Hid (hb s k = _) := hbv
          clear hbv
          go_wp2_with (go_at_call 132; refine (implHasBit_any _ _ _ (by omega)).mono ?_; rintro e u1 ⟨rfl, hw1⟩; subst hw1; rw [HB.out])
          refine ⟨⟨k + 1, by omega, by go_num, ?_⟩, by simp [intOf]; omega⟩
          rw [E.out, HB.out]
          simp
      · obtain rfl : k = 8 * s.size := by omega
        go_wp2
        go_ret
        exact ⟨rfl, rfl⟩
end Go.Proofs.YtomfbiiegcmmlaaGreat
