import Derived.Test.YtomfbiiegcmmlabBytes
import Derived.Laws.BitsAllLaws
namespace Go.Proofs.Ytomfbiiegcmmlab
open Go.ChangeShapes Go.WideShapes Go.ChangeAt Go.RowKit

def bitv (s : ByteArray) (m : Nat) : Int := bt s (m / 8) / 2 ^ (m % 8) % 2
def hbn (s : ByteArray) (m : Nat) : Bool := bitv s m == 1
def hb (s : ByteArray) (n : Int) : Bool := decide (s.size ≤ 65536 ∧ 0 ≤ n ∧ n < 8 * (s.size : Int)) && hbn s n.toNat

theorem and1 (x : Int) (h0 : 0 ≤ x) (h1 : x ≤ 255) : bits .and .u8 x 1 = x % 2 := by
  rw [u8_and x 1 h0 (by omega) (by omega) (by omega)]
  obtain ⟨X, rfl⟩ := Int.eq_ofNat_of_zero_le h0
  rw [Int.toNat_natCast, show (1 : Int).toNat = 1 from rfl, nat_mask1]
  omega
theorem bitq (s : ByteArray) (m : Nat) : 0 ≤ bt s (m / 8) / 2 ^ (m % 8) ∧ bt s (m / 8) / 2 ^ (m % 8) ≤ 255 := by
  have ⟨a, c⟩ := bt_b s (m / 8)
  have p : (0 : Int) < 2 ^ (m % 8) := Int.pow_pos (by omega)
  exact ⟨Int.ediv_nonneg a (by omega), Int.le_trans (Int.ediv_le_self _ a) c⟩

theorem setSize_any (s : ByteArray) (w : World) (hs : s.size ≤ 140737488355328) :
    Calls Try.prog 156 #[.string s] w fun e w' => e = .returned (.int .i64 (8 * (s.size : Int))) ∧ w' = w := by
  go_enter Try.func156, Try.ntmps156
  go_wp2
  go_ret
  exact ⟨rfl, rfl⟩

theorem hb_in (s : ByteArray) (m : Nat) (hs : s.size ≤ 65536) (hm : m < 8 * s.size) : (bits .and .u8 (bt s (m / 8) / 2 ^ (m % 8)) 1 == 1) = hb s m := by
  obtain ⟨a, c⟩ := bitq s m
  rw [and1 _ a c]
  unfold hb
  rw [Int.toNat_natCast, show decide (s.size ≤ 65536 ∧ 0 ≤ (m : Int) ∧ (m : Int) < 8 * (s.size : Int)) = true from by simp; omega, Bool.true_and]
  rfl

theorem hb_out (s : ByteArray) (n : Int) (h : ¬ (s.size ≤ 65536 ∧ 0 ≤ n ∧ n < 8 * (s.size : Int))) : hb s n = false := by
  unfold hb
  rw [decide_eq_false h]; rfl

theorem implHasBit_any (s : ByteArray) (n : Int) (w : World) (hs : s.size ≤ 140737488355328) :
    Calls Try.prog 157 #[.string s, .int .i64 n] w fun e w' => e = .returned (.bool (hb s n)) ∧ w' = w := by
  by_cases h1 : s.size ≤ 65536
  · have hd : decide (65536 < (s.size : Int)) = false := by simp; omega
    by_cases h2 : 0 ≤ n
    · obtain ⟨m, rfl⟩ := Int.eq_ofNat_of_zero_le h2
      by_cases h3 : m < 8 * s.size
      · have i0 := fun w => idx_str s (m / 8) (by omega) w ((m : Int) / 8) (by omega)
        obtain ⟨a0, c0⟩ := bt_b s (m / 8)
        have E : Hid ((bits .and .u8 (bt s (m / 8) / 2 ^ (m % 8)) 1 == 1) = hb s m) := hb_in s m h1 h3
        go_enter Try.func157, Try.ntmps157
        go_wp2_with (first | (go_at_call 57; refine (tooLong_any _ _).mono ?_; rintro e w' ⟨rfl, hw1⟩; subst hw1) | (go_at_call 156; refine (setSize_any _ _ (by omega)).mono ?_; rintro e w' ⟨rfl, hw1⟩; subst hw1))
        go_ret
        exact ⟨ret_bool E.out, rfl⟩
      · have E : Hid (hb s m = false) := hb_out s m (by omega)
        go_enter Try.func157, Try.ntmps157
        go_wp2_with (first | (go_at_call 57; refine (tooLong_any _ _).mono ?_; rintro e w' ⟨rfl, hw1⟩; subst hw1) | (go_at_call 156; refine (setSize_any _ _ (by omega)).mono ?_; rintro e w' ⟨rfl, hw1⟩; subst hw1))
        go_ret
        exact ⟨ret_bool E.out.symm, rfl⟩
    · have E : Hid (hb s n = false) := hb_out s n (by omega)
      go_enter Try.func157, Try.ntmps157
      go_wp2_with (first | (go_at_call 57; refine (tooLong_any _ _).mono ?_; rintro e w' ⟨rfl, hw1⟩; subst hw1) | (go_at_call 156; refine (setSize_any _ _ (by omega)).mono ?_; rintro e w' ⟨rfl, hw1⟩; subst hw1))
      go_ret
      exact ⟨ret_bool E.out.symm, rfl⟩
  · have hd : decide (65536 < (s.size : Int)) = true := by simp; omega
    have E : Hid (hb s n = false) := hb_out s n (by omega)
    go_enter Try.func157, Try.ntmps157
    go_wp2_with (first | (go_at_call 57; refine (tooLong_any _ _).mono ?_; rintro e w' ⟨rfl, hw1⟩; subst hw1) | (go_at_call 156; refine (setSize_any _ _ (by omega)).mono ?_; rintro e w' ⟨rfl, hw1⟩; subst hw1))
    go_ret
    exact ⟨ret_bool E.out.symm, rfl⟩

theorem specHasBit_any (s : ByteArray) (n : Int) (w : World) (hs : s.size ≤ 140737488355328) (hn : n ≤ 9223372036854775807) :
    Calls Try.prog 130 #[.string s, .int .i64 n] w fun e w' => e = .returned (.bool (hb s n)) ∧ w' = w := by
  by_cases h1 : s.size ≤ 65536
  · by_cases h2 : 0 ≤ n
    · obtain ⟨m, rfl⟩ := Int.eq_ofNat_of_zero_le h2
      by_cases h3 : m < 8 * s.size
      · have i0 := fun w => idx_str s (m / 8) (by omega) w ((m : Int) / 8) (by omega)
        obtain ⟨a0, c0⟩ := bt_b s (m / 8)
        have E : Hid ((bits .and .u8 (bt s (m / 8) / 2 ^ (m % 8)) 1 == 1) = hb s m) := hb_in s m h1 h3
        go_enter Try.func130, Try.ntmps130
        go_wp2
        go_ret
        exact ⟨ret_bool E.out, rfl⟩
      · have E : Hid (hb s m = false) := hb_out s m (by omega)
        have h4 : ¬ ((m : Int) / 8 < (s.size : Int)) := by omega
        have h5 : decide ((m : Int) / 8 < (s.size : Int)) = false := by simpa using h4
        go_enter Try.func130, Try.ntmps130
        go_wp2
        go_ret
        exact ⟨ret_bool (by rw [E.out]; try simp; try omega), rfl⟩
    · have E : Hid (hb s n = false) := hb_out s n (by omega)
      have h5 : decide (0 ≤ n) = false := by simpa using h2
      go_enter Try.func130, Try.ntmps130
      go_wp2
      go_ret
      exact ⟨ret_bool (by rw [E.out]; try simp; try omega), rfl⟩
  · have E : Hid (hb s n = false) := hb_out s n (by omega)
    have h5 : decide ((s.size : Int) ≤ 65536) = false := by simp; omega
    go_enter Try.func130, Try.ntmps130
    go_wp2
    go_ret
    exact ⟨ret_bool (by rw [E.out]; try simp; try omega), rfl⟩
end Go.Proofs.Ytomfbiiegcmmlab
