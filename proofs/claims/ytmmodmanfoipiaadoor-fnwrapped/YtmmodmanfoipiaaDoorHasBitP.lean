import Derived.Test.YtmmodmanfoipiaaDoorBytes
import Derived.Laws.BitsAllLaws
namespace Go.Proofs.YtmmodmanfoipiaaDoor
open Go.ChangeShapes Go.WideShapes Go.ChangeAt Go.RowKit

def bitv (s : ByteArray) (m : Nat) : Int := bt s (m / 8) / 2 ^ (m % 8) % 2
def hbn (s : ByteArray) (m : Nat) : Bool := bitv s m == 1
def hb (s : ByteArray) (n : Int) : Bool := decide (s.size ≤ 65536 ∧ 0 ≤ n ∧ n < 8 * (s.size : Int)) && hbn s n.toNat

theorem and1 (x : Int) (h0 : 0 ≤ x) (h1 : x ≤ 255) : bits .and .u8 x 1 = x % 2 := by
  rw [u8_and x 1 h0 (by omega) (by omega) (by omega)]
  obtain ⟨X, rfl⟩ := Int.eq_ofNat_of_zero_le h0
  rw [Int.toNat_natCast, show (1 : Int).toNat = 1 from rfl, nat_mask1]
  omega
theorem bitq (s : ByteArray) (m : Nat) : 0 ≤ bt s (m / 8) / 2 ^ (m % 8) ∧ bt s (m / 8) / 2 ^ (m % 8) ≤ 255 := by
  have ⟨a, c⟩ := bt_b s (m / 8)
  have p : (0 : Int) < 2 ^ (m % 8) := Int.pow_pos (by omega)
  exact ⟨Int.ediv_nonneg a (by omega), Int.le_trans (Int.ediv_le_self _ a) c⟩

theorem hb_in (s : ByteArray) (m : Nat) (hs : s.size ≤ 65536) (hm : m < 8 * s.size) : (bits .and .u8 (bt s (m / 8) / 2 ^ (m % 8)) 1 == 1) = hb s m := by
  obtain ⟨a, c⟩ := bitq s m
  rw [and1 _ a c]
  unfold hb
  rw [Int.toNat_natCast, show decide (s.size ≤ 65536 ∧ 0 ≤ (m : Int) ∧ (m : Int) < 8 * (s.size : Int)) = true from by simp; omega, Bool.true_and]
  rfl

theorem hb_out (s : ByteArray) (n : Int) (h : ¬ (s.size ≤ 65536 ∧ 0 ≤ n ∧ n < 8 * (s.size : Int))) : hb s n = false := by
  unfold hb
  rw [decide_eq_false h]; rfl

end Go.Proofs.YtmmodmanfoipiaaDoor
