import Derived.Test.YtmbdclbddbbdpaaHasBitP
import Derived.Laws.BitsAllLaws
namespace Go.Proofs.Ytmbdclbddbbdpaa
open Go.ChangeShapes Go.WideShapes Go.ChangeAt Go.RowKit

theorem specHasBit_any (s : ByteArray) (n : Int) (w : World) (hs : s.size ≤ 140737488355328) (hn : n ≤ 9223372036854775807) :
    Calls Try.prog 62 #[.string s, .int .i64 n] w fun e w' => e = .returned (.bool (hb s n)) ∧ w' = w := by
  by_cases h1 : s.size ≤ 65536
  · by_cases h2 : 0 ≤ n
    · obtain ⟨m, rfl⟩ := Int.eq_ofNat_of_zero_le h2
      by_cases h3 : m < 8 * s.size
      · have i0 := fun w => idx_str s (m / 8) (by omega) w ((m : Int) / 8) (by omega)
        obtain ⟨a0, c0⟩ := bt_b s (m / 8)
        have E : Hid ((bits .and .u8 (bt s (m / 8) / 2 ^ (m % 8)) 1 == 1) = hb s m) := hb_in s m h1 h3
        go_enter Try.func62, Try.ntmps62
        go_wp2
        go_ret
        exact ⟨ret_bool E.out, rfl⟩
      · have E : Hid (hb s m = false) := hb_out s m (by omega)
        have h4 : ¬ ((m : Int) / 8 < (s.size : Int)) := by omega
        have h5 : decide ((m : Int) / 8 < (s.size : Int)) = false := by simpa using h4
        go_enter Try.func62, Try.ntmps62
        go_wp2
        go_ret
        exact ⟨ret_bool (by rw [E.out]; try simp; try omega), rfl⟩
    · have E : Hid (hb s n = false) := hb_out s n (by omega)
      have h5 : decide (0 ≤ n) = false := by simpa using h2
      go_enter Try.func62, Try.ntmps62
      go_wp2
      go_ret
      exact ⟨ret_bool (by rw [E.out]; try simp; try omega), rfl⟩
  · have E : Hid (hb s n = false) := hb_out s n (by omega)
    have h5 : decide ((s.size : Int) ≤ 65536) = false := by simp; omega
    go_enter Try.func62, Try.ntmps62
    go_wp2
    go_ret
    exact ⟨ret_bool (by rw [E.out]; try simp; try omega), rfl⟩
end Go.Proofs.Ytmbdclbddbbdpaa
