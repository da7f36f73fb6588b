import Derived.Test.YtfgbiflfamgggaaWalkM
import Derived.Test.YtfgbiflfamgggaaJoinedCore
import Derived.Deep.QuietTactic
import Derived.BigQuiet
import Derived.Deep.RegionWith
namespace Go.Proofs.Ytfgbiflfamgggaa
open Go.ChangeShapes Go.WideShapes Go.ChangeAt Go.RowKit

theorem l03Entry_yes (s : ByteArray) (t k : Nat) (w : World) (h : (t + 1) * 256 ≤ s.size) (hk : k ≤ 31) (hs : s.size ≤ 65536) :
    Calls Try.prog 34 #[.string s, .int .i64 t, .int .i64 k] w fun e w' => e = .returned (.tuple #[.int .i64 (wv s (t * 256 + 4 * k)), .bool true]) ∧ ∃ q, w' = w.drewN q := by
  have hc : ¬ ((t : Int) + 1) * 256 > (s.size : Int) := by omega
  have E : Hid ((t : Int) * 256 + 4 * (k : Int) = ((t * 256 + 4 * k : Nat) : Int)) := by
    show _ = _
    omega
  have T : Hid (t ≤ 255) := by
    show t ≤ 255
    omega
  go_enter Try.func34, Try.ntmps34
  go_wp2_with (go_at_call 32; rw [E.out]; refine (l01Word_any _ _ _ (by omega) (by omega)).mono ?_; rintro e w' ⟨rfl, q, rfl⟩)
  exact bodyPost_ret (v := .tuple #[.int .i64 (wv s (t * 256 + 4 * k)), .bool true]) (by simp [results, Try.results34, go_sem]) rfl ⟨rfl, q, rfl⟩
theorem l03Entry_no (s : ByteArray) (t k : Int) (w : World) (h : (s.size : Int) < (t + 1) * 256) (h0 : 0 ≤ t) (h1 : t ≤ 16777216) :
    Calls Try.prog 34 #[.string s, .int .i64 t, .int .i64 k] w fun e w' => e = .returned (.tuple #[.int .i64 0, .bool false]) ∧ w' = w := by
  go_enter Try.func34, Try.ntmps34
  go_wp2
  exact bodyPost_ret (v := .tuple #[.int .i64 0, .bool false]) (by simp [results, Try.results34, go_sem]) rfl ⟨rfl, rfl⟩
end Go.Proofs.Ytfgbiflfamgggaa
