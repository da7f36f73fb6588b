import Derived.Test.YtfagohdmepnkkaaWords
import Derived.Test.YtfagohdmepnkkaaNums
import Derived.Test.YtfagohdmepnkkaaBytes
import Derived.Test.YtfagohdmepnkkaaPutWord
import Derived.WalkLawsBesides
import Derived.Deep.QuietTactic
import Derived.BigQuiet
import Derived.Deep.RegionWith
namespace Go.Proofs.Ytfagohdmepnkkaa
open Go.ChangeShapes Go.WideShapes Go.ChangeAt Go.RowKit

def hwd (s : ByteArray) (at_ : Int) : Bool := decide (s.size ≤ 65536 ∧ 0 ≤ at_ ∧ at_ ≤ (s.size : Int) - 4)
def wv (s : ByteArray) (k : Nat) : Int := bt s k + bt s (k + 1) * 256 + bt s (k + 2) * 65536 + bt s (k + 3) * 16777216
theorem l01Word_any (s : ByteArray) (k : Nat) (w : World) (h : k + 4 ≤ s.size) (hs : s.size ≤ 65536) :
    Calls Try.prog 40 #[.string s, .int .i64 k] w fun e w' => e = .returned (.int .i64 (wv s k)) ∧ ∃ q, w' = w.drewN q := by
  have i0 := fun w => idx_str s k (by omega) w k rfl
  have i1 := fun w => idx_str s (k + 1) (by omega) w (k + 1) (by omega)
  have i2 := fun w => idx_str s (k + 2) (by omega) w (k + 2) (by omega)
  have i3 := fun w => idx_str s (k + 3) (by omega) w (k + 3) (by omega)
  obtain ⟨a0, c0⟩ := bt_b s k
  obtain ⟨a1, c1⟩ := bt_b s (k + 1)
  obtain ⟨a2, c2⟩ := bt_b s (k + 2)
  obtain ⟨a3, c3⟩ := bt_b s (k + 3)
  go_enter Try.func40, Try.ntmps40
  go_wp2
  go_quiet (fail)
  go_wp2
  go_ret
  exact ⟨rfl, nq, rfl⟩
theorem specGetWord_yes (s : ByteArray) (k : Nat) (w : World) (h : k + 4 ≤ s.size) (hs : s.size ≤ 65536) :
    Calls Try.prog 89 #[.string s, .int .i64 k] w fun e w' => e = .returned (.agg #[.bool true, .int .i64 (wv s k)]) ∧ Below w.heap.size w w' := by
  have hd : decide (65536 < (s.size : Int)) = false := by simp; omega
  go_enter Try.func89, Try.ntmps89
  go_wp2_with (go_at_call 40; refine (l01Word_any _ _ _ h hs).mono ?_; rintro e w' ⟨rfl, q, rfl⟩)
  exact bodyPost_ret (v := .agg #[.bool true, .int .i64 (wv s k)]) (by simp [results, Try.results89, go_sem]) rfl ⟨rfl, ((bdn ((Below.refl _ _).alloc (Nat.le_refl _) _) q).setCell (by simp) _).setCell (by simp) _⟩
theorem specGetWord_no (s : ByteArray) (k : Int) (w : World) (h : hwd s k = false) :
    Calls Try.prog 89 #[.string s, .int .i64 k] w fun e w' => e = .returned (.agg #[.bool false, .int .i64 0]) ∧ Below w.heap.size w w' := by
  by_cases h1 : 65536 < (s.size : Int)
  · go_enter Try.func89, Try.ntmps89
    go_wp2
    exact bodyPost_ret (v := .agg #[.bool false, .int .i64 0]) (by simp [results, Try.results89, go_sem]) rfl ⟨rfl, (Below.refl _ _).alloc (Nat.le_refl _) _⟩
  · by_cases h2 : k < 0
    · go_enter Try.func89, Try.ntmps89
      go_wp2
      exact bodyPost_ret (v := .agg #[.bool false, .int .i64 0]) (by simp [results, Try.results89, go_sem]) rfl ⟨rfl, (Below.refl _ _).alloc (Nat.le_refl _) _⟩
    · have h3 : (s.size : Int) - 4 < k := by simp [hwd] at h; omega
      go_enter Try.func89, Try.ntmps89
      go_wp2
      exact bodyPost_ret (v := .agg #[.bool false, .int .i64 0]) (by simp [results, Try.results89, go_sem]) rfl ⟨rfl, (Below.refl _ _).alloc (Nat.le_refl _) _⟩
theorem fld0 (g : Bool) (x : Int) (w : World) : Sem.run Try.prog (Instr.field 138 (.agg #[.bool g, .int .i64 x]) 0) w = .ok (.bool g) w := by kernel_rfl
theorem pw_size (n : Int) : (pw n).size = 4 := rfl
theorem ext_size (s : ByteArray) (a b : Nat) : (s.extract a b).size ≤ s.size := by rw [ByteArray.size_extract]; omega
theorem bdr {u v : World} (h : Below u.drew.heap.size u.drew v) : Below u.heap.size u v := ⟨h.os, h.tape, h.output, h.size, h.block⟩
def setv (s : ByteArray) (k : Nat) (n : Int) : ByteArray := s.extract 0 k ++ pw n ++ s.extract (k + 4) s.size
theorem sl_to (s : ByteArray) (k : Nat) (h : k ≤ s.size) (w : World) : Sem.run Try.prog (Instr.slice 9 (.string s) none (some (.int .i64 (k : Int))) none) w = .ok (.string (s.extract 0 k)) w := by
  rw [run_slice_string_to_if _ _ _ _ _ Try.underlying9, if_pos (by omega)]
  rfl
theorem sl_from (s : ByteArray) (k : Nat) (h : k + 4 ≤ s.size) (w : World) : Sem.run Try.prog (Instr.slice 9 (.string s) (some (.int .i64 ((k : Int) + 4))) none none) w = .ok (.string (s.extract (k + 4) s.size)) w := by
  rw [run_slice_string_from_if _ _ _ _ _ Try.underlying9, if_pos (by omega)]
  rfl
set_option maxHeartbeats 1000000 in
theorem specSetWord_yes (s : ByteArray) (k : Nat) (n : Int) (w : World) (h : k + 4 ≤ s.size) (hs : s.size ≤ 65536) :
    Calls Try.prog 42 #[.string s, .int .i64 k, .int .i64 n] w fun e w' => e = .returned (.string (setv s k n)) ∧ Below w.heap.size w w' := by
  have hs1 := sl_to s k (by omega)
  have hs2 := sl_from s k (by omega)
  have h4 : (k : Int) + 4 ≤ (s.size : Int) := by omega
  have hwr : IntKind.i64.wrap ((k : Int) + 4) = (k : Int) + 4 := by rw [IntKind.wrap_i64]; omega
  have hpw := pw_size n
  have z1 := ext_size s 0 k
  have z2 := ext_size s (k + 4) s.size
  have c1 := fun w => run_string_add_sum (P := Try.prog) w (s.extract 0 k) (pw n) (by omega)
  have c2 := fun w => run_string_add_sum (P := Try.prog) w (s.extract 0 k ++ pw n) (s.extract (k + 4) s.size) (by rw [ByteArray.size_append']; omega)
  clear z1 z2 hpw
  have hf := fun (g : Bool) (x : Int) (w : World) => fld0 g x w
  go_enter Try.func42, Try.ntmps42
  go_wp2_with (go_at_call 89; refine (specGetWord_yes _ _ _ h hs).mono ?_; rintro e u1 ⟨rfl, hw1⟩)
  go_region_with (go_at_call 90; refine (specPutWord_any _ _).mono ?_; rintro e u2 ⟨rfl, hw2⟩)
  all_goals
    go_wp2
    go_ret
    exact ⟨rfl, hw1.trans ((bdr hw2).mono hw1.size)⟩
theorem specSetWord_no (s : ByteArray) (k n : Int) (w : World) (h : hwd s k = false) :
    Calls Try.prog 42 #[.string s, .int .i64 k, .int .i64 n] w fun e w' => e = .returned (.string ⟨#[]⟩) ∧ Below w.heap.size w w' := by
  have hf := fun (g : Bool) (x : Int) (w : World) => fld0 g x w
  go_enter Try.func42, Try.ntmps42
  go_wp2_with (go_at_call 89; refine (specGetWord_no _ _ _ h).mono ?_; rintro e u1 ⟨rfl, hw1⟩)
  go_ret
  exact ⟨rfl, hw1⟩
end Go.Proofs.Ytfagohdmepnkkaa
