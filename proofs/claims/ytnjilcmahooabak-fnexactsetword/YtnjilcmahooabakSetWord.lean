import Derived.Test.YtnjilcmahooabakGetWord
import Derived.Test.YtnjilcmahooabakPutWord
import Derived.Test.YtnjilcmahooabakJoined
import Derived.Deep.RegionWith
namespace Go.Proofs.Ytnjilcmahooabak
open Go.ChangeShapes Go.WideShapes Go.ChangeAt Go.RowKit

theorem joined3 (u : World) (a b c : ByteArray) (hsz : a.size + b.size + c.size ≤ 1099511627776) :
    Calls Try.prog 30 #[.slice (some ⟨u.heap.size, 0, none⟩) 3 3] (u.alloc (.cells #[.string a, .string b, .string c] 9)) fun e w' => e = .returned (.string ⟨(catB [a, b, c]).toArray⟩) ∧ Below u.heap.size u w' := by
  refine (joined_any u.heap.size 3 3 [a, b, c] _ rfl (by simp) ?_ (by omega) ?_).mono ?_
  · intro i hi
    match i, hi with
    | 0, _ => simp
    | 1, _ => simp
    | 2, _ => simp
  · simp [catB]
    omega
  · rintro e w' ⟨rfl, hb⟩
    exact ⟨rfl, ((Below.refl u.heap.size u).alloc (Nat.le_refl _) _).trans (hb.mono (by simp))⟩

theorem fld0 (g : Bool) (x : Int) (w : World) : Sem.run Try.prog (Instr.field 29 (.agg #[.bool g, .int .i64 x]) 0) w = .ok (.bool g) w := by kernel_rfl
theorem pw_size (n : Int) : (pw n).size = 4 := rfl
theorem ext_size (s : ByteArray) (a b : Nat) : (s.extract a b).size ≤ s.size := by rw [ByteArray.size_extract]; omega

theorem bdr {u v : World} (h : Below u.drew.heap.size u.drew v) : Below u.heap.size u v := ⟨h.os, h.tape, h.output, h.size, h.block⟩
def setv (s : ByteArray) (k : Nat) (n : Int) : ByteArray := s.extract 0 k ++ pw n ++ s.extract (k + 4) s.size
theorem cat3 (a b c : ByteArray) : (⟨(catB [a, b, c]).toArray⟩ : ByteArray) = a ++ b ++ c := by
  apply ByteArray.ext
  apply Array.ext'
  simp [catB, ByteArray.data_append]

theorem sl_to (s : ByteArray) (k : Nat) (h : k ≤ s.size) (w : World) : Sem.run Try.prog (Instr.slice 9 (.string s) none (some (.int .i64 (k : Int))) none) w = .ok (.string (s.extract 0 k)) w := by
  rw [run_slice_string_to_if _ _ _ _ _ Try.underlying9, if_pos (by omega)]
  rfl
theorem sl_from (s : ByteArray) (k : Nat) (h : k + 4 ≤ s.size) (w : World) : Sem.run Try.prog (Instr.slice 9 (.string s) (some (.int .i64 ((k : Int) + 4))) none none) w = .ok (.string (s.extract (k + 4) s.size)) w := by
  rw [run_slice_string_from_if _ _ _ _ _ Try.underlying9, if_pos (by omega)]
  rfl

set_option maxHeartbeats 1000000 in
theorem specSetWord_yes (s : ByteArray) (k : Nat) (n : Int) (w : World) (h : k + 4 ≤ s.size) (hs : s.size ≤ 65536) :
    Calls Try.prog 18 #[.string s, .int .i64 k, .int .i64 n] w fun e w' => e = .returned (.string (setv s k n)) ∧ Below w.heap.size w w' := by
  have hs1 := sl_to s k (by omega)
  have hs2 := sl_from s k (by omega)
  have h4 : (k : Int) + 4 ≤ (s.size : Int) := by omega
  have hwr : IntKind.i64.wrap ((k : Int) + 4) = (k : Int) + 4 := by rw [IntKind.wrap_i64]; omega
  have hpw := pw_size n
  have z1 := ext_size s 0 k
  have z2 := ext_size s (k + 4) s.size
  have c1 := fun w => run_string_add_sum (P := Try.prog) w (s.extract 0 k) (pw n) (by omega)
  have c2 := fun w => run_string_add_sum (P := Try.prog) w (s.extract 0 k ++ pw n) (s.extract (k + 4) s.size) (by rw [ByteArray.size_append']; omega)
  clear z1 z2 hpw
  have hf := fun (g : Bool) (x : Int) (w : World) => fld0 g x w
  go_enter Try.func18, Try.ntmps18
  go_wp2_with (go_at_call 15; refine (specGetWord_yes _ _ _ h hs).mono ?_; rintro e u1 ⟨rfl, hw1⟩)
  go_region_with (go_at_call 13; refine (specPutWord_any _ _).mono ?_; rintro e u2 ⟨rfl, hw2⟩)
  all_goals
    go_wp2
    go_ret
    exact ⟨rfl, hw1.trans ((bdr hw2).mono hw1.size)⟩

theorem specSetWord_no (s : ByteArray) (k n : Int) (w : World) (h : hwd s k = false) :
    Calls Try.prog 18 #[.string s, .int .i64 k, .int .i64 n] w fun e w' => e = .returned (.string ⟨#[]⟩) ∧ Below w.heap.size w w' := by
  have hf := fun (g : Bool) (x : Int) (w : World) => fld0 g x w
  go_enter Try.func18, Try.ntmps18
  go_wp2_with (go_at_call 15; refine (specGetWord_no _ _ _ h).mono ?_; rintro e u1 ⟨rfl, hw1⟩)
  go_ret
  exact ⟨rfl, hw1⟩

theorem implSetWord_no (s : ByteArray) (k n : Int) (w : World) (h : hwd s k = false) :
    Calls Try.prog 19 #[.string s, .int .i64 k, .int .i64 n] w fun e w' => e = .returned (.string ⟨#[]⟩) ∧ Below w.heap.size w w' := by
  go_enter Try.func19, Try.ntmps19
  go_wp2_with (go_at_call 29; refine (holdsWord_any _ _ _).mono ?_; rintro e u1 ⟨rfl, hw1⟩; subst hw1)
  go_ret
  exact ⟨rfl, Below.refl _ _⟩

end Go.Proofs.Ytnjilcmahooabak
