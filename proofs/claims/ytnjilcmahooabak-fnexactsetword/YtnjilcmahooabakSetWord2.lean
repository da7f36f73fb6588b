import Derived.Test.YtnjilcmahooabakSetWord
namespace Go.Proofs.Ytnjilcmahooabak
open Go.ChangeShapes Go.WideShapes Go.ChangeAt Go.RowKit

set_option maxHeartbeats 4000000 in
theorem implSetWord_yes (s : ByteArray) (k : Nat) (n : Int) (w : World) (hh : hwd s k = true) (h : k + 4 ≤ s.size) (hs : s.size ≤ 65536) :
    Calls Try.prog 19 #[.string s, .int .i64 k, .int .i64 n] w fun e w' => e = .returned (.string (setv s k n)) ∧ Below w.heap.size w w' := by
  have hs1 := sl_to s k (by omega)
  have hs2 := sl_from s k (by omega)
  have h4 : (k : Int) + 4 ≤ (s.size : Int) := by omega
  have hwr : IntKind.i64.wrap ((k : Int) + 4) = (k : Int) + 4 := by rw [IntKind.wrap_i64]; omega
  have hsz : (s.extract 0 k).size + (pw n).size + (s.extract (k + 4) s.size).size ≤ 1099511627776 := by
    have h1 := ext_size s 0 k
    have h2 := ext_size s (k + 4) s.size
    rw [pw_size]
    omega
  go_enter Try.func19, Try.ntmps19
  go_wp2_with (go_at_call 29; refine (holdsWord_any _ _ _).mono ?_; rintro e u1 ⟨rfl, hw1⟩; subst hw1)
  go_region_with (first | (go_at_call 14; refine (implPutWord_any _ _).mono ?_; rintro e u2 ⟨rfl, hw2⟩) | (go_at_call 30; refine (joined3 _ _ _ _ hsz).mono ?_; rintro e u3 ⟨rfl, hw3⟩))
  all_goals
    go_wp2
    go_ret
    exact ⟨ret_str (cat3 _ _ _), (bdr hw2).trans (hw3.mono hw2.size)⟩
end Go.Proofs.Ytnjilcmahooabak
