import Derived.Test.YtkicaihfknfgkaaDoorFault
namespace Go.Proofs.YtkicaihfknfgkaaDoor
open Go.ChangeShapes Go.WideShapes Go.ChangeAt Go.RowKit

def beg (s p : ByteArray) : Bool := decide (p.size ≤ s.size) && ((s.extract 0 p.size).toList == p.toList)
theorem sl_to (s : ByteArray) (k : Nat) (h : k ≤ s.size) (w : World) : Sem.run Tryd.prog (Instr.slice 9 (.string s) none (some (.int .i64 (k : Int))) none) w = .ok (.string (s.extract 0 k)) w := by
  rw [run_slice_string_to_if _ _ _ _ _ Tryd.underlying9, if_pos (by omega)]
  rfl

set_option maxHeartbeats 1000000 in
theorem l01Begins_any (s p : ByteArray) (w : World) :
    Calls Tryd.prog 24 #[.string s, .string p] w fun e w' => e = .returned (.bool (beg s p)) ∧ w' = w := by
  by_cases h : p.size ≤ s.size
  · rw [show beg s p = ((s.extract 0 p.size).toList == p.toList) from by unfold beg; rw [decide_eq_true h]; rfl]
    have hsl := sl_to s p.size h
    go_enter Tryd.func24, Tryd.ntmps24
    go_wp2
    go_ret
    exact ⟨rfl, rfl⟩
  · rw [show beg s p = false from by unfold beg; rw [decide_eq_false h]; rfl]
    go_enter Tryd.func24, Tryd.ntmps24
    go_wp2
    go_ret
    exact ⟨rfl, rfl⟩
end Go.Proofs.YtkicaihfknfgkaaDoor
