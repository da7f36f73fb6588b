import Derived.Test.YtlmeakelcajlbaaDoorFault
namespace Go.Proofs.YtlmeakelcajlbaaDoor
open Go.ChangeShapes Go.WideShapes Go.ChangeAt Go.RowKit

def beg (s p : ByteArray) : Bool := decide (p.size ≤ s.size) && ((s.extract 0 p.size).toList == p.toList)
theorem sl_to (s : ByteArray) (k : Nat) (h : k ≤ s.size) (w : World) : Sem.run Tryd.prog (Instr.slice 9 (.string s) none (some (.int .i64 (k : Int))) none) w = .ok (.string (s.extract 0 k)) w := by
  rw [run_slice_string_to_if _ _ _ _ _ Tryd.underlying9, if_pos (by omega)]
  rfl

end Go.Proofs.YtlmeakelcajlbaaDoor
