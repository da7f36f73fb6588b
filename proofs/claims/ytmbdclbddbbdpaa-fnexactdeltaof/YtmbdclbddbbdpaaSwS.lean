import Derived.Test.YtmbdclbddbbdpaaWords
import Derived.Test.YtmbdclbddbbdpaaNums
import Derived.Test.YtmbdclbddbbdpaaBytes
import Derived.Test.YtmbdclbddbbdpaaPutWord
import Derived.WalkLawsBesides
import Derived.Deep.QuietTactic
import Derived.BigQuiet
import Derived.Deep.RegionWith
namespace Go.Proofs.Ytmbdclbddbbdpaa
open Go.ChangeShapes Go.WideShapes Go.ChangeAt Go.RowKit

def hwd (s : ByteArray) (at_ : Int) : Bool := decide (s.size ≤ 65536 ∧ 0 ≤ at_ ∧ at_ ≤ (s.size : Int) - 4)
def wv (s : ByteArray) (k : Nat) : Int := bt s k + bt s (k + 1) * 256 + bt s (k + 2) * 65536 + bt s (k + 3) * 16777216
theorem pw_size (n : Int) : (pw n).size = 4 := rfl
theorem ext_size (s : ByteArray) (a b : Nat) : (s.extract a b).size ≤ s.size := by rw [ByteArray.size_extract]; omega
theorem bdr {u v : World} (h : Below u.drew.heap.size u.drew v) : Below u.heap.size u v := ⟨h.os, h.tape, h.output, h.size, h.block⟩
def setv (s : ByteArray) (k : Nat) (n : Int) : ByteArray := s.extract 0 k ++ pw n ++ s.extract (k + 4) s.size
theorem sl_to (s : ByteArray) (k : Nat) (h : k ≤ s.size) (w : World) : Sem.run Try.prog (Instr.slice 9 (.string s) none (some (.int .i64 (k : Int))) none) w = .ok (.string (s.extract 0 k)) w := by
  rw [run_slice_string_to_if _ _ _ _ _ Try.underlying9, if_pos (by omega)]
  rfl
theorem sl_from (s : ByteArray) (k : Nat) (h : k + 4 ≤ s.size) (w : World) : Sem.run Try.prog (Instr.slice 9 (.string s) (some (.int .i64 ((k : Int) + 4))) none none) w = .ok (.string (s.extract (k + 4) s.size)) w := by
  rw [run_slice_string_from_if _ _ _ _ _ Try.underlying9, if_pos (by omega)]
  rfl
end Go.Proofs.Ytmbdclbddbbdpaa
