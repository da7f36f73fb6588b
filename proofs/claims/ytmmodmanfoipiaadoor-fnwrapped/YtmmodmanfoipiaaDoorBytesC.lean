import Derived.Test.YtmmodmanfoipiaaDoorRows
import Derived.Test.YtmmodmanfoipiaaDoorPlain
import Derived.WalkLawsBesides
import Derived.Deep.QuietTactic
import Derived.BigQuiet
namespace Go.Proofs.YtmmodmanfoipiaaDoor
open Go.ChangeShapes Go.WideShapes Go.ChangeAt Go.RowKit

def bt (s : ByteArray) (k : Nat) : Int := if h : k < s.size then (s[k].toNat : Int) else 0
theorem bt_b (s : ByteArray) (k : Nat) : 0 ≤ bt s k ∧ bt s k ≤ 255 := by
  unfold bt; split
  · rename_i h; have := s[k].toNat_lt; omega
  · omega
theorem bt_eq (s : ByteArray) (k : Nat) (h : k < s.size) : (s[k].toNat : Int) = bt s k := by unfold bt; rw [dif_pos h]

theorem idx_str (s : ByteArray) (k : Nat) (h : k < s.size) : ∀ (w : World) (i : Int), i = k → Sem.run Tryd.prog (Instr.index 9 (.string s) (.int .i64 i)) w = .ok (.int .u8 (bt s k)) w := by
  intro w i hi
  subst hi
  rw [run_index_string _ _ _ _ _ Tryd.underlying9, dif_pos (by omega)]
  rw [← bt_eq s k h]
  rfl

end Go.Proofs.YtmmodmanfoipiaaDoor
