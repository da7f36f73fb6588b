import Derived.Test.YtaobbddecmhpnaaCh3
import Derived.Test.YtaobbddecmhpnaaSfZ
namespace Go.Proofs.Ytaobbddecmhpnaa
open Go.ChangeShapes Go.WideShapes Go.ChangeAt Go.RowKit

set_option maxRecDepth 100000
def s1B (ms : List IM) (k : Nat) (hk : k < ms.length) : Bool := imB ms[k] && decide (fdI ms ms[k].n = k)
theorem c1_of {ms : List IM} (h12 : ms.length ≤ 12) {k : Nat} (hk : k < ms.length) : c1B ms k hk = (s1B ms k hk && ceI ms 14 k) := by
  have e : ceI ms ms.length k = ceI ms 14 k := by
    cases hq : ceI ms 14 k with
    | true => exact ceI_len hk hq
    | false =>
      cases hq2 : ceI ms ms.length k with
      | false => rfl
      | true => rw [ceI_le hq2 (by omega)] at hq; cases hq
  unfold c1B s1B
  rw [e]
end Go.Proofs.Ytaobbddecmhpnaa
