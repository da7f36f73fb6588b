import Derived.Test.YtfagohdmepnkkaaTwoM
import Derived.Test.YtfagohdmepnkkaaTwoP
namespace Go.Proofs.Ytfagohdmepnkkaa
open Go.ChangeShapes Go.WideShapes Go.ChangeAt Go.RowKit

theorem memOk_size {a b : ByteArray} (h : memOk a = true) (e : b.size = a.size) : memOk b = true := by
  unfold memOk at h ⊢
  rw [e]
  exact h
theorem walkV_pa0 (s : ByteArray) (root va : Nat) (acc : Int) (user : Bool) (h : (walkV s root va acc user).fault = 0) : 0 ≤ (walkV s root va acc user).pa := by
  revert h
  rw [walk_fe]
  split
  · unfold finV
    have hb := wv_b s (feV s root va).2.2.1
    have hp := pgV_b (wv s (feV s root va).2.2.1) va (feV s root va).2.2.2 hb.1 hb.2
    split
    · split
      · intro _
        show 0 ≤ pgV _ _ _ * 256 + (va : Int) % 256
        omega
      · intro h
        cases h
    · intro h
      cases h
  · intro h
    cases h
end Go.Proofs.Ytfagohdmepnkkaa
