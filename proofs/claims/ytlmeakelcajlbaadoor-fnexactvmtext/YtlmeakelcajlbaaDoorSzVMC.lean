import Derived.Test.YtlmeakelcajlbaaDoorRowVMC4
import Derived.Test.YtlmeakelcajlbaaDoorLG
import Derived.Deep.DeepCutAuto
import Derived.WalkKit
import Derived.ProofKit
import Derived.OpenShut
namespace Go.Proofs.YtlmeakelcajlbaaDoor
open Go.ChangeShapes Go.WideShapes Go.ChangeAt Go.RowKit

set_option maxRecDepth 100000 in
set_option maxHeartbeats 4000000 in
theorem szVMC_w (z : VMC) (l : Int) (w : World) (h0 : 0 ≤ l) (h1 : l ≤ 1048576) (m0 : z.name.size ≤ maxLen) (m1 : z.node.size ≤ maxLen) :
    Calls Tryd.prog 4 #[.agg #[.string z.name, .int .i64 z.tenant, .int .i64 z.cpu, .int .i64 z.mem, .int .i64 z.zone, .int .i64 z.apart, .string z.node, .int .i64 z.epoch], .int .i64 l] w fun e w' => ∃ q, e = .returned (.int .i64 q) ∧ -1 ≤ q ∧ q ≤ 1048576 ∧ (0 ≤ q → z.name.size ≤ 1048576 ∧ z.node.size ≤ 1048576) ∧ Below w.heap.size w w' := by
  have q0 : z.name.size ≤ 9223372036854775807 := by unfold maxLen at m0; omega
  have q1 : z.node.size ≤ 9223372036854775807 := by unfold maxLen at m1; omega
  clear m0 m1
  have HB : Hid (Below w.heap.size w (w.alloc (.cells #[.string z.name, .int .i64 z.tenant, .int .i64 z.cpu, .int .i64 z.mem, .int .i64 z.zone, .int .i64 z.apart, .string z.node, .int .i64 z.epoch] 23))) := (Below.refl _ _).alloc (Nat.le_refl _) _
  cases h3 : decide (l - (z.name.size : Int) < 0)
  · have g3 := of_decide_eq_false h3
    cases h4 : decide (l - (z.name.size : Int) - (z.node.size : Int) < 0)
    · have g4 := of_decide_eq_false h4
      go_enter Tryd.func4, Tryd.ntmps4
      go_wp2
      go_ret
      exact ⟨_, rfl, by omega, by omega, fun hh => by omega, HB.out⟩
    · skip
      go_enter Tryd.func4, Tryd.ntmps4
      go_wp2
      go_ret
      exact ⟨_, rfl, by omega, by omega, fun hh => by omega, HB.out⟩
  · skip
    go_enter Tryd.func4, Tryd.ntmps4
    go_wp2
    go_ret
    exact ⟨_, rfl, by omega, by omega, fun hh => by omega, HB.out⟩
end Go.Proofs.YtlmeakelcajlbaaDoor
