import Derived.Test.YtomfbiiegcmmlabMp1
namespace Go.Proofs.Ytomfbiiegcmmlab
open Go.ChangeShapes Go.WideShapes Go.ChangeAt Go.RowKit

set_option maxRecDepth 100000
def drB (d : ByteArray) (n : Nat) : Bool := decide (d.size ≤ 4) && decide (nxt d n true < 0)
set_option maxHeartbeats 4000000 in
theorem dirty_any {w : World} {B n ks : Nat} {az : Option Addr} {d : ByteArray} (c0 : w.cell? ⟨B, 0, none⟩ = some (.slice az n ks)) (c1 : w.cell? ⟨B, 1, none⟩ = some (.string d)) (hn : n ≤ 1048576) : Calls Try.prog 106 #[.pointer (some ⟨B, 0, none⟩)] w fun e w' => e = .returned (.bool (drB d n)) ∧ Below w.heap.size w w' := by
  have HNB : Hid (∀ (u : World), Calls Try.prog 134 #[.string d, .int .i64 n, .bool true] u fun e w' => e = .returned (.int .i64 (nxt d n true)) ∧ w' = u) := fun u => implNextBit_any d n true u (by omega)
  have HBB : Hid (∀ q, Below w.heap.size w (w.drewN q)) := fun q => bdn (Below.refl _ _) q
  by_cases t : d.size ≤ 4
  · have hd : decide ((d.size : Int) ≤ 4) = true := decide_eq_true (by omega)
    have HQ : Hid (drB d n = decide (nxt d n true < 0)) := (show drB d n = _ by unfold drB; rw [decide_eq_true t, Bool.true_and])
    rw [HQ.out]
    clear HQ t
    generalize nxt d n true = nx at *
    go_enter Try.func106, Try.ntmps106
    go_wp2_with fail
    go_quiet ((go_at_call 134; exact Calls.quiet_of_same (HNB.out _)))
    go_wp2
    go_ret
    exact ⟨rfl, HBB.out _⟩
  · have hd : decide ((d.size : Int) ≤ 4) = false := decide_eq_false (by omega)
    have HQ : Hid (drB d n = false) := (show drB d n = _ by unfold drB; rw [decide_eq_false t, Bool.false_and])
    rw [HQ.out]
    clear HQ t
    go_enter Try.func106, Try.ntmps106
    go_wp2_with fail
    go_quiet (fail)
    go_wp2
    go_ret
    exact ⟨rfl, HBB.out _⟩
end Go.Proofs.Ytomfbiiegcmmlab
