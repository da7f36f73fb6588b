import Derived.Test.YtfagohdmepnkkaaTFl0
import Derived.Test.YtfagohdmepnkkaaMayB
namespace Go.Proofs.Ytfagohdmepnkkaa
open Go.ChangeShapes Go.WideShapes Go.ChangeAt Go.RowKit

/-- Which entry is asked for. -/
def fP (asid va : Int) (e : TE) : Bool := holdsB e va && (decide (e.asid = asid) || decide (e.flags / 128 % 2 = 1))
set_option maxRecDepth 100000 in
set_option maxHeartbeats 4000000 in
theorem findFn_any (z : TE) (hz : teOk z = true) (asid va : Int) (b1 b2 : Nat) (w : World) (c1 : w.cell? ⟨b1, 0, none⟩ = some (.int .i64 va)) (c2 : w.cell? ⟨b2, 0, none⟩ = some (.int .i64 asid)) (l1 : b1 < w.heap.size) (l2 : b2 < w.heap.size) : Calls Try.prog 87 #[teA z, .pointer (some ⟨b1, 0, none⟩), .pointer (some ⟨b2, 0, none⟩)] w fun e w' => e = .returned (.bool (fP asid va z)) ∧ Below w.heap.size w w' := by
  obtain ⟨q1, q2, q3, q4, q5⟩ := teOk_b hz
  have HH : Hid _ := fun w' => implHolds_any z va w' q2 (fun h => (q5 h).1)
  have hg : bits .and .i64 z.flags 128 = z.flags / 128 % 2 * 128 := and128 _ q4.1 (by omega)
  unfold fP
  obtain ⟨a, p, f, g, l⟩ := z
  simp only at hg
  unfold teA at HH ⊢
  generalize holdsB ⟨a, p, f, g, l⟩ va = hb at *
  clear q1 q2 q3 q5 hz
  have q41 : 0 ≤ g := q4.1
  clear q4
  have wz : Hid (w.heap.size < (w.alloc (.cells #[.int .i64 a, .int .i64 p, .int .i64 f, .int .i64 g, .bool l] 66)).heap.size) := (by show _ < _; simp)
  go_enter Try.func87, Try.ntmps87
  go_wp2_with (go_at_call 85; refine Calls.mono (HH.out _) ?_; rintro e u5 ⟨rfl, hu5⟩; have hz0 := (hu5.block w.heap.size wz.out).trans (heap_new _ _); obtain ⟨x0, x1, x2, x3, x4⟩ := cel5 hz0; have y1 : u5.cell? ⟨b1, 0, none⟩ = some (.int .i64 va) := (World.cell?_of_block ((hu5.block b1 (Nat.lt_trans l1 wz.out)).trans (Below.heap_alloc _ _ _ l1))).trans c1; have y2 : u5.cell? ⟨b2, 0, none⟩ = some (.int .i64 asid) := (World.cell?_of_block ((hu5.block b2 (Nat.lt_trans l2 wz.out)).trans (Below.heap_alloc _ _ _ l2))).trans c2; have HB : Hid (Below w.heap.size w u5) := bstep (Below.refl _ _) _ hu5; clear hu5 hz0)
  all_goals go_ret
  all_goals refine ⟨ret_bool ?_, HB.out⟩
  all_goals first
    | (simp [*]; done)
    | (rcases (by omega : g / 128 % 2 = 0 ∨ g / 128 % 2 = 1) with q | q <;> simp [*])
end Go.Proofs.Ytfagohdmepnkkaa
