import Derived.Test.YtomfbiiegcmmlabMp2
import Derived.Test.YtomfbiiegcmmlabIdxMG
namespace Go.Proofs.Ytomfbiiegcmmlab
open Go.ChangeShapes Go.WideShapes Go.ChangeAt Go.RowKit

set_option maxRecDepth 100000
/-- A guest within its bounds. -/
def bgB (g : GS) : Bool := decide (g.ss.length ≤ 32) && drB g.d g.ss.length
set_option maxHeartbeats 4000000 in
theorem bounded1_any {w : World} {g : GS} {az ah : Option Addr} {ks kh : Nat} (hgs : g.ss.length ≤ 1048576) : Calls Try.prog 105 #[.agg #[.slice az g.ss.length ks, .string g.d, .slice ah g.hs.length kh]] w fun e w' => e = .returned (.bool (!bgB g)) ∧ Below w.heap.size w w' := by
  have hb0 : Below w.heap.size w (w.alloc (.cells #[.slice az g.ss.length ks, .string g.d, .slice ah g.hs.length kh] 67)) := (Below.refl _ _).alloc (Nat.le_refl _) _
  obtain ⟨c0, c1, c2, _⟩ := cel3 (heap_new w (.cells #[.slice az g.ss.length ks, .string g.d, .slice ah g.hs.length kh] 67))
  have hsz : w.heap.size < (w.alloc (.cells #[.slice az g.ss.length ks, .string g.d, .slice ah g.hs.length kh] 67)).heap.size := by simp
  have HD : Hid _ := dirty_any c0 c1 hgs
  have HB : Hid _ := hb0
  clear hb0
  unfold bgB
  by_cases t : g.ss.length ≤ 32
  · have ti : ¬ (32 : Int) < (g.ss.length : Int) := by omega
    rw [decide_eq_true t, Bool.true_and]
    generalize drB g.d g.ss.length = b at *
    go_enter Try.func105, Try.ntmps105
    go_wp2_with (go_at_call 106; refine Calls.mono HD.out ?_; rintro e u1 ⟨rfl, hu⟩; have HU : Hid (Below w.heap.size w u1) := HB.out.trans (hu.mono HB.out.size); clear hu)
    go_ret
    exact ⟨rfl, HU.out⟩
  · have ti : (32 : Int) < (g.ss.length : Int) := by omega
    rw [decide_eq_false t, Bool.false_and]
    go_enter Try.func105, Try.ntmps105
    go_wp2
    go_ret
    exact ⟨rfl, HB.out⟩
end Go.Proofs.Ytomfbiiegcmmlab
