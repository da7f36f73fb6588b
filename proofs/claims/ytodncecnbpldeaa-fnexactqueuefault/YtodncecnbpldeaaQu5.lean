import Derived.Test.YtodncecnbpldeaaQu3
import Derived.Test.YtodncecnbpldeaaQu4
namespace Go.Proofs.Ytodncecnbpldeaa
open Go.ChangeShapes Go.WideShapes Go.ChangeAt Go.RowKit

/-- A queue of a law's in its box. -/
structure LQ (w u : World) (b : Nat) (z : QV) : Prop where
  bel : Below w.heap.size w u
  box : u.heap[b]? = some (.cells (qC z) 45 (0, 0))
theorem LQ.lt {w u : World} {b : Nat} {z : QV} (h : LQ w u b z) : b < u.heap.size := (Array.getElem?_eq_some_iff.1 h.box).1
theorem LQ.step {w u u' : World} {b : Nat} {z : QV} (h : LQ w u b z) (hb : Below u.heap.size u u') : LQ w u' b z := ⟨h.bel.trans (hb.mono h.bel.size), (hb.block _ h.lt).trans h.box⟩
theorem LQ.new (w : World) (z : QV) : LQ w (w.alloc (.cells (qC z) 45)) w.heap.size z := ⟨bx1 _ _, heap_new _ _⟩
theorem LQ.cel {w u : World} {b : Nat} {z : QV} (h : LQ w u b z) : u.cell? ⟨b, 0, none⟩ = some (.int .i64 z.size) ∧ u.cell? ⟨b, 1, none⟩ = some (.int .i64 z.desc) ∧ u.cell? ⟨b, 2, none⟩ = some (.int .i64 z.avail) ∧ u.cell? ⟨b, 3, none⟩ = some (.int .i64 z.used) ∧ u.cell? ⟨b, 4, none⟩ = some (.int .i64 z.taken) ∧ u.cell? ⟨b, 5, none⟩ = some (.int .i64 z.given) := by
  have e := h.box
  unfold qC at e
  refine ⟨?_, ?_, ?_, ?_, ?_, ?_⟩ <;> simp [World.cell?, e]
set_option maxRecDepth 100000 in
set_option maxHeartbeats 4000000 in
theorem walkQF (s : ByteArray) (z : QV) (w : World) : Calls Try.prog 5 #[.string s, qA z] w fun e w' => e = .returned (.bool true) ∧ Below w.heap.size w w' := by
  have HL0 : Hid (LQ w (w.alloc (.cells (qC z) 45)) w.heap.size z) := LQ.new w z
  by_cases h1 : s.size ≤ 1048576
  · have hd : decide (1048576 < (s.size : Int)) = false := by simp; omega
    have HTO : Hid _ := fun u => toQueue_any z u
    have HSS : Hid _ := fun u => specQueueFault_any s z u h1
    have HSI : Hid _ := fun u => implQueueFault_any s z u h1
    generalize qF s z = V at *
    obtain ⟨sz, d, a, us, tk, gv⟩ := z
    unfold qA at HTO HSS HSI ⊢
    unfold qC at HL0
    clear h1
    go_enter Try.func5, Try.ntmps5
    go_wp2_with fail
    refine Calls.mono (HTO.out _) ?_
    generalize (w.alloc (.cells #[.int .i64 sz, .int .i64 d, .int .i64 a, .int .i64 us, .int .i64 tk, .int .i64 gv] 45)) = u0 at *
    rintro e u1 ⟨rfl, hb⟩
    have HL1 : Hid (LQ w u1 w.heap.size ⟨sz, d, a, us, tk, gv⟩) := HL0.out.step hb
    clear hb HL0
    go_wp2_with fail
    refine Calls.mono (HSS.out _) ?_
    rintro e u2 ⟨rfl, hb⟩
    have HL2 : Hid (LQ w u2 w.heap.size ⟨sz, d, a, us, tk, gv⟩) := HL1.out.step hb
    clear hb HL1
    obtain ⟨c0, c1, c2, c3, c4, c5⟩ := HL2.out.cel
    simp only at c0 c1 c2 c3 c4 c5
    go_wp2_with fail
    refine Calls.mono (HTO.out _) ?_
    rintro e u3 ⟨rfl, hb⟩
    have HL3 : Hid (LQ w u3 w.heap.size ⟨sz, d, a, us, tk, gv⟩) := HL2.out.step hb
    clear hb HL2 c0 c1 c2 c3 c4 c5
    go_wp2_with fail
    refine Calls.mono (HSI.out _) ?_
    rintro e u4 ⟨rfl, hb⟩
    have HL4 : Hid (LQ w u4 w.heap.size ⟨sz, d, a, us, tk, gv⟩) := HL3.out.step hb
    clear hb HL3
    go_wp2_with fail
    go_ret
    exact ⟨rfl, HL4.out.bel⟩
  · have hd : decide (1048576 < (s.size : Int)) = true := by simp; omega
    unfold qA
    unfold qC at HL0
    clear h1
    go_enter Try.func5, Try.ntmps5
    go_wp2_with fail
    go_ret
    exact ⟨rfl, HL0.out.bel⟩
end Go.Proofs.Ytodncecnbpldeaa
