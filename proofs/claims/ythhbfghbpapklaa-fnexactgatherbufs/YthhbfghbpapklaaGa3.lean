import Derived.Test.YthhbfghbpapklaaGa2
import Derived.Test.YthhbfghbpapklaaSb2
namespace Go.Proofs.Ythhbfghbpapklaa
open Go.ChangeShapes Go.WideShapes Go.ChangeAt Go.RowKit

set_option maxRecDepth 100000 in
set_option maxHeartbeats 4000000 in
theorem walkGa3 {w : World} {v : Value} {zs : List BU} (s : ByteArray)  (h : BUrow w v zs) (hm : zs.length ≤ maxLen) (hz : ∀ z ∈ zs, (i64B z.pos ∧ i64B z.len)) :
    Calls Try.prog 4 #[.string s, v] w fun e w' => e = .returned (.bool true) ∧ Below w.heap.size w w' := by
  obtain ⟨a1, c1, rfl⟩ := h.sl
  have HR : Hid (BUrow w (.slice a1 zs.length c1) zs) := h
  have HZ : Hid (∀ z ∈ zs, i64B z.len) := fun z hq => (hz z hq).2
  have HSZ : Hid _ := fun u => szBUS_any a1 zs.length c1 1048576 u (by omega) (by omega) hm
  clear h hz hm
  by_cases h0 : 1048576 < s.size
  · have hd0 : decide (1048576 < (s.size : Int)) = true := decide_eq_true (by omega)
    clear h0
    go_enter Try.func4, Try.ntmps4
    go_wp2_with fail
    go_ret
    exact ⟨rfl, Below.refl _ _⟩
  have hd0 : decide (1048576 < (s.size : Int)) = false := decide_eq_false (by omega)
  by_cases hl : 1048576 < zs.length
  · rw [if_pos (by omega)] at HSZ
    go_enter Try.func4, Try.ntmps4
    go_wp2_with (go_at_call 7; refine Calls.mono (HSZ.out _) ?_; rintro e u1 ⟨rfl, hu1⟩; rw [hu1]; clear hu1)
    go_ret
    exact ⟨rfl, Below.refl _ _⟩
  rw [if_neg (by omega)] at HSZ
  have hp : ¬ (1048576 - (zs.length : Int)) < 0 := by omega
  have HSP : Hid (∀ {u : World} {v : Value}, BUrow u v zs → Calls Try.prog 14 #[.string s, v] u fun e w' => e = .returned (.string (gaV s zs)) ∧ Below u.heap.size u w') := fun hr => specGather_any s hr (by omega) (by omega)
  have HIM : Hid (∀ {u : World} {v : Value}, BUrow u v zs → Calls Try.prog 15 #[.string s, v] u fun e w' => e = .returned (.string (gaV s zs)) ∧ Below u.heap.size u w') := fun hr => implGather_any s hr (by omega) (by omega) HZ.out
  have HTO : Hid (∀ {u : World}, Below w.heap.size w u → Calls Try.prog 10 #[.slice a1 zs.length c1] u fun e w' => ∃ x, e = .returned x ∧ BUrow w' x zs ∧ Below u.heap.size u w') := fun hu => (toBUS_any (HR.out.below hu) (by omega)).mono (fun e w' ⟨x, hx, ho, hb⟩ => ⟨x, hx, BUrow.of ho, hb⟩)
  have HEQ : Hid (∀ {u : World} {x y : Value}, BUrow u x zs → BUrow u y zs → Calls Try.prog 13 #[x, y] u fun e w' => e = .returned (.bool true) ∧ Below u.heap.size u w') := fun hx hy => eqBUS_ok hx hy (by omega)
  generalize gaV s zs = V at *
  clear HR HZ hl h0
  go_enter Try.func4, Try.ntmps4
  go_wp2_with (first
    | (go_at_call 7; refine Calls.mono (HSZ.out _) ?_; rintro e u0 ⟨rfl, hu0⟩; rw [hu0]; clear hu0)
    | (go_at_call 10; have hA := HTO.out (Below.refl _ _); refine Calls.mono hA ?_; clear hA; rintro e u1 ⟨x1, rfl, hx1, hb1⟩; have HX1 : Hid (BUrow u1 x1 zs) := hx1; have HB1 : Hid (Below w.heap.size w u1) := hb1; clear hx1 hb1)
    | (go_at_call 14; have hA := HSP.out HX1.out; refine Calls.mono hA ?_; clear hA; rintro e u2 ⟨rfl, hb⟩; have HB2 : Hid (Below w.heap.size w u2) := HB1.out.trans (hb.mono HB1.out.size); clear hb HX1 HB1)
    | (go_at_call 10; have hA := HTO.out HB2.out; refine Calls.mono hA ?_; clear hA; rintro e u3 ⟨x3, rfl, hx3, hb⟩; have HX3 : Hid (BUrow u3 x3 zs) := hx3; have HB3 : Hid (Below w.heap.size w u3) := HB2.out.trans (hb.mono HB2.out.size); clear hx3 hb HB2)
    | (go_at_call 15; have hA := HIM.out HX3.out; refine Calls.mono hA ?_; clear hA; rintro e u4 ⟨rfl, hb⟩; have HX4 : Hid (BUrow u4 x3 zs) := HX3.out.below hb; have HB4 : Hid (Below w.heap.size w u4) := HB3.out.trans (hb.mono HB3.out.size); clear hb HX3 HB3)
    | (go_at_call 10; have hA := HTO.out HB4.out; refine Calls.mono hA ?_; clear hA; rintro e u5 ⟨x5, rfl, hx5, hb⟩; have HX5 : Hid (BUrow u5 x5 zs) := hx5; have HX6 : Hid (BUrow u5 x3 zs) := HX4.out.below hb; have HB5 : Hid (Below w.heap.size w u5) := HB4.out.trans (hb.mono HB4.out.size); clear hx5 hb HB4 HX4)
    | (go_at_call 13; have hA := HEQ.out HX6.out HX5.out; refine Calls.mono hA ?_; clear hA; rintro e u6 ⟨rfl, hb⟩; have HB6 : Hid (Below w.heap.size w u6) := HB5.out.trans (hb.mono HB5.out.size); clear hb HB5))
  go_ret
  exact ⟨rfl, HB6.out⟩
end Go.Proofs.Ythhbfghbpapklaa
