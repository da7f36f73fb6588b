import Derived.Test.YtjaelkagacmpkabLyI
import Derived.Test.YtjaelkagacmpkabLawPl
namespace Go.Proofs.Ytjaelkagacmpkab
open Go.ChangeShapes Go.WideShapes Go.ChangeAt Go.RowKit

set_option maxRecDepth 100000 in
set_option maxHeartbeats 4000000 in
theorem walkLy {w : World} {v : Value} {zs : List Int} (m s : ByteArray) (h : Irow w v zs) (hl : zs.length ≤ maxLen) (hm : m.size ≤ maxLen) (hs : s.size ≤ maxLen) :
    Calls Try.prog 4 #[.string m, v, .string s] w fun e w' => e = .returned (.bool true) ∧ Below w.heap.size w w' := by
  obtain ⟨a1, c1, rfl⟩ := h.sl
  have HR : Hid (Irow w (.slice a1 zs.length c1) zs) := h
  clear h
  unfold maxLen at hl hm hs
  by_cases h1 : 1048576 < m.size
  · go_enter Try.func4, Try.ntmps4
    go_wp2
    go_ret
    exact ⟨rfl, Below.refl _ _⟩
  by_cases h2 : 1048576 < zs.length
  · go_enter Try.func4, Try.ntmps4
    go_wp2
    go_ret
    exact ⟨rfl, Below.refl _ _⟩
  by_cases h3 : 1048576 < s.size
  · go_enter Try.func4, Try.ntmps4
    go_wp2
    go_ret
    exact ⟨rfl, Below.refl _ _⟩
  have HSP : Hid (∀ {u : World} {v : Value}, Irow u v zs → Calls Try.prog 10 #[.string m, v, .string s] u fun e w' => e = .returned (.string (lyV zs m s)) ∧ Below u.heap.size u w') := fun hr => specLay_any m s hr (by omega) (by omega) (by omega)
  have HIM : Hid (∀ {u : World} {v : Value}, Irow u v zs → Calls Try.prog 11 #[.string m, v, .string s] u fun e w' => e = .returned (.string (lyV zs m s)) ∧ Below u.heap.size u w') := fun hr => implLay_any m s hr (by omega) (by omega) (by omega)
  have HTO : Hid (∀ {u : World}, Below w.heap.size w u → Calls Try.prog 7 #[.slice a1 zs.length c1] u fun e w' => ∃ x, e = .returned x ∧ Irow w' x zs ∧ Below u.heap.size u w') := fun hu => (toIS_any (HR.out.below hu) (by omega)).mono (fun e w' ⟨x, hx, ho, hb⟩ => ⟨x, hx, Irow.of ho, hb⟩)
  have HEQ : Hid (∀ {u : World} {x y : Value}, Irow u x zs → Irow u y zs → Calls Try.prog 9 #[x, y] u fun e w' => e = .returned (.bool true) ∧ Below u.heap.size u w') := fun hx hy => eqIS_ok hx hy (by omega)
  clear HR
  go_enter Try.func4, Try.ntmps4
  go_wp2_with (first
    | (go_at_call 7; have hA := HTO.out (Below.refl _ _); refine Calls.mono hA ?_; clear hA; rintro e u1 ⟨x1, rfl, hx1, hb1⟩; have HX1 : Hid (Irow u1 x1 zs) := hx1; have HB1 : Hid (Below w.heap.size w u1) := hb1; clear hx1 hb1)
    | (go_at_call 10; have hA := HSP.out HX1.out; refine Calls.mono hA ?_; clear hA; rintro e u2 ⟨rfl, hb⟩; have HB2 : Hid (Below w.heap.size w u2) := HB1.out.trans (hb.mono HB1.out.size); clear hb HX1 HB1)
    | (go_at_call 7; have hA := HTO.out HB2.out; refine Calls.mono hA ?_; clear hA; rintro e u3 ⟨x3, rfl, hx3, hb⟩; have HX3 : Hid (Irow u3 x3 zs) := hx3; have HB3 : Hid (Below w.heap.size w u3) := HB2.out.trans (hb.mono HB2.out.size); clear hx3 hb HB2)
    | (go_at_call 11; have hA := HIM.out HX3.out; refine Calls.mono hA ?_; clear hA; rintro e u4 ⟨rfl, hb⟩; have HX4 : Hid (Irow u4 x3 zs) := HX3.out.below hb; have HB4 : Hid (Below w.heap.size w u4) := HB3.out.trans (hb.mono HB3.out.size); clear hb HX3 HB3)
    | (go_at_call 7; have hA := HTO.out HB4.out; refine Calls.mono hA ?_; clear hA; rintro e u5 ⟨x5, rfl, hx5, hb⟩; have HX5 : Hid (Irow u5 x5 zs) := hx5; have HX6 : Hid (Irow u5 x3 zs) := HX4.out.below hb; have HB5 : Hid (Below w.heap.size w u5) := HB4.out.trans (hb.mono HB4.out.size); clear hx5 hb HB4 HX4)
    | (go_at_call 9; have hA := HEQ.out HX6.out HX5.out; refine Calls.mono hA ?_; clear hA; rintro e u6 ⟨rfl, hb⟩; have HB6 : Hid (Below w.heap.size w u6) := HB5.out.trans (hb.mono HB5.out.size); clear hb HB5))
  go_ret
  exact ⟨rfl, HB6.out⟩
end Go.Proofs.Ytjaelkagacmpkab
