import Derived.Test.YtnbohdninedjdaaPe1
import Derived.Test.YtnbohdninedjdaaRowEV3
namespace Go.Proofs.Ytnbohdninedjdaa
open Go.ChangeShapes Go.WideShapes Go.ChangeAt Go.RowKit

set_option maxRecDepth 100000 in
set_option maxHeartbeats 4000000 in
theorem walkPE {w : World} {v : Value} {zs : List EV} (h : EVrow w v zs) (hm : zs.length ≤ maxLen) : Calls Try.prog 4 #[v] w fun e w' => e = .returned (.bool true) ∧ Below w.heap.size w w' := by
  have HR : Hid (EVrow w v zs) := h
  obtain ⟨ao, cap, rfl⟩ := h.sl
  clear h
  by_cases hs : (1048576 : Int) < (zs.length : Int)
  · have hS := szEVS_any ao zs.length cap 1048576 w (by omega) (by omega) hm
    rw [if_pos hs] at hS
    have HS : Hid _ := hS
    clear hS hs hm
    go_enter Try.func4, Try.ntmps4
    go_wp2_with fail
    refine Calls.mono HS.out ?_
    rintro e u1 ⟨rfl, rfl⟩
    go_wp2
    go_ret
    exact ⟨rfl, Below.refl _ _⟩
  have hS := szEVS_any ao zs.length cap 1048576 w (by omega) (by omega) hm
  rw [if_neg hs] at hS
  have HS : Hid _ := hS
  have HLN : Hid (zs.length ≤ 1048576) := (show zs.length ≤ 1048576 by omega)
  have hq : ¬ (1048576 : Int) - (zs.length : Int) < 0 := by omega
  clear hS hs hm
  generalize (1048576 : Int) - (zs.length : Int) = q at *
  have HTO : Hid (∀ u, Aft w u → Calls Try.prog 9 #[.slice ao zs.length cap] u fun e w' => ∃ a2 k2, e = .returned (.slice a2 zs.length k2) ∧ EVrow w' (.slice a2 zs.length k2) zs ∧ Below u.heap.size u w') := fun u hu => Calls.mono (toEVS_any (HR.out.below hu.out) HLN.out) (by rintro e w' ⟨v2, rfl, ho, hb⟩; have h9 := EVrow.of ho; obtain ⟨a2, k2, rfl⟩ := h9.sl; exact ⟨a2, k2, rfl, h9, hb⟩)
  have HSP : Hid (∀ u a2 k2, EVrow u (.slice a2 zs.length k2) zs → Calls Try.prog 12 #[.slice a2 zs.length k2] u fun e w' => e = .returned (.string (peV zs)) ∧ Below u.heap.size u w') := fun u a2 k2 hx => specPE_any hx
  have HIM : Hid (∀ u a2 k2, EVrow u (.slice a2 zs.length k2) zs → Calls Try.prog 13 #[.slice a2 zs.length k2] u fun e w' => e = .returned (.string (peV zs)) ∧ Below u.heap.size u w') := fun u a2 k2 hx => implPE_any hx
  have HEQ : Hid (∀ u a2 k2 a3 k3, EVrow u (.slice a2 zs.length k2) zs → EVrow u (.slice a3 zs.length k3) zs → Calls Try.prog 11 #[.slice a2 zs.length k2, .slice a3 zs.length k3] u fun e w' => e = .returned (.bool true) ∧ Below u.heap.size u w') := fun u a2 k2 a3 k3 hx hy => eqEVS_ok hx hy HLN.out
  generalize peV zs = V at HSP HIM
  go_enter Try.func4, Try.ntmps4
  go_wp2_with fail
  refine Calls.mono HS.out ?_
  rintro e u1 ⟨rfl, rfl⟩
  have HA0 : Hid (Aft u1 u1) := (show Aft u1 u1 from ⟨Below.refl _ _⟩)
  go_wp2_with fail
  refine Calls.mono (HTO.out _ HA0.out) ?_
  rintro e u2 ⟨a2, k2, rfl, hx, hb⟩
  have HA2 : Hid (Aft u1 u2) := (show Aft u1 u2 from ⟨hb⟩)
  have HX2 : Hid (EVrow u2 (.slice a2 zs.length k2) zs) := hx
  clear hx hb
  go_wp2_with fail
  refine Calls.mono (HSP.out _ _ _ HX2.out) ?_
  rintro e u3 ⟨rfl, hb⟩
  have HA3 : Hid (Aft u1 u3) := (show Aft u1 u3 from ⟨HA2.out.out.trans (hb.mono HA2.out.out.size)⟩)
  clear hb HX2
  go_wp2_with fail
  refine Calls.mono (HTO.out _ HA3.out) ?_
  rintro e u4 ⟨a4, k4, rfl, hx, hb⟩
  have HA4 : Hid (Aft u1 u4) := (show Aft u1 u4 from ⟨HA3.out.out.trans (hb.mono HA3.out.out.size)⟩)
  have HX4 : Hid (EVrow u4 (.slice a4 zs.length k4) zs) := hx
  clear hx hb
  go_wp2_with fail
  refine Calls.mono (HIM.out _ _ _ HX4.out) ?_
  rintro e u5 ⟨rfl, hb⟩
  have HA5 : Hid (Aft u1 u5) := (show Aft u1 u5 from ⟨HA4.out.out.trans (hb.mono HA4.out.out.size)⟩)
  have HX5 : Hid (EVrow u5 (.slice a4 zs.length k4) zs) := HX4.out.below hb
  clear hb HX4
  go_wp2_with fail
  refine Calls.mono (HTO.out _ HA5.out) ?_
  rintro e u6 ⟨a6, k6, rfl, hx, hb⟩
  have HA6 : Hid (Aft u1 u6) := (show Aft u1 u6 from ⟨HA5.out.out.trans (hb.mono HA5.out.out.size)⟩)
  have HX6 : Hid (EVrow u6 (.slice a6 zs.length k6) zs) := hx
  have HY6 : Hid (EVrow u6 (.slice a4 zs.length k4) zs) := HX5.out.below hb
  clear hx hb HX5
  go_wp2_with fail
  refine Calls.mono (HEQ.out _ _ _ _ _ HY6.out HX6.out) ?_
  rintro e u7 ⟨rfl, hb⟩
  have HA7 : Hid (Aft u1 u7) := (show Aft u1 u7 from ⟨HA6.out.out.trans (hb.mono HA6.out.out.size)⟩)
  clear hb HX6 HY6
  go_wp2
  go_ret
  exact ⟨rfl, HA7.out.out⟩
end Go.Proofs.Ytnbohdninedjdaa
