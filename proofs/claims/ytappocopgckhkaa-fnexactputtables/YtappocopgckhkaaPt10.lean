import Derived.Test.YtappocopgckhkaaPt9
import Derived.Test.YtappocopgckhkaaSzFT
namespace Go.Proofs.Ytappocopgckhkaa
open Go.ChangeShapes Go.WideShapes Go.ChangeAt Go.RowKit

set_option maxRecDepth 100000 in
set_option maxHeartbeats 4000000 in
theorem walkPT (m : ByteArray) (p : Int) {w : World} {v : Value} {zs : List FT} (h : FTrow w v zs) (hmz : zs.length ≤ maxLen ∧ ∀ z ∈ zs, z.name.size ≤ maxLen ∧ z.body.size ≤ maxLen) : Calls Try.prog 4 #[.string m, .int .i64 p, v] w fun e w' => e = .returned (.bool true) ∧ Below w.heap.size w w' := by
  have HR : Hid (FTrow w v zs) := h
  have HSZ : Hid (Calls Try.prog 10 #[v, .int .i64 1048576] w fun e w' => ∃ q, e = .returned (.int .i64 q) ∧ -1 ≤ q ∧ q ≤ 1048576 ∧ (0 ≤ q → zs.length ≤ 1048576 ∧ ∀ z ∈ zs, z.name.size ≤ 1048576 ∧ z.body.size ≤ 1048576) ∧ Below w.heap.size w w') := szFTS_w h hmz.1 hmz.2
  obtain ⟨ao, cap, rfl⟩ := h.sl
  clear h hmz
  cases h1 : decide (1048576 < (m.size : Int))
  rotate_left
  · go_enter Try.func4, Try.ntmps4
    go_wp2_with fail
    go_ret
    exact ⟨rfl, Below.refl _ _⟩
  have hm : m.size ≤ 1048576 := by have := of_decide_eq_false h1; omega
  go_enter Try.func4, Try.ntmps4
  go_wp2_with fail
  refine Calls.mono HSZ.out ?_
  rintro e u1 ⟨q, rfl, q0, _, hq, hu⟩
  have HL1 : Hid (Below w.heap.size w u1) := hu
  have HQ : Hid (0 ≤ q → zs.length ≤ 1048576 ∧ ∀ z ∈ zs, z.name.size ≤ 1048576 ∧ z.body.size ≤ 1048576) := hq
  clear hu hq HSZ
  cases h3 : decide (q < 0)
  rotate_left
  · go_wp2
    go_ret
    exact ⟨rfl, HL1.out⟩
  have hl := HQ.out (by have := of_decide_eq_false h3; omega)
  have HTO : Hid (∀ u, Below w.heap.size w u → Calls Try.prog 12 #[.slice ao zs.length cap] u fun e w' => ∃ ax cx, e = .returned (.slice ax zs.length cx) ∧ FTrow w' (.slice ax zs.length cx) zs ∧ Below u.heap.size u w') := (fun u hu => (toFTS_any (HR.out.below hu) hl.1).mono (by rintro e w' ⟨vx, rfl, hx, hb⟩; obtain ⟨ax, cx, rfl⟩ := ft_sl hx; exact ⟨ax, cx, rfl, FTrow.of hx, hb⟩))
  have HSP : Hid (∀ u ax cx, FTrow u (.slice ax zs.length cx) zs → Calls Try.prog 11 #[.string m, .int .i64 p, .slice ax zs.length cx] u fun e w' => e = .returned (.string (ptV m p zs)) ∧ Below u.heap.size u w') := fun u ax cx hx => specPT_any hx (fun t ht => (hl.2 t ht).2) m p hm
  have HIM : Hid (∀ u ax cx, FTrow u (.slice ax zs.length cx) zs → Calls Try.prog 13 #[.string m, .int .i64 p, .slice ax zs.length cx] u fun e w' => e = .returned (.string (ptV m p zs)) ∧ Below u.heap.size u w') := fun u ax cx hx => implPT_any hx hl.1 m p hm
  have HEF : Hid (∀ u ax cx ay cy, FTrow u (.slice ax zs.length cx) zs → FTrow u (.slice ay zs.length cy) zs → Calls Try.prog 14 #[.slice ax zs.length cx, .slice ay zs.length cy] u fun e w' => e = .returned (.bool true) ∧ Below u.heap.size u w') := (fun u ax cx ay cy hx hy => eqFTS_ok hx hy hl.1)
  generalize ptV m p zs = V at *
  clear HQ hl HR hm
  go_wp2_with fail
  refine Calls.mono (HTO.out _ HL1.out) ?_
  rintro e u2 ⟨a2, k2, rfl, hx, hb⟩
  have HB2 : Hid (Below w.heap.size w u2) := HL1.out.trans (hb.mono HL1.out.size)
  have HX2 : Hid (FTrow u2 (.slice a2 zs.length k2) zs) := hx
  clear hx hb HL1
  go_wp2_with fail
  refine Calls.mono (HSP.out _ _ _ HX2.out) ?_
  rintro e u3 ⟨rfl, hb⟩
  have HB3 : Hid (Below w.heap.size w u3) := HB2.out.trans (hb.mono HB2.out.size)
  clear hb HB2 HX2
  go_wp2_with fail
  refine Calls.mono (HTO.out _ HB3.out) ?_
  rintro e u4 ⟨a4, k4, rfl, hx, hb⟩
  have HB4 : Hid (Below w.heap.size w u4) := HB3.out.trans (hb.mono HB3.out.size)
  have HX4 : Hid (FTrow u4 (.slice a4 zs.length k4) zs) := hx
  clear hx hb HB3
  go_wp2_with fail
  refine Calls.mono (HIM.out _ _ _ HX4.out) ?_
  rintro e u5 ⟨rfl, hb⟩
  have HB5 : Hid (Below w.heap.size w u5) := HB4.out.trans (hb.mono HB4.out.size)
  have HX5 : Hid (FTrow u5 (.slice a4 zs.length k4) zs) := HX4.out.below hb
  clear hb HX4 HB4
  go_wp2_with fail
  refine Calls.mono (HTO.out _ HB5.out) ?_
  rintro e u6 ⟨a6, k6, rfl, hx, hb⟩
  have HB6 : Hid (Below w.heap.size w u6) := HB5.out.trans (hb.mono HB5.out.size)
  have HX6 : Hid (FTrow u6 (.slice a6 zs.length k6) zs) := hx
  have HY6 : Hid (FTrow u6 (.slice a4 zs.length k4) zs) := HX5.out.below hb
  clear hx hb HX5 HB5
  go_wp2_with fail
  refine Calls.mono (HEF.out _ _ _ _ _ HY6.out HX6.out) ?_
  rintro e u7 ⟨rfl, hb⟩
  have HB7 : Hid (Below w.heap.size w u7) := HB6.out.trans (hb.mono HB6.out.size)
  clear hb HX6 HY6 HB6
  go_wp2
  go_ret
  exact ⟨rfl, HB7.out⟩
end Go.Proofs.Ytappocopgckhkaa
