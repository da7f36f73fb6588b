import Derived.Test.YtdddldkcojamkabVo1
import Derived.Test.YtdddldkcojamkabVo2
import Derived.Test.YtdddldkcojamkabHl
namespace Go.Proofs.Ytdddldkcojamkab
open Go.ChangeShapes Go.WideShapes Go.ChangeAt Go.RowKit

set_option maxRecDepth 100000 in
set_option maxHeartbeats 4000000 in
theorem walkVF {w : World} {v : Value} {zs : List KS} (h : KSrow w v zs) (hm : zs.length ≤ maxLen) (hz : ∀ z ∈ zs, z.key.size ≤ maxLen ∧ z.tag.size ≤ maxLen) (c : ByteArray) (hc : c.size ≤ maxLen) :
    Calls Try.prog 6 #[.agg #[v, .string c]] w fun e w' => e = .returned (.bool true) ∧ Below w.heap.size w w' := by
  have HR : Hid (KSrow w v zs) := h
  obtain ⟨ao, cap, rfl⟩ := h.sl
  have HSZ : Hid (∀ u, Aft w u → Calls Try.prog 19 #[.agg #[.slice ao zs.length cap, .string c], .int .i64 1048576] u fun e w' => ∃ q, e = .returned (.int .i64 q) ∧ -1 ≤ q ∧ (0 ≤ q → zs.length ≤ 1048576) ∧ Below u.heap.size u w') := fun u hu => szVol_w (HR.out.below hu.out) hm hz c hc
  have HL0 : Hid (LG w (w.alloc (.cells #[.slice ao zs.length cap, .string c] 38)) w.heap.size #[.slice ao zs.length cap, .string c] 38) := LG.new w _ _
  clear h hm hz hc
  go_enter Try.func6, Try.ntmps6
  go_wp2_with fail
  generalize (w.alloc (.cells #[.slice ao zs.length cap, .string c] 38)) = u0 at *
  generalize w.heap.size = b0 at *
  refine Calls.mono (HSZ.out _ HL0.out.aft) ?_
  rintro e u1 ⟨q, rfl, q0, hq, hu⟩
  have HL1 : Hid (LG w u1 b0 #[.slice ao zs.length cap, .string c] 38) := HL0.out.step hu
  have HQ : Hid (0 ≤ q → zs.length ≤ 1048576) := hq
  clear hu hq HL0 HSZ
  cases h3 : decide (q < 0)
  · have hl : zs.length ≤ 1048576 := HQ.out (by have := of_decide_eq_false h3; omega)
    have HTO : Hid (∀ u, Aft w u → Calls Try.prog 21 #[.agg #[.slice ao zs.length cap, .string c]] u fun e w' => ∃ x, e = .returned (.agg #[x, .string c]) ∧ w'.ownsRow u.heap.size 66 3 x zs.length (ksR zs) ∧ Below u.heap.size u w') := fun u hu => toVol_any (HR.out.below hu.out) hl c
    have HSP : Hid (∀ u x, KSrow u x zs → Calls Try.prog 20 #[.agg #[x, .string c]] u fun e w' => e = .returned (.int .i64 (vfV zs c)) ∧ Below u.heap.size u w') := fun u x hx => specVF_any hx c
    have HIM : Hid (∀ u x, KSrow u x zs → Calls Try.prog 22 #[.agg #[x, .string c]] u fun e w' => e = .returned (.int .i64 (vfV zs c)) ∧ Below u.heap.size u w') := fun u x hx => implVF_any hx hl c
    have HEQ : Hid (∀ u x y, KSrow u x zs → KSrow u y zs → Calls Try.prog 23 #[.agg #[x, .string c], .agg #[y, .string c]] u fun e w' => e = .returned (.bool true) ∧ Below u.heap.size u w') := fun u x y hx hy => eqVol_ok hx hy hl c
    generalize vfV zs c = V at HSP HIM
    have hV : (V != V) = false := by simp
    clear HQ hl
    have r0 := HL1.out.cel 0 _ rfl
    have r1 := HL1.out.cel 1 _ rfl
    have rl := HL1.out.lt
    go_wp2_with fail
    refine Calls.mono (HTO.out _ HL1.out.aft) ?_
    rintro e u2 ⟨x2, rfl, ho2, hb2⟩
    have HX2 : Hid (KSrow u2 x2 zs) := KSrow.of ho2
    have HL2 : Hid (LG w u2 b0 #[.slice ao zs.length cap, .string c] 38) := HL1.out.step hb2
    obtain ⟨a2, c2, rfl⟩ := ks_sl ho2
    clear ho2 hb2 HL1 r0 r1 rl
    go_wp2_with fail
    refine Calls.mono (HSP.out _ _ HX2.out) ?_
    rintro e u3 ⟨rfl, hb3⟩
    have HL3 : Hid (LG w u3 b0 #[.slice ao zs.length cap, .string c] 38) := HL2.out.step hb3
    clear hb3 HX2 HL2
    have r0 := HL3.out.cel 0 _ rfl
    have r1 := HL3.out.cel 1 _ rfl
    have rl := HL3.out.lt
    go_wp2_with fail
    refine Calls.mono (HTO.out _ HL3.out.aft) ?_
    rintro e u4 ⟨x4, rfl, ho4, hb4⟩
    have HX4 : Hid (KSrow u4 x4 zs) := KSrow.of ho4
    have HL4 : Hid (LG w u4 b0 #[.slice ao zs.length cap, .string c] 38) := HL3.out.step hb4
    obtain ⟨a4, c4, rfl⟩ := ks_sl ho4
    clear ho4 hb4 HL3 r0 r1 rl
    have HX5 : Hid (KSrow (u4.alloc (.cells #[.slice a4 zs.length c4, .string c] 43)) (.slice a4 zs.length c4) zs) := HX4.out.below (bx1 _ _)
    have HL5 : Hid (LG w (u4.alloc (.cells #[.slice a4 zs.length c4, .string c] 43)) b0 #[.slice ao zs.length cap, .string c] 38) := HL4.out.step (bx1 _ _)
    have HW5 : Hid (LG w (u4.alloc (.cells #[.slice a4 zs.length c4, .string c] 43)) u4.heap.size #[.slice a4 zs.length c4, .string c] 43) := ⟨HL5.out.bel, heap_new _ _, HL4.out.bel.size⟩
    clear HX4 HL4
    go_upto_region 7 with fail
    generalize (u4.alloc (.cells #[.slice a4 zs.length c4, .string c] 43)) = u5 at *
    generalize u4.heap.size = b5 at *
    have r0 := HW5.out.cel 0 _ rfl
    have r1 := HW5.out.cel 1 _ rfl
    have rl := HW5.out.lt
    go_wp2_with fail
    refine Calls.mono (HIM.out _ _ HX5.out) ?_
    rintro e u6 ⟨rfl, hb6⟩
    have HX6 : Hid (KSrow u6 (.slice a4 zs.length c4) zs) := HX5.out.below hb6
    have HL6 : Hid (LG w u6 b0 #[.slice ao zs.length cap, .string c] 38) := HL5.out.step hb6
    have HW6 : Hid (LG w u6 b5 #[.slice a4 zs.length c4, .string c] 43) := HW5.out.step hb6
    clear hb6 HX5 HL5 HW5 r0 r1 rl
    go_upto_region 10 with fail
    refine wp_region_held (S := fun w9 => LG w w9 b0 #[.slice ao zs.length cap, .string c] 38 ∧ LG w w9 b5 #[.slice a4 zs.length c4, .string c] 43) (by kernel_rfl) ?_
    change wpAnyH _ _ _ _ _ _ _ _ (World.drew _)
    refine wpAnyH_take (i := 0) (v := .agg #[.slice a4 zs.length c4, .string c]) rfl (by kernel_rfl) (by kernel_rfl) (by kernel_rfl) (fun _ _ _ h => h) (Or.inl ⟨by kernel_rfl, fun w9 h9 => ?_⟩) ⟨HL6.out.drew, HW6.out.drew⟩ ?_
    · have x0 := h9.1.cel 0 _ rfl; have x1 := h9.1.cel 1 _ rfl; have xl := h9.1.lt; have y0 := h9.2.cel 0 _ rfl; have y1 := h9.2.cel 1 _ rfl; have yl := h9.2.lt; go_simp
    refine wpAnyH_take (i := 1) (v := .agg #[.slice ao zs.length cap, .string c]) rfl (by kernel_rfl) (by kernel_rfl) (by kernel_rfl) (fun _ _ _ h => h) (Or.inl ⟨by kernel_rfl, fun w9 h9 => ?_⟩) ⟨HL6.out.drew, HW6.out.drew⟩ ?_
    · have x0 := h9.1.cel 0 _ rfl; have x1 := h9.1.cel 1 _ rfl; have xl := h9.1.lt; have y0 := h9.2.cel 0 _ rfl; have y1 := h9.2.cel 1 _ rfl; have yl := h9.2.lt; go_simp
    refine held_one 2 (by kernel_rfl) rfl (by kernel_rfl) fun K hK => ?_
    go_simp
    go_wp2_with (go_at_call 21; refine Calls.mono (HTO.out _ HL6.out.drew.aft) ?_; rintro e v1 ⟨x8, rfl, ho8, hu⟩; have HL8 : Hid (LG w v1 b0 #[.slice ao zs.length cap, .string c] 38) := HL6.out.drew.step hu; have HW8 : Hid (LG w v1 b5 #[.slice a4 zs.length c4, .string c] 43) := HW6.out.drew.step hu; have HX8 : Hid (KSrow v1 x8 zs) := KSrow.of ho8; have HX9 : Hid (KSrow v1 (.slice a4 zs.length c4) zs) := (HX6.out.below (Below.refl _ _).drew).below hu; obtain ⟨a8, c8, rfl⟩ := ks_sl ho8; clear ho8 hu)
    refine hK _ _ ⟨HL8.out, HW8.out⟩ ?_
    clear hK K
    refine held_one 3 (by kernel_rfl) rfl (by kernel_rfl) fun K hK => ?_
    go_simp
    go_wp2_with (go_at_call 23; refine Calls.mono (HEQ.out _ _ _ HX9.out HX8.out) ?_; rintro e v2 ⟨rfl, hu⟩; have HL9 : Hid (LG w v2 b0 #[.slice ao zs.length cap, .string c] 38) := HL8.out.step hu; have HW9 : Hid (LG w v2 b5 #[.slice a4 zs.length c4, .string c] 43) := HW8.out.step hu; clear hu)
    refine hK _ _ ⟨HL9.out, HW9.out⟩ ?_
    clear hK K
    refine wpAnyH_take (i := 4) (v := .bool false) rfl (by kernel_rfl) (by kernel_rfl) (by kernel_rfl) (fun _ _ _ h => h) (Or.inl ⟨by kernel_rfl, fun w9 h9 => ?_⟩) ⟨HL9.out, HW9.out⟩ ?_
    · go_simp
    refine wpAnyH_done (by kernel_rfl) ?_ _
    go_simp
    go_wp2
    go_ret
    exact ⟨rfl, HL9.out.bel⟩
  · go_wp2
    go_ret
    exact ⟨rfl, HL1.out.bel⟩
end Go.Proofs.Ytdddldkcojamkab
