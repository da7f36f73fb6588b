import Derived.Test.YtpmkgdnoambmgaaOv2
import Derived.Test.YtpmkgdnoambmgaaVo2
namespace Go.Proofs.Ytpmkgdnoambmgaa
open Go.ChangeShapes Go.WideShapes Go.ChangeAt Go.RowKit

set_option maxRecDepth 100000 in
set_option maxHeartbeats 4000000 in
theorem eqOpened_ok (c : Int) (d : ByteArray) (w : World) : Calls Try.prog 18 #[.agg #[.int .i64 c, .string d], .agg #[.int .i64 c, .string d]] w fun e w' => e = .returned (.bool true) ∧ Below w.heap.size w w' := by
  have e1 : (c != c) = false := by simp
  have e3 : (d.toList == d.toList) = true := by simp
  go_enter Try.func18, Try.ntmps18
  go_wp2
  go_ret
  exact ⟨rfl, ((Below.refl _ _).alloc (Nat.le_refl _) _).alloc (by simp) _⟩
set_option maxRecDepth 100000 in
set_option maxHeartbeats 4000000 in
theorem walkOV {w : World} {v : Value} {zs : List KS} (h : KSrow w v zs) (hm : zs.length ≤ maxLen) (hz : ∀ z ∈ zs, z.key.size ≤ maxLen ∧ z.tag.size ≤ maxLen) (c : ByteArray) (hc : c.size ≤ maxLen) (p : ByteArray) :
    Calls Try.prog 4 #[.agg #[v, .string c], .string p] w fun e w' => e = .returned (.bool true) ∧ Below w.heap.size w w' := by
  have HR : Hid (KSrow w v zs) := h
  obtain ⟨ao, cap, rfl⟩ := h.sl
  have HSZ : Hid (∀ u, Aft w u → Calls Try.prog 14 #[.agg #[.slice ao zs.length cap, .string c], .int .i64 1048576] u fun e w' => ∃ q, e = .returned (.int .i64 q) ∧ -1 ≤ q ∧ (0 ≤ q → zs.length ≤ 1048576) ∧ Below u.heap.size u w') := fun u hu => szVol_w (HR.out.below hu.out) hm hz c hc
  have HL0 : Hid (LG w (w.alloc (.cells #[.slice ao zs.length cap, .string c] 33)) w.heap.size #[.slice ao zs.length cap, .string c] 33) := LG.new w _ _
  clear h hm hz hc
  cases hps : decide (1048576 < (p.size : Int))
  · go_enter Try.func4, Try.ntmps4
    go_wp2_with fail
    generalize (w.alloc (.cells #[.slice ao zs.length cap, .string c] 33)) = u0 at *
    generalize w.heap.size = b0 at *
    refine Calls.mono (HSZ.out _ HL0.out.aft) ?_
    rintro e u1 ⟨q, rfl, q0, hq, hu⟩
    have HL1 : Hid (LG w u1 b0 #[.slice ao zs.length cap, .string c] 33) := HL0.out.step hu
    have HQ : Hid (0 ≤ q → zs.length ≤ 1048576) := hq
    clear hu hq HL0 HSZ
    cases h3 : decide (q < 0)
    · have hl : zs.length ≤ 1048576 := HQ.out (by have := of_decide_eq_false h3; omega)
      have HTO : Hid (∀ u, Aft w u → Calls Try.prog 16 #[.agg #[.slice ao zs.length cap, .string c]] u fun e w' => ∃ x, e = .returned (.agg #[x, .string c]) ∧ w'.ownsRow u.heap.size 70 3 x zs.length (ksR zs) ∧ Below u.heap.size u w') := fun u hu => toVol_any (HR.out.below hu.out) hl c
      have HSP : Hid (∀ u x, KSrow u x zs → Calls Try.prog 15 #[.agg #[x, .string c], .string p] u fun e w' => e = .returned (opA (opV zs c p)) ∧ Below u.heap.size u w') := fun u x hx => specOpen_any hx c p
      have HIM : Hid (∀ u x, KSrow u x zs → Calls Try.prog 17 #[.agg #[x, .string c], .string p] u fun e w' => e = .returned (opA (opV zs c p)) ∧ Below u.heap.size u w') := fun u x hx => implOpen_any hx hl c p
      have HEQ : Hid (∀ u x y, KSrow u x zs → KSrow u y zs → Calls Try.prog 19 #[.agg #[x, .string c], .agg #[y, .string c]] u fun e w' => e = .returned (.bool true) ∧ Below u.heap.size u w') := fun u x y hx hy => eqVol_ok hx hy hl c
      generalize opV zs c p = R at HSP HIM
      obtain ⟨C, D⟩ := R
      unfold opA at HSP HIM
      simp only at HSP HIM
      clear HQ hl
      have r0 := HL1.out.cel 0 _ rfl
      have r1 := HL1.out.cel 1 _ rfl
      have rl := HL1.out.lt
      go_wp2_with fail
      refine Calls.mono (HTO.out _ HL1.out.aft) ?_
      rintro e u2 ⟨x2, rfl, ho2, hb2⟩
      have HX2 : Hid (KSrow u2 x2 zs) := KSrow.of ho2
      have HL2 : Hid (LG w u2 b0 #[.slice ao zs.length cap, .string c] 33) := HL1.out.step hb2
      obtain ⟨a2, c2, rfl⟩ := ks_sl ho2
      clear ho2 hb2 HL1 r0 r1 rl
      go_wp2_with fail
      refine Calls.mono (HSP.out _ _ HX2.out) ?_
      rintro e u3 ⟨rfl, hb3⟩
      have HL3 : Hid (LG w u3 b0 #[.slice ao zs.length cap, .string c] 33) := HL2.out.step hb3
      have HL3b : Hid (LG w (u3.alloc (.cells #[.int .i64 C, .string D] 36)) b0 #[.slice ao zs.length cap, .string c] 33) := HL3.out.step (bx1 _ _)
      have HO3 : Hid (LG w (u3.alloc (.cells #[.int .i64 C, .string D] 36)) u3.heap.size #[.int .i64 C, .string D] 36) := ⟨HL3b.out.bel, heap_new _ _, HL3.out.bel.size⟩
      clear hb3 HX2 HL2 HL3
      go_upto_region 8 with fail
      generalize (u3.alloc (.cells #[.int .i64 C, .string D] 36)) = u3b at *
      generalize u3.heap.size = b6 at *
      have r0 := HL3b.out.cel 0 _ rfl
      have r1 := HL3b.out.cel 1 _ rfl
      have rl := HL3b.out.lt
      go_wp2_with fail
      refine Calls.mono (HTO.out _ HL3b.out.aft) ?_
      rintro e u4 ⟨x4, rfl, ho4, hb4⟩
      have HX4 : Hid (KSrow u4 x4 zs) := KSrow.of ho4
      have HL4 : Hid (LG w u4 b0 #[.slice ao zs.length cap, .string c] 33) := HL3b.out.step hb4
      have HO4 : Hid (LG w u4 b6 #[.int .i64 C, .string D] 36) := HO3.out.step hb4
      obtain ⟨a4, c4, rfl⟩ := ks_sl ho4
      clear ho4 hb4 HL3b HO3 r0 r1 rl
      have HX5 : Hid (KSrow (u4.alloc (.cells #[.slice a4 zs.length c4, .string c] 24)) (.slice a4 zs.length c4) zs) := HX4.out.below (bx1 _ _)
      have HL5 : Hid (LG w (u4.alloc (.cells #[.slice a4 zs.length c4, .string c] 24)) b0 #[.slice ao zs.length cap, .string c] 33) := HL4.out.step (bx1 _ _)
      have HO5 : Hid (LG w (u4.alloc (.cells #[.slice a4 zs.length c4, .string c] 24)) b6 #[.int .i64 C, .string D] 36) := HO4.out.step (bx1 _ _)
      have HW5 : Hid (LG w (u4.alloc (.cells #[.slice a4 zs.length c4, .string c] 24)) u4.heap.size #[.slice a4 zs.length c4, .string c] 24) := ⟨HL5.out.bel, heap_new _ _, HL4.out.bel.size⟩
      clear HX4 HL4 HO4
      go_upto_region 9 with fail
      generalize (u4.alloc (.cells #[.slice a4 zs.length c4, .string c] 24)) = u5 at *
      generalize u4.heap.size = b5 at *
      have r0 := HW5.out.cel 0 _ rfl
      have r1 := HW5.out.cel 1 _ rfl
      have rl := HW5.out.lt
      go_wp2_with fail
      refine Calls.mono (HIM.out _ _ HX5.out) ?_
      rintro e u6 ⟨rfl, hb6⟩
      have HX6 : Hid (KSrow u6 (.slice a4 zs.length c4) zs) := HX5.out.below hb6
      have HL6 : Hid (LG w u6 b0 #[.slice ao zs.length cap, .string c] 33) := HL5.out.step hb6
      have HO6 : Hid (LG w u6 b6 #[.int .i64 C, .string D] 36) := HO5.out.step hb6
      have HW6 : Hid (LG w u6 b5 #[.slice a4 zs.length c4, .string c] 24) := HW5.out.step hb6
      clear hb6 HX5 HL5 HW5 HO5 r0 r1 rl
      have HX7 : Hid (KSrow (u6.alloc (.cells #[.int .i64 C, .string D] 36)) (.slice a4 zs.length c4) zs) := HX6.out.below (bx1 _ _)
      have HL7 : Hid (LG w (u6.alloc (.cells #[.int .i64 C, .string D] 36)) b0 #[.slice ao zs.length cap, .string c] 33) := HL6.out.step (bx1 _ _)
      have HW7 : Hid (LG w (u6.alloc (.cells #[.int .i64 C, .string D] 36)) b5 #[.slice a4 zs.length c4, .string c] 24) := HW6.out.step (bx1 _ _)
      have HO7 : Hid (LG w (u6.alloc (.cells #[.int .i64 C, .string D] 36)) b6 #[.int .i64 C, .string D] 36) := HO6.out.step (bx1 _ _)
      have HP7 : Hid (LG w (u6.alloc (.cells #[.int .i64 C, .string D] 36)) u6.heap.size #[.int .i64 C, .string D] 36) := ⟨HL7.out.bel, heap_new _ _, HL6.out.bel.size⟩
      go_upto_region 10 with fail
      generalize (u6.alloc (.cells #[.int .i64 C, .string D] 36)) = u7 at *
      generalize u6.heap.size = b8 at *
      clear HX6 HL6 HW6 HO6
      have r0 := HO7.out.cel 0 _ rfl
      have r1 := HO7.out.cel 1 _ rfl
      have rl := HO7.out.lt
      have s0 := HP7.out.cel 0 _ rfl
      have s1 := HP7.out.cel 1 _ rfl
      have sl := HP7.out.lt
      go_wp2_with fail
      refine Calls.mono (eqOpened_ok _ _ _) ?_
      rintro e u10 ⟨rfl, hb10⟩
      have HX6 : Hid (KSrow u10 (.slice a4 zs.length c4) zs) := HX7.out.below hb10
      have HL6 : Hid (LG w u10 b0 #[.slice ao zs.length cap, .string c] 33) := HL7.out.step hb10
      have HW6 : Hid (LG w u10 b5 #[.slice a4 zs.length c4, .string c] 24) := HW7.out.step hb10
      clear hb10 HX7 HL7 HW7 HO7 HP7 r0 r1 rl s0 s1 sl
      go_upto_region 12 with fail
      refine wp_region_held (S := fun w9 => LG w w9 b0 #[.slice ao zs.length cap, .string c] 33 ∧ LG w w9 b5 #[.slice a4 zs.length c4, .string c] 24) (by kernel_rfl) ?_
      change wpAnyH _ _ _ _ _ _ _ _ (World.drew _)
      refine wpAnyH_take (i := 0) (v := .agg #[.slice a4 zs.length c4, .string c]) rfl (by kernel_rfl) (by kernel_rfl) (by kernel_rfl) (fun _ _ _ h => h) (Or.inl ⟨by kernel_rfl, fun w9 h9 => ?_⟩) ⟨HL6.out.drew, HW6.out.drew⟩ ?_
      · have x0 := h9.1.cel 0 _ rfl; have x1 := h9.1.cel 1 _ rfl; have xl := h9.1.lt; have y0 := h9.2.cel 0 _ rfl; have y1 := h9.2.cel 1 _ rfl; have yl := h9.2.lt; go_simp
      refine wpAnyH_take (i := 1) (v := .agg #[.slice ao zs.length cap, .string c]) rfl (by kernel_rfl) (by kernel_rfl) (by kernel_rfl) (fun _ _ _ h => h) (Or.inl ⟨by kernel_rfl, fun w9 h9 => ?_⟩) ⟨HL6.out.drew, HW6.out.drew⟩ ?_
      · have x0 := h9.1.cel 0 _ rfl; have x1 := h9.1.cel 1 _ rfl; have xl := h9.1.lt; have y0 := h9.2.cel 0 _ rfl; have y1 := h9.2.cel 1 _ rfl; have yl := h9.2.lt; go_simp
      refine held_one 2 (by kernel_rfl) rfl (by kernel_rfl) fun K hK => ?_
      go_simp
      go_wp2_with (go_at_call 16; refine Calls.mono (HTO.out _ HL6.out.drew.aft) ?_; rintro e v1 ⟨x8, rfl, ho8, hu⟩; have HL8 : Hid (LG w v1 b0 #[.slice ao zs.length cap, .string c] 33) := HL6.out.drew.step hu; have HW8 : Hid (LG w v1 b5 #[.slice a4 zs.length c4, .string c] 24) := HW6.out.drew.step hu; have HX8 : Hid (KSrow v1 x8 zs) := KSrow.of ho8; have HX9 : Hid (KSrow v1 (.slice a4 zs.length c4) zs) := (HX6.out.below (Below.refl _ _).drew).below hu; obtain ⟨a8, c8, rfl⟩ := ks_sl ho8; clear ho8 hu)
      refine hK _ _ ⟨HL8.out, HW8.out⟩ ?_
      clear hK K
      refine held_one 3 (by kernel_rfl) rfl (by kernel_rfl) fun K hK => ?_
      go_simp
      go_wp2_with (go_at_call 19; refine Calls.mono (HEQ.out _ _ _ HX9.out HX8.out) ?_; rintro e v2 ⟨rfl, hu⟩; have HL9 : Hid (LG w v2 b0 #[.slice ao zs.length cap, .string c] 33) := HL8.out.step hu; have HW9 : Hid (LG w v2 b5 #[.slice a4 zs.length c4, .string c] 24) := HW8.out.step hu; clear hu)
      refine hK _ _ ⟨HL9.out, HW9.out⟩ ?_
      clear hK K
      refine wpAnyH_take (i := 4) (v := .bool false) rfl (by kernel_rfl) (by kernel_rfl) (by kernel_rfl) (fun _ _ _ h => h) (Or.inl ⟨by kernel_rfl, fun w9 h9 => ?_⟩) ⟨HL9.out, HW9.out⟩ ?_
      · go_simp
      refine wpAnyH_done (by kernel_rfl) ?_ _
      go_simp
      go_wp2
      go_ret
      exact ⟨rfl, HL9.out.bel⟩
    · go_wp2
      go_ret
      exact ⟨rfl, HL1.out.bel⟩
  · go_enter Try.func4, Try.ntmps4
    go_wp2_with fail
    go_ret
    exact ⟨rfl, HL0.out.bel⟩
end Go.Proofs.Ytpmkgdnoambmgaa
