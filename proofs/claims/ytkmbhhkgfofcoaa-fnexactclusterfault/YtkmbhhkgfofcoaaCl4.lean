import Derived.Test.YtkmbhhkgfofcoaaCl2
import Derived.Test.YtkmbhhkgfofcoaaCr10
import Derived.Test.YtkmbhhkgfofcoaaCs4
import Derived.Test.YtkmbhhkgfofcoaaHl
namespace Go.Proofs.Ytkmbhhkgfofcoaa
open Go.ChangeShapes Go.WideShapes Go.ChangeAt Go.RowKit

set_option maxRecDepth 100000 in
set_option maxHeartbeats 8000000 in
theorem walkCF {w : World} {s : CL} {a : CA} (h : CLRows w s a) (hm : CLmax s) : Calls Try.prog 3 #[clA s a] w fun e w' => e = .returned (.bool true) ∧ Below w.heap.size w w' := by
  have HR : Hid (CLRows w s a) := h
  have HSZ : Hid (∀ u, Aft w u → Calls Try.prog 6 #[clA s a, .int .i64 1048576] u fun e w' => ∃ q, e = .returned (.int .i64 q) ∧ -1 ≤ q ∧ q ≤ 1048576 ∧ (0 ≤ q → CLlen s) ∧ Below u.heap.size u w') := fun u hu => szCL_w (HR.out.below hu.out) hm
  have HTO0 : Hid (CLlen s → ∀ u, Aft w u → Calls Try.prog 8 #[clA s a] u fun e w' => ∃ a2 : CA, e = .returned (clA s a2) ∧ CLRows w' s a2 ∧ Below u.heap.size u w') := fun hl u hu => toCL_any (HR.out.below hu.out) hl
  obtain ⟨anodes, knodes, avms, kvms, atenants, ktenants, e⟩ := h.sl
  subst e
  have HL0 : Hid (LG w (w.alloc (.cells #[.slice anodes s.nodes.length knodes, .slice avms s.vms.length kvms, .slice atenants s.tenants.length ktenants, .int .i64 s.over, .int .i64 s.time] 26)) w.heap.size #[.slice anodes s.nodes.length knodes, .slice avms s.vms.length kvms, .slice atenants s.tenants.length ktenants, .int .i64 s.over, .int .i64 s.time] 26) := LG.new w _ _
  clear h hm
  unfold clA clC at HSZ HTO0
  unfold clA clC
  simp only at HSZ HTO0 ⊢
  go_enter Try.func3, Try.ntmps3
  go_wp2_with fail
  generalize (w.alloc (.cells #[.slice anodes s.nodes.length knodes, .slice avms s.vms.length kvms, .slice atenants s.tenants.length ktenants, .int .i64 s.over, .int .i64 s.time] 26)) = u0 at *
  generalize w.heap.size = b0 at *
  refine Calls.mono (HSZ.out _ HL0.out.aft) ?_
  rintro e u1 ⟨q, rfl, q0, _, hq, hu⟩
  have HL1 : Hid (LG w u1 b0 #[.slice anodes s.nodes.length knodes, .slice avms s.vms.length kvms, .slice atenants s.tenants.length ktenants, .int .i64 s.over, .int .i64 s.time] 26) := HL0.out.step hu
  have HQ : Hid (0 ≤ q → CLlen s) := hq
  clear hu hq HL0 HSZ
  cases h3 : decide (q < 0)
  · have hl : CLlen s := HQ.out (by have := of_decide_eq_false h3; omega)
    have HTO : Hid (∀ u, Aft w u → Calls Try.prog 8 #[.agg #[.slice anodes s.nodes.length knodes, .slice avms s.vms.length kvms, .slice atenants s.tenants.length ktenants, .int .i64 s.over, .int .i64 s.time]] u fun e w' => ∃ anodesx knodesx avmsx kvmsx atenantsx ktenantsx, e = .returned (.agg #[.slice anodesx s.nodes.length knodesx, .slice avmsx s.vms.length kvmsx, .slice atenantsx s.tenants.length ktenantsx, .int .i64 s.over, .int .i64 s.time]) ∧ CLRows w' s ⟨.slice anodesx s.nodes.length knodesx, .slice avmsx s.vms.length kvmsx, .slice atenantsx s.tenants.length ktenantsx⟩ ∧ Below u.heap.size u w') := (fun u hu => (HTO0.out hl u hu).mono (by rintro e w' ⟨a2, rfl, hx, hb⟩; obtain ⟨anodesx, knodesx, avmsx, kvmsx, atenantsx, ktenantsx, ee⟩ := hx.sl; rw [ee] at hx ⊢; exact ⟨anodesx, knodesx, avmsx, kvmsx, atenantsx, ktenantsx, rfl, hx, hb⟩))
    have HSP : Hid (∀ u anodesx knodesx avmsx kvmsx atenantsx ktenantsx, CLRows u s ⟨.slice anodesx s.nodes.length knodesx, .slice avmsx s.vms.length kvmsx, .slice atenantsx s.tenants.length ktenantsx⟩ → Calls Try.prog 7 #[.agg #[.slice anodesx s.nodes.length knodesx, .slice avmsx s.vms.length kvmsx, .slice atenantsx s.tenants.length ktenantsx, .int .i64 s.over, .int .i64 s.time]] u fun e w' => e = .returned (.int .i64 (cfV s)) ∧ Below u.heap.size u w') := (fun u anodesx knodesx avmsx kvmsx atenantsx ktenantsx hx => (by have h9 := specCF_any hx hl; unfold clA clC at h9; simp only at h9; exact h9))
    have HIM : Hid (∀ u anodesx knodesx avmsx kvmsx atenantsx ktenantsx, CLRows u s ⟨.slice anodesx s.nodes.length knodesx, .slice avmsx s.vms.length kvmsx, .slice atenantsx s.tenants.length ktenantsx⟩ → Calls Try.prog 9 #[.agg #[.slice anodesx s.nodes.length knodesx, .slice avmsx s.vms.length kvmsx, .slice atenantsx s.tenants.length ktenantsx, .int .i64 s.over, .int .i64 s.time]] u fun e w' => e = .returned (.int .i64 (cfV s)) ∧ Below u.heap.size u w') := (fun u anodesx knodesx avmsx kvmsx atenantsx ktenantsx hx => (by have h9 := implCF_any hx hl; unfold clA clC at h9; simp only at h9; exact h9))
    have HEQ : Hid (∀ u anodesx knodesx avmsx kvmsx atenantsx ktenantsx anodesy knodesy avmsy kvmsy atenantsy ktenantsy, CLRows u s ⟨.slice anodesx s.nodes.length knodesx, .slice avmsx s.vms.length kvmsx, .slice atenantsx s.tenants.length ktenantsx⟩ → CLRows u s ⟨.slice anodesy s.nodes.length knodesy, .slice avmsy s.vms.length kvmsy, .slice atenantsy s.tenants.length ktenantsy⟩ → Calls Try.prog 10 #[.agg #[.slice anodesx s.nodes.length knodesx, .slice avmsx s.vms.length kvmsx, .slice atenantsx s.tenants.length ktenantsx, .int .i64 s.over, .int .i64 s.time], .agg #[.slice anodesy s.nodes.length knodesy, .slice avmsy s.vms.length kvmsy, .slice atenantsy s.tenants.length ktenantsy, .int .i64 s.over, .int .i64 s.time]] u fun e w' => e = .returned (.bool true) ∧ Below u.heap.size u w') := (fun u anodesx knodesx avmsx kvmsx atenantsx ktenantsx anodesy knodesy avmsy kvmsy atenantsy ktenantsy hx hy => by have h9 := eqCL_ok hx hy hl; unfold clA clC at h9; simp only at h9; exact h9)
    generalize cfV s = V at HSP HIM
    have hV : (V != V) = false := by simp
    clear HQ hl HTO0 HR
    have r0 := HL1.out.cel 0 _ rfl
    have r1 := HL1.out.cel 1 _ rfl
    have r2 := HL1.out.cel 2 _ rfl
    have r3 := HL1.out.cel 3 _ rfl
    have r4 := HL1.out.cel 4 _ rfl
    have rl := HL1.out.lt
    go_wp2_with fail
    refine Calls.mono (HTO.out _ HL1.out.aft) ?_
    rintro e u2 ⟨anodes2, knodes2, avms2, kvms2, atenants2, ktenants2, rfl, hx2, hb⟩
    have HL2 : Hid (LG w u2 b0 #[.slice anodes s.nodes.length knodes, .slice avms s.vms.length kvms, .slice atenants s.tenants.length ktenants, .int .i64 s.over, .int .i64 s.time] 26) := HL1.out.step hb
    have HX2 : Hid (CLRows u2 s ⟨.slice anodes2 s.nodes.length knodes2, .slice avms2 s.vms.length kvms2, .slice atenants2 s.tenants.length ktenants2⟩) := hx2
    clear hx2 hb
    clear HL1 r0 r1 r2 r3 r4 rl
    go_wp2_with fail
    refine Calls.mono (HSP.out _ _ _ _ _ _ _ HX2.out) ?_
    rintro e u3 ⟨rfl, hb⟩
    have HL3 : Hid (LG w u3 b0 #[.slice anodes s.nodes.length knodes, .slice avms s.vms.length kvms, .slice atenants s.tenants.length ktenants, .int .i64 s.over, .int .i64 s.time] 26) := HL2.out.step hb
    clear hb HL2 HX2
    have r0 := HL3.out.cel 0 _ rfl
    have r1 := HL3.out.cel 1 _ rfl
    have r2 := HL3.out.cel 2 _ rfl
    have r3 := HL3.out.cel 3 _ rfl
    have r4 := HL3.out.cel 4 _ rfl
    have rl := HL3.out.lt
    go_wp2_with fail
    refine Calls.mono (HTO.out _ HL3.out.aft) ?_
    rintro e u4 ⟨anodes4, knodes4, avms4, kvms4, atenants4, ktenants4, rfl, hx4, hb⟩
    have HL4 : Hid (LG w u4 b0 #[.slice anodes s.nodes.length knodes, .slice avms s.vms.length kvms, .slice atenants s.tenants.length ktenants, .int .i64 s.over, .int .i64 s.time] 26) := HL3.out.step hb
    have HX4 : Hid (CLRows u4 s ⟨.slice anodes4 s.nodes.length knodes4, .slice avms4 s.vms.length kvms4, .slice atenants4 s.tenants.length ktenants4⟩) := hx4
    clear hx4 hb
    clear HL3 r0 r1 r2 r3 r4 rl
    have HX5 : Hid (CLRows (u4.alloc (.cells #[.slice anodes4 s.nodes.length knodes4, .slice avms4 s.vms.length kvms4, .slice atenants4 s.tenants.length ktenants4, .int .i64 s.over, .int .i64 s.time] 33)) s ⟨.slice anodes4 s.nodes.length knodes4, .slice avms4 s.vms.length kvms4, .slice atenants4 s.tenants.length ktenants4⟩) := HX4.out.below (bx1 _ _)
    have HL5 : Hid (LG w (u4.alloc (.cells #[.slice anodes4 s.nodes.length knodes4, .slice avms4 s.vms.length kvms4, .slice atenants4 s.tenants.length ktenants4, .int .i64 s.over, .int .i64 s.time] 33)) b0 #[.slice anodes s.nodes.length knodes, .slice avms s.vms.length kvms, .slice atenants s.tenants.length ktenants, .int .i64 s.over, .int .i64 s.time] 26) := HL4.out.step (bx1 _ _)
    have HW5 : Hid (LG w (u4.alloc (.cells #[.slice anodes4 s.nodes.length knodes4, .slice avms4 s.vms.length kvms4, .slice atenants4 s.tenants.length ktenants4, .int .i64 s.over, .int .i64 s.time] 33)) u4.heap.size #[.slice anodes4 s.nodes.length knodes4, .slice avms4 s.vms.length kvms4, .slice atenants4 s.tenants.length ktenants4, .int .i64 s.over, .int .i64 s.time] 33) := ⟨HL5.out.bel, heap_new _ _, HL4.out.bel.size⟩
    clear HX4 HL4
    go_upto_region 7 with fail
    generalize (u4.alloc (.cells #[.slice anodes4 s.nodes.length knodes4, .slice avms4 s.vms.length kvms4, .slice atenants4 s.tenants.length ktenants4, .int .i64 s.over, .int .i64 s.time] 33)) = u5 at *
    generalize u4.heap.size = b5 at *
    have r0 := HW5.out.cel 0 _ rfl
    have r1 := HW5.out.cel 1 _ rfl
    have r2 := HW5.out.cel 2 _ rfl
    have r3 := HW5.out.cel 3 _ rfl
    have r4 := HW5.out.cel 4 _ rfl
    have rl := HW5.out.lt
    go_wp2_with fail
    refine Calls.mono (HIM.out _ _ _ _ _ _ _ HX5.out) ?_
    rintro e u6 ⟨rfl, hb⟩
    have HX6 : Hid (CLRows u6 s ⟨.slice anodes4 s.nodes.length knodes4, .slice avms4 s.vms.length kvms4, .slice atenants4 s.tenants.length ktenants4⟩) := HX5.out.below hb
    have HL6 : Hid (LG w u6 b0 #[.slice anodes s.nodes.length knodes, .slice avms s.vms.length kvms, .slice atenants s.tenants.length ktenants, .int .i64 s.over, .int .i64 s.time] 26) := HL5.out.step hb
    have HW6 : Hid (LG w u6 b5 #[.slice anodes4 s.nodes.length knodes4, .slice avms4 s.vms.length kvms4, .slice atenants4 s.tenants.length ktenants4, .int .i64 s.over, .int .i64 s.time] 33) := HW5.out.step hb
    clear hb HX5 HL5 HW5 r0 r1 r2 r3 r4 rl
    go_upto_region 10 with fail
    refine wp_region_held (S := fun w9 => LG w w9 b0 #[.slice anodes s.nodes.length knodes, .slice avms s.vms.length kvms, .slice atenants s.tenants.length ktenants, .int .i64 s.over, .int .i64 s.time] 26 ∧ LG w w9 b5 #[.slice anodes4 s.nodes.length knodes4, .slice avms4 s.vms.length kvms4, .slice atenants4 s.tenants.length ktenants4, .int .i64 s.over, .int .i64 s.time] 33) (by kernel_rfl) ?_
    change wpAnyH _ _ _ _ _ _ _ _ (World.drew _)
    have HS0 : Hid (LG w u6.drew b0 #[.slice anodes s.nodes.length knodes, .slice avms s.vms.length kvms, .slice atenants s.tenants.length ktenants, .int .i64 s.over, .int .i64 s.time] 26 ∧ LG w u6.drew b5 #[.slice anodes4 s.nodes.length knodes4, .slice avms4 s.vms.length kvms4, .slice atenants4 s.tenants.length ktenants4, .int .i64 s.over, .int .i64 s.time] 33) := ⟨HL6.out.drew, HW6.out.drew⟩
    have HX7 : Hid (CLRows u6.drew s ⟨.slice anodes4 s.nodes.length knodes4, .slice avms4 s.vms.length kvms4, .slice atenants4 s.tenants.length ktenants4⟩) := HX6.out.below (Below.refl _ _).drew
    generalize u6.drew = u7 at *
    clear HX6 HL6 HW6
    refine wpAnyH_take (i := 0) (v := .agg #[.slice anodes4 s.nodes.length knodes4, .slice avms4 s.vms.length kvms4, .slice atenants4 s.tenants.length ktenants4, .int .i64 s.over, .int .i64 s.time]) rfl (by kernel_rfl) (by kernel_rfl) (by kernel_rfl) (fun _ _ _ h => h) (Or.inl ⟨by kernel_rfl, fun w9 h9 => ?_⟩) HS0.out ?_
    · have y0 := h9.2.cel 0 _ rfl; have y1 := h9.2.cel 1 _ rfl; have y2 := h9.2.cel 2 _ rfl; have y3 := h9.2.cel 3 _ rfl; have y4 := h9.2.cel 4 _ rfl; have yl := h9.2.lt; clear h9; go_simp
    refine wpAnyH_take (i := 1) (v := .agg #[.slice anodes s.nodes.length knodes, .slice avms s.vms.length kvms, .slice atenants s.tenants.length ktenants, .int .i64 s.over, .int .i64 s.time]) rfl (by kernel_rfl) (by kernel_rfl) (by kernel_rfl) (fun _ _ _ h => h) (Or.inl ⟨by kernel_rfl, fun w9 h9 => ?_⟩) HS0.out ?_
    · have y0 := h9.1.cel 0 _ rfl; have y1 := h9.1.cel 1 _ rfl; have y2 := h9.1.cel 2 _ rfl; have y3 := h9.1.cel 3 _ rfl; have y4 := h9.1.cel 4 _ rfl; have yl := h9.1.lt; clear h9; go_simp
    refine held_one 2 (by kernel_rfl) rfl (by kernel_rfl) fun K hK => ?_
    go_simp
    go_wp2_with fail
    refine Calls.mono (HTO.out _ HS0.out.1.aft) ?_
    rintro e u8 ⟨anodes8, knodes8, avms8, kvms8, atenants8, ktenants8, rfl, hx8, hb⟩
    have HX8 : Hid (CLRows u8 s ⟨.slice anodes8 s.nodes.length knodes8, .slice avms8 s.vms.length kvms8, .slice atenants8 s.tenants.length ktenants8⟩) := hx8
    have HX9 : Hid (CLRows u8 s ⟨.slice anodes4 s.nodes.length knodes4, .slice avms4 s.vms.length kvms4, .slice atenants4 s.tenants.length ktenants4⟩) := HX7.out.below hb
    have HS8 : Hid (LG w u8 b0 #[.slice anodes s.nodes.length knodes, .slice avms s.vms.length kvms, .slice atenants s.tenants.length ktenants, .int .i64 s.over, .int .i64 s.time] 26 ∧ LG w u8 b5 #[.slice anodes4 s.nodes.length knodes4, .slice avms4 s.vms.length kvms4, .slice atenants4 s.tenants.length ktenants4, .int .i64 s.over, .int .i64 s.time] 33) := ⟨HS0.out.1.step hb, HS0.out.2.step hb⟩
    clear hx8 hb HS0 HX7
    refine hK _ _ HS8.out ?_
    clear hK K
    refine held_one 3 (by kernel_rfl) rfl (by kernel_rfl) fun K hK => ?_
    go_simp
    go_wp2_with fail
    refine Calls.mono (HEQ.out _ _ _ _ _ _ _ _ _ _ _ _ _ HX9.out HX8.out) ?_
    rintro e u9 ⟨rfl, hb⟩
    have HS9 : Hid (LG w u9 b0 #[.slice anodes s.nodes.length knodes, .slice avms s.vms.length kvms, .slice atenants s.tenants.length ktenants, .int .i64 s.over, .int .i64 s.time] 26 ∧ LG w u9 b5 #[.slice anodes4 s.nodes.length knodes4, .slice avms4 s.vms.length kvms4, .slice atenants4 s.tenants.length ktenants4, .int .i64 s.over, .int .i64 s.time] 33) := ⟨HS8.out.1.step hb, HS8.out.2.step hb⟩
    clear hb HS8
    refine hK _ _ HS9.out ?_
    clear hK K
    refine wpAnyH_take (i := 4) (v := .bool false) rfl (by kernel_rfl) (by kernel_rfl) (by kernel_rfl) (fun _ _ _ h => h) (Or.inl ⟨by kernel_rfl, fun w9 h9 => ?_⟩) HS9.out ?_
    · clear h9; go_simp
    refine wpAnyH_done (by kernel_rfl) ?_ _
    go_simp
    go_wp2
    go_ret
    exact ⟨rfl, HS9.out.1.bel⟩
  · go_wp2
    go_ret
    exact ⟨rfl, HL1.out.bel⟩
end Go.Proofs.Ytkmbhhkgfofcoaa
