import Derived.Test.YtefeahilamiiaaaSw9
namespace Go.Proofs.Ytefeahilamiiaaa
open Go.ChangeShapes Go.WideShapes Go.ChangeAt Go.RowKit

set_option maxRecDepth 100000 in
set_option maxHeartbeats 8000000 in
theorem walkSF {w : World} {s : SW} {a : SA} (h : SRows w s a) (hm : SMax s) : Calls Try.prog 4 #[swA s a] w fun e w' => e = .returned (.bool true) ∧ Below w.heap.size w w' := by
  have HR : Hid (SRows w s a) := h
  have HSZ : Hid (∀ u, Aft w u → Calls Try.prog 10 #[swA s a, .int .i64 1048576] u fun e w' => ∃ q, e = .returned (.int .i64 q) ∧ -1 ≤ q ∧ (0 ≤ q → SLen s) ∧ Below u.heap.size u w') := fun u hu => szSwitch_w (HR.out.below hu.out) hm
  have HTO0 : Hid (SLen s → ∀ u, Aft w u → Calls Try.prog 12 #[swA s a] u fun e w' => ∃ a2 : SA, e = .returned (swA s a2) ∧ SRows w' s a2 ∧ Below u.heap.size u w') := fun hl u hu => toSwitch_any (HR.out.below hu.out) hl
  obtain ⟨ap, kp, ae, ke, e⟩ := h.sl
  generalize a.qs = qs at e
  subst e
  have HL0 : Hid (LG w (w.alloc (.cells #[.slice ap s.ps.length kp, .slice ae s.es.length ke, .int .i64 s.time, .int .i64 s.age] 40)) w.heap.size #[.slice ap s.ps.length kp, .slice ae s.es.length ke, .int .i64 s.time, .int .i64 s.age] 40) := LG.new w _ _
  clear h hm
  unfold swA swC at HSZ HTO0
  unfold swA swC
  simp only at HSZ HTO0 ⊢
  go_enter Try.func4, Try.ntmps4
  go_wp2_with fail
  generalize (w.alloc (.cells #[.slice ap s.ps.length kp, .slice ae s.es.length ke, .int .i64 s.time, .int .i64 s.age] 40)) = u0 at *
  generalize w.heap.size = b0 at *
  refine Calls.mono (HSZ.out _ HL0.out.aft) ?_
  rintro e u1 ⟨q, rfl, q0, hq, hu⟩
  have HL1 : Hid (LG w u1 b0 #[.slice ap s.ps.length kp, .slice ae s.es.length ke, .int .i64 s.time, .int .i64 s.age] 40) := HL0.out.step hu
  have HQ : Hid (0 ≤ q → SLen s) := hq
  clear hu hq HL0 HSZ
  cases h3 : decide (q < 0)
  · have hl : SLen s := HQ.out (by have := of_decide_eq_false h3; omega)
    have HTO : Hid (∀ u, Aft w u → Calls Try.prog 12 #[.agg #[.slice ap s.ps.length kp, .slice ae s.es.length ke, .int .i64 s.time, .int .i64 s.age]] u fun e w' => ∃ p1 q1 p2 q2 x, e = .returned (.agg #[.slice p1 s.ps.length q1, .slice p2 s.es.length q2, .int .i64 s.time, .int .i64 s.age]) ∧ SRows w' s ⟨.slice p1 s.ps.length q1, .slice p2 s.es.length q2, x⟩ ∧ Below u.heap.size u w') := (fun u hu => (HTO0.out hl u hu).mono (by rintro e w' ⟨a2, rfl, hx, hb⟩; obtain ⟨p1, q1, p2, q2, ee⟩ := hx.sl; rw [ee] at hx ⊢; exact ⟨p1, q1, p2, q2, _, rfl, hx, hb⟩))
    have HSP : Hid (∀ u p1 q1 p2 q2 x, SRows u s ⟨.slice p1 s.ps.length q1, .slice p2 s.es.length q2, x⟩ → Calls Try.prog 11 #[.agg #[.slice p1 s.ps.length q1, .slice p2 s.es.length q2, .int .i64 s.time, .int .i64 s.age]] u fun e w' => e = .returned (.int .i64 (swV s)) ∧ Below u.heap.size u w') := (fun u p1 q1 p2 q2 x hx => by have h9 := specSF_any hx hl; unfold swA swC at h9; simp only at h9; exact h9)
    have HIM : Hid (∀ u p1 q1 p2 q2 x, SRows u s ⟨.slice p1 s.ps.length q1, .slice p2 s.es.length q2, x⟩ → Calls Try.prog 13 #[.agg #[.slice p1 s.ps.length q1, .slice p2 s.es.length q2, .int .i64 s.time, .int .i64 s.age]] u fun e w' => e = .returned (.int .i64 (swV s)) ∧ Below u.heap.size u w') := (fun u p1 q1 p2 q2 x hx => by have h9 := implSF_any hx hl; unfold swA swC at h9; simp only at h9; exact h9)
    have HEQ : Hid (∀ u p1 q1 p2 q2 x p3 q3 p4 q4 y, SRows u s ⟨.slice p1 s.ps.length q1, .slice p2 s.es.length q2, x⟩ → SRows u s ⟨.slice p3 s.ps.length q3, .slice p4 s.es.length q4, y⟩ → Calls Try.prog 14 #[.agg #[.slice p1 s.ps.length q1, .slice p2 s.es.length q2, .int .i64 s.time, .int .i64 s.age], .agg #[.slice p3 s.ps.length q3, .slice p4 s.es.length q4, .int .i64 s.time, .int .i64 s.age]] u fun e w' => e = .returned (.bool true) ∧ Below u.heap.size u w') := (fun u p1 q1 p2 q2 x p3 q3 p4 q4 y hx hy => by have h9 := eqSwitch_ok hx hy hl; unfold swA swC at h9; simp only at h9; exact h9)
    generalize swV s = V at HSP HIM
    have hV : (V != V) = false := by simp
    clear HQ hl HTO0 HR
    have r0 := HL1.out.cel 0 _ rfl
    have r1 := HL1.out.cel 1 _ rfl
    have r2 := HL1.out.cel 2 _ rfl
    have r3 := HL1.out.cel 3 _ rfl
    have rl := HL1.out.lt
    go_wp2_with fail
    refine Calls.mono (HTO.out _ HL1.out.aft) ?_
    rintro e u2 ⟨ap2, kp2, ae2, ke2, qs2, rfl, hx2, hb⟩
    have HL2 : Hid (LG w u2 b0 #[.slice ap s.ps.length kp, .slice ae s.es.length ke, .int .i64 s.time, .int .i64 s.age] 40) := HL1.out.step hb
    have HX2 : Hid (SRows u2 s ⟨.slice ap2 s.ps.length kp2, .slice ae2 s.es.length ke2, qs2⟩) := hx2
    clear hx2 hb
    clear HL1 r0 r1 r2 r3 rl
    go_wp2_with fail
    refine Calls.mono (HSP.out _ _ _ _ _ _ HX2.out) ?_
    rintro e u3 ⟨rfl, hb⟩
    have HL3 : Hid (LG w u3 b0 #[.slice ap s.ps.length kp, .slice ae s.es.length ke, .int .i64 s.time, .int .i64 s.age] 40) := HL2.out.step hb
    clear hb HL2 HX2
    have r0 := HL3.out.cel 0 _ rfl
    have r1 := HL3.out.cel 1 _ rfl
    have r2 := HL3.out.cel 2 _ rfl
    have r3 := HL3.out.cel 3 _ rfl
    have rl := HL3.out.lt
    go_wp2_with fail
    refine Calls.mono (HTO.out _ HL3.out.aft) ?_
    rintro e u4 ⟨ap4, kp4, ae4, ke4, qs4, rfl, hx4, hb⟩
    have HL4 : Hid (LG w u4 b0 #[.slice ap s.ps.length kp, .slice ae s.es.length ke, .int .i64 s.time, .int .i64 s.age] 40) := HL3.out.step hb
    have HX4 : Hid (SRows u4 s ⟨.slice ap4 s.ps.length kp4, .slice ae4 s.es.length ke4, qs4⟩) := hx4
    clear hx4 hb
    clear HL3 r0 r1 r2 r3 rl
    have HX5 : Hid (SRows (u4.alloc (.cells #[.slice ap4 s.ps.length kp4, .slice ae4 s.es.length ke4, .int .i64 s.time, .int .i64 s.age] 46)) s ⟨.slice ap4 s.ps.length kp4, .slice ae4 s.es.length ke4, qs4⟩) := HX4.out.below (bx1 _ _)
    have HL5 : Hid (LG w (u4.alloc (.cells #[.slice ap4 s.ps.length kp4, .slice ae4 s.es.length ke4, .int .i64 s.time, .int .i64 s.age] 46)) b0 #[.slice ap s.ps.length kp, .slice ae s.es.length ke, .int .i64 s.time, .int .i64 s.age] 40) := HL4.out.step (bx1 _ _)
    have HW5 : Hid (LG w (u4.alloc (.cells #[.slice ap4 s.ps.length kp4, .slice ae4 s.es.length ke4, .int .i64 s.time, .int .i64 s.age] 46)) u4.heap.size #[.slice ap4 s.ps.length kp4, .slice ae4 s.es.length ke4, .int .i64 s.time, .int .i64 s.age] 46) := ⟨HL5.out.bel, heap_new _ _, HL4.out.bel.size⟩
    clear HX4 HL4
    go_upto_region 7 with fail
    generalize (u4.alloc (.cells #[.slice ap4 s.ps.length kp4, .slice ae4 s.es.length ke4, .int .i64 s.time, .int .i64 s.age] 46)) = u5 at *
    generalize u4.heap.size = b5 at *
    have r0 := HW5.out.cel 0 _ rfl
    have r1 := HW5.out.cel 1 _ rfl
    have r2 := HW5.out.cel 2 _ rfl
    have r3 := HW5.out.cel 3 _ rfl
    have rl := HW5.out.lt
    go_wp2_with fail
    refine Calls.mono (HIM.out _ _ _ _ _ _ HX5.out) ?_
    rintro e u6 ⟨rfl, hb⟩
    have HX6 : Hid (SRows u6 s ⟨.slice ap4 s.ps.length kp4, .slice ae4 s.es.length ke4, qs4⟩) := HX5.out.below hb
    have HL6 : Hid (LG w u6 b0 #[.slice ap s.ps.length kp, .slice ae s.es.length ke, .int .i64 s.time, .int .i64 s.age] 40) := HL5.out.step hb
    have HW6 : Hid (LG w u6 b5 #[.slice ap4 s.ps.length kp4, .slice ae4 s.es.length ke4, .int .i64 s.time, .int .i64 s.age] 46) := HW5.out.step hb
    clear hb HX5 HL5 HW5 r0 r1 r2 r3 rl
    go_upto_region 10 with fail
    refine wp_region_held (S := fun w9 => LG w w9 b0 #[.slice ap s.ps.length kp, .slice ae s.es.length ke, .int .i64 s.time, .int .i64 s.age] 40 ∧ LG w w9 b5 #[.slice ap4 s.ps.length kp4, .slice ae4 s.es.length ke4, .int .i64 s.time, .int .i64 s.age] 46) (by kernel_rfl) ?_
    change wpAnyH _ _ _ _ _ _ _ _ (World.drew _)
    have HS0 : Hid (LG w u6.drew b0 #[.slice ap s.ps.length kp, .slice ae s.es.length ke, .int .i64 s.time, .int .i64 s.age] 40 ∧ LG w u6.drew b5 #[.slice ap4 s.ps.length kp4, .slice ae4 s.es.length ke4, .int .i64 s.time, .int .i64 s.age] 46) := ⟨HL6.out.drew, HW6.out.drew⟩
    have HX7 : Hid (SRows u6.drew s ⟨.slice ap4 s.ps.length kp4, .slice ae4 s.es.length ke4, qs4⟩) := HX6.out.below (Below.refl _ _).drew
    generalize u6.drew = u7 at *
    clear HX6 HL6 HW6
    refine wpAnyH_take (i := 0) (v := .agg #[.slice ap4 s.ps.length kp4, .slice ae4 s.es.length ke4, .int .i64 s.time, .int .i64 s.age]) rfl (by kernel_rfl) (by kernel_rfl) (by kernel_rfl) (fun _ _ _ h => h) (Or.inl ⟨by kernel_rfl, fun w9 h9 => ?_⟩) HS0.out ?_
    · have y0 := h9.2.cel 0 _ rfl; have y1 := h9.2.cel 1 _ rfl; have y2 := h9.2.cel 2 _ rfl; have y3 := h9.2.cel 3 _ rfl; have yl := h9.2.lt; clear h9; go_simp
    refine wpAnyH_take (i := 1) (v := .agg #[.slice ap s.ps.length kp, .slice ae s.es.length ke, .int .i64 s.time, .int .i64 s.age]) rfl (by kernel_rfl) (by kernel_rfl) (by kernel_rfl) (fun _ _ _ h => h) (Or.inl ⟨by kernel_rfl, fun w9 h9 => ?_⟩) HS0.out ?_
    · have y0 := h9.1.cel 0 _ rfl; have y1 := h9.1.cel 1 _ rfl; have y2 := h9.1.cel 2 _ rfl; have y3 := h9.1.cel 3 _ rfl; have yl := h9.1.lt; clear h9; go_simp
    refine held_one 2 (by kernel_rfl) rfl (by kernel_rfl) fun K hK => ?_
    go_simp
    go_wp2_with fail
    refine Calls.mono (HTO.out _ HS0.out.1.aft) ?_
    rintro e u8 ⟨ap8, kp8, ae8, ke8, qs8, rfl, hx8, hb⟩
    have HX8 : Hid (SRows u8 s ⟨.slice ap8 s.ps.length kp8, .slice ae8 s.es.length ke8, qs8⟩) := hx8
    have HX9 : Hid (SRows u8 s ⟨.slice ap4 s.ps.length kp4, .slice ae4 s.es.length ke4, qs4⟩) := HX7.out.below hb
    have HS8 : Hid (LG w u8 b0 #[.slice ap s.ps.length kp, .slice ae s.es.length ke, .int .i64 s.time, .int .i64 s.age] 40 ∧ LG w u8 b5 #[.slice ap4 s.ps.length kp4, .slice ae4 s.es.length ke4, .int .i64 s.time, .int .i64 s.age] 46) := ⟨HS0.out.1.step hb, HS0.out.2.step hb⟩
    clear hx8 hb HS0 HX7
    refine hK _ _ HS8.out ?_
    clear hK K
    refine held_one 3 (by kernel_rfl) rfl (by kernel_rfl) fun K hK => ?_
    go_simp
    go_wp2_with fail
    refine Calls.mono (HEQ.out _ _ _ _ _ _ _ _ _ _ _ HX9.out HX8.out) ?_
    rintro e u9 ⟨rfl, hb⟩
    have HS9 : Hid (LG w u9 b0 #[.slice ap s.ps.length kp, .slice ae s.es.length ke, .int .i64 s.time, .int .i64 s.age] 40 ∧ LG w u9 b5 #[.slice ap4 s.ps.length kp4, .slice ae4 s.es.length ke4, .int .i64 s.time, .int .i64 s.age] 46) := ⟨HS8.out.1.step hb, HS8.out.2.step hb⟩
    clear hb HS8
    refine hK _ _ HS9.out ?_
    clear hK K
    refine wpAnyH_take (i := 4) (v := .bool false) rfl (by kernel_rfl) (by kernel_rfl) (by kernel_rfl) (fun _ _ _ h => h) (Or.inl ⟨by kernel_rfl, fun w9 h9 => ?_⟩) HS9.out ?_
    · clear h9; go_simp
    refine wpAnyH_done (by kernel_rfl) ?_ _
    go_simp
    go_wp2
    go_ret
    exact ⟨rfl, HS9.out.1.bel⟩
  · go_wp2
    go_ret
    exact ⟨rfl, HL1.out.bel⟩
end Go.Proofs.Ytefeahilamiiaaa
