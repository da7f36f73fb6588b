import Derived.Test.YtlpkkclmcgnapaaBd2
import Derived.Test.YtlpkkclmcgnapaaDv2
import Derived.Test.YtlpkkclmcgnapaaDv3
import Derived.Test.YtlpkkclmcgnapaaHl
namespace Go.Proofs.Ytlpkkclmcgnapaa
open Go.ChangeShapes Go.WideShapes Go.ChangeAt Go.RowKit

set_option maxRecDepth 100000 in
set_option maxHeartbeats 8000000 in
theorem walkBF {w : World} {s : BD} {a : BDA} (h : BDRows w s a) (hm : BDmax s) : Calls Try.prog 3 #[bdA s a] w fun e w' => e = .returned (.bool true) ∧ Below w.heap.size w w' := by
  have HR : Hid (BDRows w s a) := h
  have HSZ : Hid (∀ u, Aft w u → Calls Try.prog 6 #[bdA s a, .int .i64 1048576] u fun e w' => ∃ q, e = .returned (.int .i64 q) ∧ -1 ≤ q ∧ q ≤ 1048576 ∧ (0 ≤ q → BDlen s) ∧ Below u.heap.size u w') := fun u hu => szBD_w (HR.out.below hu.out) hm
  have HTO0 : Hid (BDlen s → ∀ u, Aft w u → Calls Try.prog 8 #[bdA s a] u fun e w' => ∃ a2 : BDA, e = .returned (bdA s a2) ∧ BDRows w' s a2 ∧ Below u.heap.size u w') := fun hl u hu => toBD_any (HR.out.below hu.out) hl
  obtain ⟨ads, kds, e⟩ := h.sl
  subst e
  have HL0 : Hid (LG w (w.alloc (.cells #[.int .i64 s.frames, .int .i64 s.cpus, .slice ads s.ds.length kds] 24)) w.heap.size #[.int .i64 s.frames, .int .i64 s.cpus, .slice ads s.ds.length kds] 24) := LG.new w _ _
  clear h hm
  unfold bdA bdC at HSZ HTO0
  unfold bdA bdC
  simp only at HSZ HTO0 ⊢
  go_enter Try.func3, Try.ntmps3
  go_wp2_with fail
  generalize (w.alloc (.cells #[.int .i64 s.frames, .int .i64 s.cpus, .slice ads s.ds.length kds] 24)) = u0 at *
  generalize w.heap.size = b0 at *
  refine Calls.mono (HSZ.out _ HL0.out.aft) ?_
  rintro e u1 ⟨q, rfl, q0, _, hq, hu⟩
  have HL1 : Hid (LG w u1 b0 #[.int .i64 s.frames, .int .i64 s.cpus, .slice ads s.ds.length kds] 24) := HL0.out.step hu
  have HQ : Hid (0 ≤ q → BDlen s) := hq
  clear hu hq HL0 HSZ
  cases h3 : decide (q < 0)
  · have hl : BDlen s := HQ.out (by have := of_decide_eq_false h3; omega)
    have HTO : Hid (∀ u, Aft w u → Calls Try.prog 8 #[.agg #[.int .i64 s.frames, .int .i64 s.cpus, .slice ads s.ds.length kds]] u fun e w' => ∃ adsx kdsx, e = .returned (.agg #[.int .i64 s.frames, .int .i64 s.cpus, .slice adsx s.ds.length kdsx]) ∧ BDRows w' s ⟨.slice adsx s.ds.length kdsx⟩ ∧ Below u.heap.size u w') := (fun u hu => (HTO0.out hl u hu).mono (by rintro e w' ⟨a2, rfl, hx, hb⟩; obtain ⟨adsx, kdsx, ee⟩ := hx.sl; rw [ee] at hx ⊢; exact ⟨adsx, kdsx, rfl, hx, hb⟩))
    have HSP : Hid (∀ u adsx kdsx, BDRows u s ⟨.slice adsx s.ds.length kdsx⟩ → Calls Try.prog 7 #[.agg #[.int .i64 s.frames, .int .i64 s.cpus, .slice adsx s.ds.length kdsx]] u fun e w' => e = .returned (.int .i64 (bfV s.frames s.cpus s.ds)) ∧ Below u.heap.size u w') := (fun u adsx kdsx hx => specBF_any hx.rds)
    have HIM : Hid (∀ u adsx kdsx, BDRows u s ⟨.slice adsx s.ds.length kdsx⟩ → Calls Try.prog 9 #[.agg #[.int .i64 s.frames, .int .i64 s.cpus, .slice adsx s.ds.length kdsx]] u fun e w' => e = .returned (.int .i64 (bfV s.frames s.cpus s.ds)) ∧ Below u.heap.size u w') := (fun u adsx kdsx hx => implBF_any hx.rds)
    have HEQ : Hid (∀ u adsx kdsx adsy kdsy, BDRows u s ⟨.slice adsx s.ds.length kdsx⟩ → BDRows u s ⟨.slice adsy s.ds.length kdsy⟩ → Calls Try.prog 10 #[.agg #[.int .i64 s.frames, .int .i64 s.cpus, .slice adsx s.ds.length kdsx], .agg #[.int .i64 s.frames, .int .i64 s.cpus, .slice adsy s.ds.length kdsy]] u fun e w' => e = .returned (.bool true) ∧ Below u.heap.size u w') := (fun u adsx kdsx adsy kdsy hx hy => by have h9 := eqBD_ok hx hy hl; unfold bdA bdC at h9; simp only at h9; exact h9)
    generalize bfV s.frames s.cpus s.ds = V at HSP HIM
    have hV : (V != V) = false := by simp
    clear HQ hl HTO0 HR
    have r0 := HL1.out.cel 0 _ rfl
    have r1 := HL1.out.cel 1 _ rfl
    have r2 := HL1.out.cel 2 _ rfl
    have rl := HL1.out.lt
    go_wp2_with fail
    refine Calls.mono (HTO.out _ HL1.out.aft) ?_
    rintro e u2 ⟨ads2, kds2, rfl, hx2, hb⟩
    have HL2 : Hid (LG w u2 b0 #[.int .i64 s.frames, .int .i64 s.cpus, .slice ads s.ds.length kds] 24) := HL1.out.step hb
    have HX2 : Hid (BDRows u2 s ⟨.slice ads2 s.ds.length kds2⟩) := hx2
    clear hx2 hb
    clear HL1 r0 r1 r2 rl
    go_wp2_with fail
    refine Calls.mono (HSP.out _ _ _ HX2.out) ?_
    rintro e u3 ⟨rfl, hb⟩
    have HL3 : Hid (LG w u3 b0 #[.int .i64 s.frames, .int .i64 s.cpus, .slice ads s.ds.length kds] 24) := HL2.out.step hb
    clear hb HL2 HX2
    have r0 := HL3.out.cel 0 _ rfl
    have r1 := HL3.out.cel 1 _ rfl
    have r2 := HL3.out.cel 2 _ rfl
    have rl := HL3.out.lt
    go_wp2_with fail
    refine Calls.mono (HTO.out _ HL3.out.aft) ?_
    rintro e u4 ⟨ads4, kds4, rfl, hx4, hb⟩
    have HL4 : Hid (LG w u4 b0 #[.int .i64 s.frames, .int .i64 s.cpus, .slice ads s.ds.length kds] 24) := HL3.out.step hb
    have HX4 : Hid (BDRows u4 s ⟨.slice ads4 s.ds.length kds4⟩) := hx4
    clear hx4 hb
    clear HL3 r0 r1 r2 rl
    have HX5 : Hid (BDRows (u4.alloc (.cells #[.int .i64 s.frames, .int .i64 s.cpus, .slice ads4 s.ds.length kds4] 29)) s ⟨.slice ads4 s.ds.length kds4⟩) := HX4.out.below (bx1 _ _)
    have HL5 : Hid (LG w (u4.alloc (.cells #[.int .i64 s.frames, .int .i64 s.cpus, .slice ads4 s.ds.length kds4] 29)) b0 #[.int .i64 s.frames, .int .i64 s.cpus, .slice ads s.ds.length kds] 24) := HL4.out.step (bx1 _ _)
    have HW5 : Hid (LG w (u4.alloc (.cells #[.int .i64 s.frames, .int .i64 s.cpus, .slice ads4 s.ds.length kds4] 29)) u4.heap.size #[.int .i64 s.frames, .int .i64 s.cpus, .slice ads4 s.ds.length kds4] 29) := ⟨HL5.out.bel, heap_new _ _, HL4.out.bel.size⟩
    clear HX4 HL4
    go_upto_region 7 with fail
    generalize (u4.alloc (.cells #[.int .i64 s.frames, .int .i64 s.cpus, .slice ads4 s.ds.length kds4] 29)) = u5 at *
    generalize u4.heap.size = b5 at *
    have r0 := HW5.out.cel 0 _ rfl
    have r1 := HW5.out.cel 1 _ rfl
    have r2 := HW5.out.cel 2 _ rfl
    have rl := HW5.out.lt
    go_wp2_with fail
    refine Calls.mono (HIM.out _ _ _ HX5.out) ?_
    rintro e u6 ⟨rfl, hb⟩
    have HX6 : Hid (BDRows u6 s ⟨.slice ads4 s.ds.length kds4⟩) := HX5.out.below hb
    have HL6 : Hid (LG w u6 b0 #[.int .i64 s.frames, .int .i64 s.cpus, .slice ads s.ds.length kds] 24) := HL5.out.step hb
    have HW6 : Hid (LG w u6 b5 #[.int .i64 s.frames, .int .i64 s.cpus, .slice ads4 s.ds.length kds4] 29) := HW5.out.step hb
    clear hb HX5 HL5 HW5 r0 r1 r2 rl
    go_upto_region 10 with fail
    refine wp_region_held (S := fun w9 => LG w w9 b0 #[.int .i64 s.frames, .int .i64 s.cpus, .slice ads s.ds.length kds] 24 ∧ LG w w9 b5 #[.int .i64 s.frames, .int .i64 s.cpus, .slice ads4 s.ds.length kds4] 29) (by kernel_rfl) ?_
    change wpAnyH _ _ _ _ _ _ _ _ (World.drew _)
    have HS0 : Hid (LG w u6.drew b0 #[.int .i64 s.frames, .int .i64 s.cpus, .slice ads s.ds.length kds] 24 ∧ LG w u6.drew b5 #[.int .i64 s.frames, .int .i64 s.cpus, .slice ads4 s.ds.length kds4] 29) := ⟨HL6.out.drew, HW6.out.drew⟩
    have HX7 : Hid (BDRows u6.drew s ⟨.slice ads4 s.ds.length kds4⟩) := HX6.out.below (Below.refl _ _).drew
    generalize u6.drew = u7 at *
    clear HX6 HL6 HW6
    refine wpAnyH_take (i := 0) (v := .agg #[.int .i64 s.frames, .int .i64 s.cpus, .slice ads4 s.ds.length kds4]) rfl (by kernel_rfl) (by kernel_rfl) (by kernel_rfl) (fun _ _ _ h => h) (Or.inl ⟨by kernel_rfl, fun w9 h9 => ?_⟩) HS0.out ?_
    · have y0 := h9.2.cel 0 _ rfl; have y1 := h9.2.cel 1 _ rfl; have y2 := h9.2.cel 2 _ rfl; have yl := h9.2.lt; clear h9; go_simp
    refine wpAnyH_take (i := 1) (v := .agg #[.int .i64 s.frames, .int .i64 s.cpus, .slice ads s.ds.length kds]) rfl (by kernel_rfl) (by kernel_rfl) (by kernel_rfl) (fun _ _ _ h => h) (Or.inl ⟨by kernel_rfl, fun w9 h9 => ?_⟩) HS0.out ?_
    · have y0 := h9.1.cel 0 _ rfl; have y1 := h9.1.cel 1 _ rfl; have y2 := h9.1.cel 2 _ rfl; have yl := h9.1.lt; clear h9; go_simp
    refine held_one 2 (by kernel_rfl) rfl (by kernel_rfl) fun K hK => ?_
    go_simp
    go_wp2_with fail
    refine Calls.mono (HTO.out _ HS0.out.1.aft) ?_
    rintro e u8 ⟨ads8, kds8, rfl, hx8, hb⟩
    have HX8 : Hid (BDRows u8 s ⟨.slice ads8 s.ds.length kds8⟩) := hx8
    have HX9 : Hid (BDRows u8 s ⟨.slice ads4 s.ds.length kds4⟩) := HX7.out.below hb
    have HS8 : Hid (LG w u8 b0 #[.int .i64 s.frames, .int .i64 s.cpus, .slice ads s.ds.length kds] 24 ∧ LG w u8 b5 #[.int .i64 s.frames, .int .i64 s.cpus, .slice ads4 s.ds.length kds4] 29) := ⟨HS0.out.1.step hb, HS0.out.2.step hb⟩
    clear hx8 hb HS0 HX7
    refine hK _ _ HS8.out ?_
    clear hK K
    refine held_one 3 (by kernel_rfl) rfl (by kernel_rfl) fun K hK => ?_
    go_simp
    go_wp2_with fail
    refine Calls.mono (HEQ.out _ _ _ _ _ HX9.out HX8.out) ?_
    rintro e u9 ⟨rfl, hb⟩
    have HS9 : Hid (LG w u9 b0 #[.int .i64 s.frames, .int .i64 s.cpus, .slice ads s.ds.length kds] 24 ∧ LG w u9 b5 #[.int .i64 s.frames, .int .i64 s.cpus, .slice ads4 s.ds.length kds4] 29) := ⟨HS8.out.1.step hb, HS8.out.2.step hb⟩
    clear hb HS8
    refine hK _ _ HS9.out ?_
    clear hK K
    refine wpAnyH_take (i := 4) (v := .bool false) rfl (by kernel_rfl) (by kernel_rfl) (by kernel_rfl) (fun _ _ _ h => h) (Or.inl ⟨by kernel_rfl, fun w9 h9 => ?_⟩) HS9.out ?_
    · clear h9; go_simp
    refine wpAnyH_done (by kernel_rfl) ?_ _
    go_simp
    go_wp2
    go_ret
    exact ⟨rfl, HS9.out.1.bel⟩
  · go_wp2
    go_ret
    exact ⟨rfl, HL1.out.bel⟩
end Go.Proofs.Ytlpkkclmcgnapaa
