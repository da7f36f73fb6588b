import Derived.Test.YtlpkkclmcgnapaaDv1
import Derived.Test.YtlpkkclmcgnapaaHl
import Derived.Deep.CutRange
import Derived.Deep.RegionWith
namespace Go.Proofs.Ytlpkkclmcgnapaa
open Go.ChangeShapes Go.WideShapes Go.ChangeAt Go.RowKit

set_option maxRecDepth 100000 in
set_option maxHeartbeats 4000000 in
theorem areDevices_any {w : World} {ao : Option Addr} {cap : Nat} {zs : List DV} (h : DVrow w (.slice ao zs.length cap) zs) : Calls Try.prog 26 #[.slice ao zs.length cap] w fun e w' => e = .returned (.bool (dsB zs)) ∧ Below w.heap.size w w' := by
  have HR : Hid (DVrow w (.slice ao zs.length cap) zs) := h
  clear h
  cases q0 : decide (16 < (zs.length : Int))
  rotate_left
  · have E : Hid (dsB zs = false) := dsB_long (of_decide_eq_true q0)
    go_enter Try.func26, Try.ntmps26
    go_wp2
    go_ret
    exact ⟨ret_bool E.out.symm, Below.refl _ _⟩
  have E : Hid (dsB zs = allD (dvk zs) zs.length) := dsB_short (of_decide_eq_false q0)
  have r2 : zs.length ≤ 16 := by have := of_decide_eq_false q0; omega
  go_enter Try.func26, Try.ntmps26
  go_wp2
  clear q0
  go_loopw [10] (fun i wr => ∃ k : Nat, k ≤ zs.length ∧ i = .int .i64 k ∧ allD (dvk zs) k = true ∧ Below w.heap.size w wr) (fun i _ => zs.length - (intOf i).toNat)
  case atStart => exact ⟨0, Nat.zero_le _, rfl, rfl, Below.refl _ _⟩
  case round =>
    obtain ⟨k, hk, rfl, hall, hb⟩ := hrel
    have HB : Hid (Below w.heap.size w wr) := hb
    have HALL : Hid (allD (dvk zs) k = true) := hall
    clear hb hall
    by_cases hlt : k < zs.length
    · obtain ⟨g, o, cap2, hv, _, hg, hc⟩ := HR.out.resolve_left (fun h => by rw [h.1] at hlt; simp at hlt)
      injection hv with hv1 hv2 hv3
      subst hv1 hv3
      have hgw : g < wr.heap.size := Nat.lt_of_lt_of_le hg HB.out.size
      have hk0 : (0 : Int) ≤ (k : Int) := by omega
      have hk1 : (k : Int) < (zs.length : Int) := by omega
      have HS : Hid (allD (dvk zs) (k + 1) = (allD (dvk zs) k && dvk zs k)) := allD_succ _ _
      have HBAD : Hid (dvk zs k = false → dsB zs = false) := fun hh => by rw [E.out, allD_bad hlt hh]
      match k, hlt, hk, hk0, hk1, HALL, HS, HBAD with
      | 0, hlt, hk, hk0, hk1, HALL, HS, HBAD =>
        obtain ⟨d0, d1, d2⟩ := hc.below HB.out hg 0 hlt
        simp only [Nat.zero_mul, Nat.add_zero] at d0 d1 d2
        have HEK : Hid (dvk zs 0 = dvB zs[0]) := dvk_0 hlt
        have hj4 : decide ((0 : Int) < ((0 : Nat) : Int)) = false := rfl
        generalize zs[0] = z at *
        have HLN : Hid (LG w (wr.alloc (.cells #[.int .i64 z.kind, .int .i64 z.port, .int .i64 z.line] 49)) wr.heap.size #[.int .i64 z.kind, .int .i64 z.port, .int .i64 z.line] 49) := ⟨HB.out.trans ((bx1 wr _).mono HB.out.size), heap_new _ _, HB.out.size⟩
        have HV : Hid (∀ u, Calls Try.prog 42 #[.agg #[.int .i64 z.kind, .int .i64 z.port, .int .i64 z.line]] u fun e w' => e = .returned (.bool (dvB z)) ∧ Below u.heap.size u w') := fun u => dvRight_any z u
        generalize dvB z = V at *
        clear hc
        cases V
        · have E2 : Hid (dsB zs = false) := HBAD.out HEK.out
          go_upto_region 6 with fail
          clear d0 d1 d2
          generalize (wr.alloc (.cells #[.int .i64 z.kind, .int .i64 z.port, .int .i64 z.line] 49)) = u0 at *
          generalize wr.heap.size = b0 at *
          have HSB : Hid ((fun w' => LG w w' b0 #[.int .i64 z.kind, .int .i64 z.port, .int .i64 z.line] 49) u0.drew) := HLN.out.drew
          refine wp_region_held (S := fun w' => LG w w' b0 #[.int .i64 z.kind, .int .i64 z.port, .int .i64 z.line] 49) (by kernel_rfl) ?_
          change wpAnyH _ _ _ _ _ _ _ _ (World.drew _)
          refine wpAnyH_take (i := 0) (v := .agg #[.int .i64 z.kind, .int .i64 z.port, .int .i64 z.line]) rfl (by kernel_rfl) (by kernel_rfl) (by kernel_rfl) (fun _ _ _ h => h) (Or.inl ⟨by kernel_rfl, fun w9 h9 => ?_⟩) HSB.out ?_
          · have hlg := h9; have k0 := hlg.cel 0 _ rfl; have k1 := hlg.cel 1 _ rfl; have k2 := hlg.cel 2 _ rfl; go_simp
          refine held_one 1 (by kernel_rfl) rfl (by kernel_rfl) fun K hK => ?_
          go_simp
          go_wp2_with (go_at_call 42; refine Calls.mono (HV.out _) ?_; rintro e u1 ⟨rfl, hb1⟩; have HS1 : Hid ((fun w' => LG w w' b0 #[.int .i64 z.kind, .int .i64 z.port, .int .i64 z.line] 49) u1) := HSB.out.step hb1; clear hb1)
          refine hK _ _ HS1.out ?_
          clear hK K
          refine wpAnyH_take (i := 2) (v := .bool true) rfl (by kernel_rfl) (by kernel_rfl) (by kernel_rfl) (fun _ _ _ h => h) (Or.inl ⟨by kernel_rfl, fun w9 h9 => ?_⟩) HS1.out ?_
          · go_simp
          refine wpAnyH_take (i := 3) (v := .bool true) rfl (by kernel_rfl) (by kernel_rfl) (by kernel_rfl) (fun _ _ _ h => h) (Or.inl ⟨by kernel_rfl, fun w9 h9 => ?_⟩) HS1.out ?_
          · go_simp
          refine wpAnyH_take (i := 4) (v := undef) rfl (by kernel_rfl) (by kernel_rfl) (by kernel_rfl) (fun _ _ _ h => h) (Or.inr ⟨by kernel_rfl, rfl⟩) HS1.out ?_
          refine wpAnyH_take (i := 5) (v := undef) rfl (by kernel_rfl) (by kernel_rfl) (by kernel_rfl) (fun _ _ _ h => h) (Or.inr ⟨by kernel_rfl, rfl⟩) HS1.out ?_
          refine wpAnyH_take (i := 6) (v := undef) rfl (by kernel_rfl) (by kernel_rfl) (by kernel_rfl) (fun _ _ _ h => h) (Or.inr ⟨by kernel_rfl, rfl⟩) HS1.out ?_
          refine wpAnyH_take (i := 7) (v := undef) rfl (by kernel_rfl) (by kernel_rfl) (by kernel_rfl) (fun _ _ _ h => h) (Or.inr ⟨by kernel_rfl, rfl⟩) HS1.out ?_
          refine wpAnyH_take (i := 8) (v := undef) rfl (by kernel_rfl) (by kernel_rfl) (by kernel_rfl) (fun _ _ _ h => h) (Or.inr ⟨by kernel_rfl, rfl⟩) HS1.out ?_
          refine wpAnyH_take (i := 9) (v := undef) rfl (by kernel_rfl) (by kernel_rfl) (by kernel_rfl) (fun _ _ _ h => h) (Or.inr ⟨by kernel_rfl, rfl⟩) HS1.out ?_
          refine wpAnyH_take (i := 10) (v := undef) rfl (by kernel_rfl) (by kernel_rfl) (by kernel_rfl) (fun _ _ _ h => h) (Or.inr ⟨by kernel_rfl, rfl⟩) HS1.out ?_
          refine wpAnyH_take (i := 11) (v := undef) rfl (by kernel_rfl) (by kernel_rfl) (by kernel_rfl) (fun _ _ _ h => h) (Or.inr ⟨by kernel_rfl, rfl⟩) HS1.out ?_
          refine wpAnyH_take (i := 12) (v := undef) rfl (by kernel_rfl) (by kernel_rfl) (by kernel_rfl) (fun _ _ _ h => h) (Or.inr ⟨by kernel_rfl, rfl⟩) HS1.out ?_
          refine wpAnyH_take (i := 13) (v := undef) rfl (by kernel_rfl) (by kernel_rfl) (by kernel_rfl) (fun _ _ _ h => h) (Or.inr ⟨by kernel_rfl, rfl⟩) HS1.out ?_
          refine wpAnyH_take (i := 14) (v := undef) rfl (by kernel_rfl) (by kernel_rfl) (by kernel_rfl) (fun _ _ _ h => h) (Or.inr ⟨by kernel_rfl, rfl⟩) HS1.out ?_
          refine wpAnyH_take (i := 15) (v := undef) rfl (by kernel_rfl) (by kernel_rfl) (by kernel_rfl) (fun _ _ _ h => h) (Or.inr ⟨by kernel_rfl, rfl⟩) HS1.out ?_
          refine wpAnyH_take (i := 16) (v := undef) rfl (by kernel_rfl) (by kernel_rfl) (by kernel_rfl) (fun _ _ _ h => h) (Or.inr ⟨by kernel_rfl, rfl⟩) HS1.out ?_
          refine wpAnyH_take (i := 17) (v := .bool true) rfl (by kernel_rfl) (by kernel_rfl) (by kernel_rfl) (fun _ _ _ h => h) (Or.inl ⟨by kernel_rfl, fun w9 h9 => ?_⟩) HS1.out ?_
          · go_simp
          refine wpAnyH_done (by kernel_rfl) ?_ _
          go_simp
          go_wp2
          go_ret
          exact ⟨ret_bool E2.out.symm, HS1.out.bel⟩
        · have E2 : Hid (allD (dvk zs) 1 = true) := (show allD (dvk zs) (0 + 1) = true by rw [HS.out, HALL.out, HEK.out]; rfl)
          go_upto_region 6 with fail
          clear d0 d1 d2
          generalize (wr.alloc (.cells #[.int .i64 z.kind, .int .i64 z.port, .int .i64 z.line] 49)) = u0 at *
          generalize wr.heap.size = b0 at *
          have HSB : Hid ((fun w' => LG w w' b0 #[.int .i64 z.kind, .int .i64 z.port, .int .i64 z.line] 49) u0.drew) := HLN.out.drew
          refine wp_region_held (S := fun w' => LG w w' b0 #[.int .i64 z.kind, .int .i64 z.port, .int .i64 z.line] 49) (by kernel_rfl) ?_
          change wpAnyH _ _ _ _ _ _ _ _ (World.drew _)
          refine wpAnyH_take (i := 0) (v := .agg #[.int .i64 z.kind, .int .i64 z.port, .int .i64 z.line]) rfl (by kernel_rfl) (by kernel_rfl) (by kernel_rfl) (fun _ _ _ h => h) (Or.inl ⟨by kernel_rfl, fun w9 h9 => ?_⟩) HSB.out ?_
          · have hlg := h9; have k0 := hlg.cel 0 _ rfl; have k1 := hlg.cel 1 _ rfl; have k2 := hlg.cel 2 _ rfl; go_simp
          refine held_one 1 (by kernel_rfl) rfl (by kernel_rfl) fun K hK => ?_
          go_simp
          go_wp2_with (go_at_call 42; refine Calls.mono (HV.out _) ?_; rintro e u1 ⟨rfl, hb1⟩; have HS1 : Hid ((fun w' => LG w w' b0 #[.int .i64 z.kind, .int .i64 z.port, .int .i64 z.line] 49) u1) := HSB.out.step hb1; clear hb1)
          refine hK _ _ HS1.out ?_
          clear hK K
          refine wpAnyH_take (i := 2) (v := .bool false) rfl (by kernel_rfl) (by kernel_rfl) (by kernel_rfl) (fun _ _ _ h => h) (Or.inl ⟨by kernel_rfl, fun w9 h9 => ?_⟩) HS1.out ?_
          · go_simp
          refine wpAnyH_take (i := 3) (v := .bool false) rfl (by kernel_rfl) (by kernel_rfl) (by kernel_rfl) (fun _ _ _ h => h) (Or.inl ⟨by kernel_rfl, fun w9 h9 => ?_⟩) HS1.out ?_
          · go_simp
          refine wpAnyH_take (i := 4) (v := .int .i64 ((0 : Nat) : Int)) rfl (by kernel_rfl) (by kernel_rfl) (by kernel_rfl) (fun _ _ _ h => h) (Or.inl ⟨by kernel_rfl, fun w9 h9 => ?_⟩) HS1.out ?_
          · go_simp
          refine wpAnyH_take (i := 5) (v := .bool false) rfl (by kernel_rfl) (by kernel_rfl) (by kernel_rfl) (fun _ _ _ h => h) (Or.inl ⟨by kernel_rfl, fun w9 h9 => ?_⟩) HS1.out ?_
          · go_simp; all_goals omega
          refine wpAnyH_take (i := 6) (v := .bool false) rfl (by kernel_rfl) (by kernel_rfl) (by kernel_rfl) (fun _ _ _ h => h) (Or.inl ⟨by kernel_rfl, fun w9 h9 => ?_⟩) HS1.out ?_
          · go_simp
          refine wpAnyH_take (i := 7) (v := undef) rfl (by kernel_rfl) (by kernel_rfl) (by kernel_rfl) (fun _ _ _ h => h) (Or.inr ⟨by kernel_rfl, rfl⟩) HS1.out ?_
          refine wpAnyH_take (i := 8) (v := undef) rfl (by kernel_rfl) (by kernel_rfl) (by kernel_rfl) (fun _ _ _ h => h) (Or.inr ⟨by kernel_rfl, rfl⟩) HS1.out ?_
          refine wpAnyH_take (i := 9) (v := undef) rfl (by kernel_rfl) (by kernel_rfl) (by kernel_rfl) (fun _ _ _ h => h) (Or.inr ⟨by kernel_rfl, rfl⟩) HS1.out ?_
          refine wpAnyH_take (i := 10) (v := undef) rfl (by kernel_rfl) (by kernel_rfl) (by kernel_rfl) (fun _ _ _ h => h) (Or.inr ⟨by kernel_rfl, rfl⟩) HS1.out ?_
          refine wpAnyH_take (i := 11) (v := undef) rfl (by kernel_rfl) (by kernel_rfl) (by kernel_rfl) (fun _ _ _ h => h) (Or.inr ⟨by kernel_rfl, rfl⟩) HS1.out ?_
          refine wpAnyH_take (i := 12) (v := undef) rfl (by kernel_rfl) (by kernel_rfl) (by kernel_rfl) (fun _ _ _ h => h) (Or.inr ⟨by kernel_rfl, rfl⟩) HS1.out ?_
          refine wpAnyH_take (i := 13) (v := undef) rfl (by kernel_rfl) (by kernel_rfl) (by kernel_rfl) (fun _ _ _ h => h) (Or.inr ⟨by kernel_rfl, rfl⟩) HS1.out ?_
          refine wpAnyH_take (i := 14) (v := undef) rfl (by kernel_rfl) (by kernel_rfl) (by kernel_rfl) (fun _ _ _ h => h) (Or.inr ⟨by kernel_rfl, rfl⟩) HS1.out ?_
          refine wpAnyH_take (i := 15) (v := undef) rfl (by kernel_rfl) (by kernel_rfl) (by kernel_rfl) (fun _ _ _ h => h) (Or.inr ⟨by kernel_rfl, rfl⟩) HS1.out ?_
          refine wpAnyH_take (i := 16) (v := .bool false) rfl (by kernel_rfl) (by kernel_rfl) (by kernel_rfl) (fun _ _ _ h => h) (Or.inl ⟨by kernel_rfl, fun w9 h9 => ?_⟩) HS1.out ?_
          · go_simp
          refine wpAnyH_take (i := 17) (v := .bool false) rfl (by kernel_rfl) (by kernel_rfl) (by kernel_rfl) (fun _ _ _ h => h) (Or.inl ⟨by kernel_rfl, fun w9 h9 => ?_⟩) HS1.out ?_
          · go_simp
          refine wpAnyH_done (by kernel_rfl) ?_ _
          go_simp
          go_wp2
          exact ⟨⟨1, hlt, by go_num, E2.out, HS1.out.bel⟩, by simp [intOf]; omega⟩
      | j + 1, hlt, hk, hk0, hk1, HALL, HS, HBAD =>
        obtain ⟨d0, d1, d2⟩ := hc.below HB.out hg (j + 1) hlt
        obtain ⟨_, y0, _⟩ := hc.below HB.out hg j (by omega)
        have HEK : Hid (dvk zs (j + 1) = (dvB zs[j + 1] && decide (zs[j].port < zs[j + 1].port))) := dvk_s hlt
        generalize zs[j] = y at *
        have hj1 : ((j + 1 : Nat) : Int) - 1 = (j : Int) := by omega
        have hj2 : (j : Int) < (zs.length : Int) := by omega
        have hj3 : (0 : Int) ≤ (j : Int) := by omega
        have hj4 : decide ((0 : Int) < ((j + 1 : Nat) : Int)) = true := decide_eq_true (by omega)
        have hj5 : IntKind.i64.wrap (j : Int) = (j : Int) := by rw [IntKind.wrap_i64]; omega
        generalize zs[(j + 1)] = z at *
        have HLN : Hid (LG w (wr.alloc (.cells #[.int .i64 z.kind, .int .i64 z.port, .int .i64 z.line] 49)) wr.heap.size #[.int .i64 z.kind, .int .i64 z.port, .int .i64 z.line] 49) := ⟨HB.out.trans ((bx1 wr _).mono HB.out.size), heap_new _ _, HB.out.size⟩
        have HV : Hid (∀ u, Calls Try.prog 42 #[.agg #[.int .i64 z.kind, .int .i64 z.port, .int .i64 z.line]] u fun e w' => e = .returned (.bool (dvB z)) ∧ Below u.heap.size u w') := fun u => dvRight_any z u
        generalize dvB z = V at *
        clear hc
        cases V
        · have E2 : Hid (dsB zs = false) := HBAD.out (HEK.out.trans (by simp))
          go_upto_region 6 with fail
          have y1 : (wr.alloc (.cells #[.int .i64 z.kind, .int .i64 z.port, .int .i64 z.line] 49)).cell? ⟨g, o + j * 3 + 1, none⟩ = _ := ((bx1 wr (.cells #[.int .i64 z.kind, .int .i64 z.port, .int .i64 z.line] 49)).cell (p := ⟨g, o + j * 3 + 1, none⟩) hgw).trans y0
          have gl : g < (wr.alloc (.cells #[.int .i64 z.kind, .int .i64 z.port, .int .i64 z.line] 49)).heap.size := Nat.lt_of_lt_of_le hgw (bx1 wr (.cells #[.int .i64 z.kind, .int .i64 z.port, .int .i64 z.line] 49)).size
          clear d0 d1 d2
          clear y0
          generalize (wr.alloc (.cells #[.int .i64 z.kind, .int .i64 z.port, .int .i64 z.line] 49)) = u0 at *
          generalize wr.heap.size = b0 at *
          have HSB : Hid ((fun w' => (LG w w' b0 #[.int .i64 z.kind, .int .i64 z.port, .int .i64 z.line] 49) ∧ w'.cell? ⟨g, o + j * 3 + 1, none⟩ = some (.int .i64 y.port) ∧ g < w'.heap.size) u0.drew) := ⟨HLN.out.drew, y1, gl⟩
          refine wp_region_held (S := fun w' => (LG w w' b0 #[.int .i64 z.kind, .int .i64 z.port, .int .i64 z.line] 49) ∧ w'.cell? ⟨g, o + j * 3 + 1, none⟩ = some (.int .i64 y.port) ∧ g < w'.heap.size) (by kernel_rfl) ?_
          change wpAnyH _ _ _ _ _ _ _ _ (World.drew _)
          refine wpAnyH_take (i := 0) (v := .agg #[.int .i64 z.kind, .int .i64 z.port, .int .i64 z.line]) rfl (by kernel_rfl) (by kernel_rfl) (by kernel_rfl) (fun _ _ _ h => h) (Or.inl ⟨by kernel_rfl, fun w9 h9 => ?_⟩) HSB.out ?_
          · obtain ⟨hlg, y2, _⟩ := h9; have k0 := hlg.cel 0 _ rfl; have k1 := hlg.cel 1 _ rfl; have k2 := hlg.cel 2 _ rfl; go_simp
          refine held_one 1 (by kernel_rfl) rfl (by kernel_rfl) fun K hK => ?_
          go_simp
          go_wp2_with (go_at_call 42; refine Calls.mono (HV.out _) ?_; rintro e u1 ⟨rfl, hb1⟩; have HS1 : Hid ((fun w' => (LG w w' b0 #[.int .i64 z.kind, .int .i64 z.port, .int .i64 z.line] 49) ∧ w'.cell? ⟨g, o + j * 3 + 1, none⟩ = some (.int .i64 y.port) ∧ g < w'.heap.size) u1) := ⟨HSB.out.1.step hb1, (hb1.cell (p := ⟨g, o + j * 3 + 1, none⟩) HSB.out.2.2).trans HSB.out.2.1, Nat.lt_of_lt_of_le HSB.out.2.2 hb1.size⟩; clear hb1)
          refine hK _ _ HS1.out ?_
          clear hK K
          refine wpAnyH_take (i := 2) (v := .bool true) rfl (by kernel_rfl) (by kernel_rfl) (by kernel_rfl) (fun _ _ _ h => h) (Or.inl ⟨by kernel_rfl, fun w9 h9 => ?_⟩) HS1.out ?_
          · go_simp
          refine wpAnyH_take (i := 3) (v := .bool true) rfl (by kernel_rfl) (by kernel_rfl) (by kernel_rfl) (fun _ _ _ h => h) (Or.inl ⟨by kernel_rfl, fun w9 h9 => ?_⟩) HS1.out ?_
          · go_simp
          refine wpAnyH_take (i := 4) (v := undef) rfl (by kernel_rfl) (by kernel_rfl) (by kernel_rfl) (fun _ _ _ h => h) (Or.inr ⟨by kernel_rfl, rfl⟩) HS1.out ?_
          refine wpAnyH_take (i := 5) (v := undef) rfl (by kernel_rfl) (by kernel_rfl) (by kernel_rfl) (fun _ _ _ h => h) (Or.inr ⟨by kernel_rfl, rfl⟩) HS1.out ?_
          refine wpAnyH_take (i := 6) (v := undef) rfl (by kernel_rfl) (by kernel_rfl) (by kernel_rfl) (fun _ _ _ h => h) (Or.inr ⟨by kernel_rfl, rfl⟩) HS1.out ?_
          refine wpAnyH_take (i := 7) (v := undef) rfl (by kernel_rfl) (by kernel_rfl) (by kernel_rfl) (fun _ _ _ h => h) (Or.inr ⟨by kernel_rfl, rfl⟩) HS1.out ?_
          refine wpAnyH_take (i := 8) (v := undef) rfl (by kernel_rfl) (by kernel_rfl) (by kernel_rfl) (fun _ _ _ h => h) (Or.inr ⟨by kernel_rfl, rfl⟩) HS1.out ?_
          refine wpAnyH_take (i := 9) (v := undef) rfl (by kernel_rfl) (by kernel_rfl) (by kernel_rfl) (fun _ _ _ h => h) (Or.inr ⟨by kernel_rfl, rfl⟩) HS1.out ?_
          refine wpAnyH_take (i := 10) (v := undef) rfl (by kernel_rfl) (by kernel_rfl) (by kernel_rfl) (fun _ _ _ h => h) (Or.inr ⟨by kernel_rfl, rfl⟩) HS1.out ?_
          refine wpAnyH_take (i := 11) (v := undef) rfl (by kernel_rfl) (by kernel_rfl) (by kernel_rfl) (fun _ _ _ h => h) (Or.inr ⟨by kernel_rfl, rfl⟩) HS1.out ?_
          refine wpAnyH_take (i := 12) (v := undef) rfl (by kernel_rfl) (by kernel_rfl) (by kernel_rfl) (fun _ _ _ h => h) (Or.inr ⟨by kernel_rfl, rfl⟩) HS1.out ?_
          refine wpAnyH_take (i := 13) (v := undef) rfl (by kernel_rfl) (by kernel_rfl) (by kernel_rfl) (fun _ _ _ h => h) (Or.inr ⟨by kernel_rfl, rfl⟩) HS1.out ?_
          refine wpAnyH_take (i := 14) (v := undef) rfl (by kernel_rfl) (by kernel_rfl) (by kernel_rfl) (fun _ _ _ h => h) (Or.inr ⟨by kernel_rfl, rfl⟩) HS1.out ?_
          refine wpAnyH_take (i := 15) (v := undef) rfl (by kernel_rfl) (by kernel_rfl) (by kernel_rfl) (fun _ _ _ h => h) (Or.inr ⟨by kernel_rfl, rfl⟩) HS1.out ?_
          refine wpAnyH_take (i := 16) (v := undef) rfl (by kernel_rfl) (by kernel_rfl) (by kernel_rfl) (fun _ _ _ h => h) (Or.inr ⟨by kernel_rfl, rfl⟩) HS1.out ?_
          refine wpAnyH_take (i := 17) (v := .bool true) rfl (by kernel_rfl) (by kernel_rfl) (by kernel_rfl) (fun _ _ _ h => h) (Or.inl ⟨by kernel_rfl, fun w9 h9 => ?_⟩) HS1.out ?_
          · go_simp
          refine wpAnyH_done (by kernel_rfl) ?_ _
          go_simp
          go_wp2
          go_ret
          exact ⟨ret_bool E2.out.symm, HS1.out.1.bel⟩
        · cases hy : decide (z.port ≤ y.port)
          · have E2 : Hid (allD (dvk zs) (j + 1 + 1) = true) := (show allD (dvk zs) (j + 1 + 1) = true by rw [HS.out, HALL.out, HEK.out]; have := of_decide_eq_false hy; simp; omega)
            go_upto_region 6 with fail
            have y1 : (wr.alloc (.cells #[.int .i64 z.kind, .int .i64 z.port, .int .i64 z.line] 49)).cell? ⟨g, o + j * 3 + 1, none⟩ = _ := ((bx1 wr (.cells #[.int .i64 z.kind, .int .i64 z.port, .int .i64 z.line] 49)).cell (p := ⟨g, o + j * 3 + 1, none⟩) hgw).trans y0
            have gl : g < (wr.alloc (.cells #[.int .i64 z.kind, .int .i64 z.port, .int .i64 z.line] 49)).heap.size := Nat.lt_of_lt_of_le hgw (bx1 wr (.cells #[.int .i64 z.kind, .int .i64 z.port, .int .i64 z.line] 49)).size
            clear d0 d1 d2
            clear y0
            generalize (wr.alloc (.cells #[.int .i64 z.kind, .int .i64 z.port, .int .i64 z.line] 49)) = u0 at *
            generalize wr.heap.size = b0 at *
            have HSB : Hid ((fun w' => (LG w w' b0 #[.int .i64 z.kind, .int .i64 z.port, .int .i64 z.line] 49) ∧ w'.cell? ⟨g, o + j * 3 + 1, none⟩ = some (.int .i64 y.port) ∧ g < w'.heap.size) u0.drew) := ⟨HLN.out.drew, y1, gl⟩
            refine wp_region_held (S := fun w' => (LG w w' b0 #[.int .i64 z.kind, .int .i64 z.port, .int .i64 z.line] 49) ∧ w'.cell? ⟨g, o + j * 3 + 1, none⟩ = some (.int .i64 y.port) ∧ g < w'.heap.size) (by kernel_rfl) ?_
            change wpAnyH _ _ _ _ _ _ _ _ (World.drew _)
            refine wpAnyH_take (i := 0) (v := .agg #[.int .i64 z.kind, .int .i64 z.port, .int .i64 z.line]) rfl (by kernel_rfl) (by kernel_rfl) (by kernel_rfl) (fun _ _ _ h => h) (Or.inl ⟨by kernel_rfl, fun w9 h9 => ?_⟩) HSB.out ?_
            · obtain ⟨hlg, y2, _⟩ := h9; have k0 := hlg.cel 0 _ rfl; have k1 := hlg.cel 1 _ rfl; have k2 := hlg.cel 2 _ rfl; go_simp
            refine held_one 1 (by kernel_rfl) rfl (by kernel_rfl) fun K hK => ?_
            go_simp
            go_wp2_with (go_at_call 42; refine Calls.mono (HV.out _) ?_; rintro e u1 ⟨rfl, hb1⟩; have HS1 : Hid ((fun w' => (LG w w' b0 #[.int .i64 z.kind, .int .i64 z.port, .int .i64 z.line] 49) ∧ w'.cell? ⟨g, o + j * 3 + 1, none⟩ = some (.int .i64 y.port) ∧ g < w'.heap.size) u1) := ⟨HSB.out.1.step hb1, (hb1.cell (p := ⟨g, o + j * 3 + 1, none⟩) HSB.out.2.2).trans HSB.out.2.1, Nat.lt_of_lt_of_le HSB.out.2.2 hb1.size⟩; clear hb1)
            refine hK _ _ HS1.out ?_
            clear hK K
            refine wpAnyH_take (i := 2) (v := .bool false) rfl (by kernel_rfl) (by kernel_rfl) (by kernel_rfl) (fun _ _ _ h => h) (Or.inl ⟨by kernel_rfl, fun w9 h9 => ?_⟩) HS1.out ?_
            · go_simp
            refine wpAnyH_take (i := 3) (v := .bool false) rfl (by kernel_rfl) (by kernel_rfl) (by kernel_rfl) (fun _ _ _ h => h) (Or.inl ⟨by kernel_rfl, fun w9 h9 => ?_⟩) HS1.out ?_
            · go_simp
            refine wpAnyH_take (i := 4) (v := .int .i64 ((j + 1 : Nat) : Int)) rfl (by kernel_rfl) (by kernel_rfl) (by kernel_rfl) (fun _ _ _ h => h) (Or.inl ⟨by kernel_rfl, fun w9 h9 => ?_⟩) HS1.out ?_
            · go_simp
            refine wpAnyH_take (i := 5) (v := .bool true) rfl (by kernel_rfl) (by kernel_rfl) (by kernel_rfl) (fun _ _ _ h => h) (Or.inl ⟨by kernel_rfl, fun w9 h9 => ?_⟩) HS1.out ?_
            · go_simp; all_goals omega
            refine wpAnyH_take (i := 6) (v := .bool true) rfl (by kernel_rfl) (by kernel_rfl) (by kernel_rfl) (fun _ _ _ h => h) (Or.inl ⟨by kernel_rfl, fun w9 h9 => ?_⟩) HS1.out ?_
            · go_simp
            refine wpAnyH_take (i := 7) (v := .pointer (some ⟨b0, 1, none⟩)) rfl (by kernel_rfl) (by kernel_rfl) (by kernel_rfl) (fun _ _ _ h => h) (Or.inl ⟨by kernel_rfl, fun w9 h9 => ?_⟩) HS1.out ?_
            · go_simp
            refine wpAnyH_take (i := 8) (v := .int .i64 z.port) rfl (by kernel_rfl) (by kernel_rfl) (by kernel_rfl) (fun _ _ _ h => h) (Or.inl ⟨by kernel_rfl, fun w9 h9 => ?_⟩) HS1.out ?_
            · obtain ⟨hlg, y2, _⟩ := h9; have k0 := hlg.cel 0 _ rfl; have k1 := hlg.cel 1 _ rfl; have k2 := hlg.cel 2 _ rfl; go_simp
            refine wpAnyH_take (i := 9) (v := .slice (some ⟨g, o, none⟩) zs.length cap) rfl (by kernel_rfl) (by kernel_rfl) (by kernel_rfl) (fun _ _ _ h => h) (Or.inl ⟨by kernel_rfl, fun w9 h9 => ?_⟩) HS1.out ?_
            · go_simp
            refine wpAnyH_take (i := 10) (v := .int .i64 ((j + 1 : Nat) : Int)) rfl (by kernel_rfl) (by kernel_rfl) (by kernel_rfl) (fun _ _ _ h => h) (Or.inl ⟨by kernel_rfl, fun w9 h9 => ?_⟩) HS1.out ?_
            · go_simp
            refine wpAnyH_take (i := 11) (v := .int .i64 (j : Int)) rfl (by kernel_rfl) (by kernel_rfl) (by kernel_rfl) (fun _ _ _ h => h) (Or.inl ⟨by kernel_rfl, fun w9 h9 => ?_⟩) HS1.out ?_
            · go_simp
            refine wpAnyH_take (i := 12) (v := .pointer (some ⟨g, o + j * 3, none⟩)) rfl (by kernel_rfl) (by kernel_rfl) (by kernel_rfl) (fun _ _ _ h => h) (Or.inl ⟨by kernel_rfl, fun w9 h9 => ?_⟩) HS1.out ?_
            · go_simp
            refine wpAnyH_take (i := 13) (v := .pointer (some ⟨g, o + j * 3 + 1, none⟩)) rfl (by kernel_rfl) (by kernel_rfl) (by kernel_rfl) (fun _ _ _ h => h) (Or.inl ⟨by kernel_rfl, fun w9 h9 => ?_⟩) HS1.out ?_
            · go_simp
            refine wpAnyH_take (i := 14) (v := .int .i64 y.port) rfl (by kernel_rfl) (by kernel_rfl) (by kernel_rfl) (fun _ _ _ h => h) (Or.inl ⟨by kernel_rfl, fun w9 h9 => ?_⟩) HS1.out ?_
            · obtain ⟨hlg, y2, _⟩ := h9; have k0 := hlg.cel 0 _ rfl; have k1 := hlg.cel 1 _ rfl; have k2 := hlg.cel 2 _ rfl; go_simp
            refine wpAnyH_take (i := 15) (v := .bool false) rfl (by kernel_rfl) (by kernel_rfl) (by kernel_rfl) (fun _ _ _ h => h) (Or.inl ⟨by kernel_rfl, fun w9 h9 => ?_⟩) HS1.out ?_
            · go_simp; all_goals omega
            refine wpAnyH_take (i := 16) (v := .bool false) rfl (by kernel_rfl) (by kernel_rfl) (by kernel_rfl) (fun _ _ _ h => h) (Or.inl ⟨by kernel_rfl, fun w9 h9 => ?_⟩) HS1.out ?_
            · go_simp
            refine wpAnyH_take (i := 17) (v := .bool false) rfl (by kernel_rfl) (by kernel_rfl) (by kernel_rfl) (fun _ _ _ h => h) (Or.inl ⟨by kernel_rfl, fun w9 h9 => ?_⟩) HS1.out ?_
            · go_simp
            refine wpAnyH_done (by kernel_rfl) ?_ _
            go_simp
            go_wp2
            exact ⟨⟨j + 1 + 1, hlt, by go_num, E2.out, HS1.out.1.bel⟩, by simp [intOf]; omega⟩
          · have E2 : Hid (dsB zs = false) := HBAD.out (HEK.out.trans (by have := of_decide_eq_true hy; simp; omega))
            go_upto_region 6 with fail
            have y1 : (wr.alloc (.cells #[.int .i64 z.kind, .int .i64 z.port, .int .i64 z.line] 49)).cell? ⟨g, o + j * 3 + 1, none⟩ = _ := ((bx1 wr (.cells #[.int .i64 z.kind, .int .i64 z.port, .int .i64 z.line] 49)).cell (p := ⟨g, o + j * 3 + 1, none⟩) hgw).trans y0
            have gl : g < (wr.alloc (.cells #[.int .i64 z.kind, .int .i64 z.port, .int .i64 z.line] 49)).heap.size := Nat.lt_of_lt_of_le hgw (bx1 wr (.cells #[.int .i64 z.kind, .int .i64 z.port, .int .i64 z.line] 49)).size
            clear d0 d1 d2
            clear y0
            generalize (wr.alloc (.cells #[.int .i64 z.kind, .int .i64 z.port, .int .i64 z.line] 49)) = u0 at *
            generalize wr.heap.size = b0 at *
            have HSB : Hid ((fun w' => (LG w w' b0 #[.int .i64 z.kind, .int .i64 z.port, .int .i64 z.line] 49) ∧ w'.cell? ⟨g, o + j * 3 + 1, none⟩ = some (.int .i64 y.port) ∧ g < w'.heap.size) u0.drew) := ⟨HLN.out.drew, y1, gl⟩
            refine wp_region_held (S := fun w' => (LG w w' b0 #[.int .i64 z.kind, .int .i64 z.port, .int .i64 z.line] 49) ∧ w'.cell? ⟨g, o + j * 3 + 1, none⟩ = some (.int .i64 y.port) ∧ g < w'.heap.size) (by kernel_rfl) ?_
            change wpAnyH _ _ _ _ _ _ _ _ (World.drew _)
            refine wpAnyH_take (i := 0) (v := .agg #[.int .i64 z.kind, .int .i64 z.port, .int .i64 z.line]) rfl (by kernel_rfl) (by kernel_rfl) (by kernel_rfl) (fun _ _ _ h => h) (Or.inl ⟨by kernel_rfl, fun w9 h9 => ?_⟩) HSB.out ?_
            · obtain ⟨hlg, y2, _⟩ := h9; have k0 := hlg.cel 0 _ rfl; have k1 := hlg.cel 1 _ rfl; have k2 := hlg.cel 2 _ rfl; go_simp
            refine held_one 1 (by kernel_rfl) rfl (by kernel_rfl) fun K hK => ?_
            go_simp
            go_wp2_with (go_at_call 42; refine Calls.mono (HV.out _) ?_; rintro e u1 ⟨rfl, hb1⟩; have HS1 : Hid ((fun w' => (LG w w' b0 #[.int .i64 z.kind, .int .i64 z.port, .int .i64 z.line] 49) ∧ w'.cell? ⟨g, o + j * 3 + 1, none⟩ = some (.int .i64 y.port) ∧ g < w'.heap.size) u1) := ⟨HSB.out.1.step hb1, (hb1.cell (p := ⟨g, o + j * 3 + 1, none⟩) HSB.out.2.2).trans HSB.out.2.1, Nat.lt_of_lt_of_le HSB.out.2.2 hb1.size⟩; clear hb1)
            refine hK _ _ HS1.out ?_
            clear hK K
            refine wpAnyH_take (i := 2) (v := .bool false) rfl (by kernel_rfl) (by kernel_rfl) (by kernel_rfl) (fun _ _ _ h => h) (Or.inl ⟨by kernel_rfl, fun w9 h9 => ?_⟩) HS1.out ?_
            · go_simp
            refine wpAnyH_take (i := 3) (v := .bool false) rfl (by kernel_rfl) (by kernel_rfl) (by kernel_rfl) (fun _ _ _ h => h) (Or.inl ⟨by kernel_rfl, fun w9 h9 => ?_⟩) HS1.out ?_
            · go_simp
            refine wpAnyH_take (i := 4) (v := .int .i64 ((j + 1 : Nat) : Int)) rfl (by kernel_rfl) (by kernel_rfl) (by kernel_rfl) (fun _ _ _ h => h) (Or.inl ⟨by kernel_rfl, fun w9 h9 => ?_⟩) HS1.out ?_
            · go_simp
            refine wpAnyH_take (i := 5) (v := .bool true) rfl (by kernel_rfl) (by kernel_rfl) (by kernel_rfl) (fun _ _ _ h => h) (Or.inl ⟨by kernel_rfl, fun w9 h9 => ?_⟩) HS1.out ?_
            · go_simp; all_goals omega
            refine wpAnyH_take (i := 6) (v := .bool true) rfl (by kernel_rfl) (by kernel_rfl) (by kernel_rfl) (fun _ _ _ h => h) (Or.inl ⟨by kernel_rfl, fun w9 h9 => ?_⟩) HS1.out ?_
            · go_simp
            refine wpAnyH_take (i := 7) (v := .pointer (some ⟨b0, 1, none⟩)) rfl (by kernel_rfl) (by kernel_rfl) (by kernel_rfl) (fun _ _ _ h => h) (Or.inl ⟨by kernel_rfl, fun w9 h9 => ?_⟩) HS1.out ?_
            · go_simp
            refine wpAnyH_take (i := 8) (v := .int .i64 z.port) rfl (by kernel_rfl) (by kernel_rfl) (by kernel_rfl) (fun _ _ _ h => h) (Or.inl ⟨by kernel_rfl, fun w9 h9 => ?_⟩) HS1.out ?_
            · obtain ⟨hlg, y2, _⟩ := h9; have k0 := hlg.cel 0 _ rfl; have k1 := hlg.cel 1 _ rfl; have k2 := hlg.cel 2 _ rfl; go_simp
            refine wpAnyH_take (i := 9) (v := .slice (some ⟨g, o, none⟩) zs.length cap) rfl (by kernel_rfl) (by kernel_rfl) (by kernel_rfl) (fun _ _ _ h => h) (Or.inl ⟨by kernel_rfl, fun w9 h9 => ?_⟩) HS1.out ?_
            · go_simp
            refine wpAnyH_take (i := 10) (v := .int .i64 ((j + 1 : Nat) : Int)) rfl (by kernel_rfl) (by kernel_rfl) (by kernel_rfl) (fun _ _ _ h => h) (Or.inl ⟨by kernel_rfl, fun w9 h9 => ?_⟩) HS1.out ?_
            · go_simp
            refine wpAnyH_take (i := 11) (v := .int .i64 (j : Int)) rfl (by kernel_rfl) (by kernel_rfl) (by kernel_rfl) (fun _ _ _ h => h) (Or.inl ⟨by kernel_rfl, fun w9 h9 => ?_⟩) HS1.out ?_
            · go_simp
            refine wpAnyH_take (i := 12) (v := .pointer (some ⟨g, o + j * 3, none⟩)) rfl (by kernel_rfl) (by kernel_rfl) (by kernel_rfl) (fun _ _ _ h => h) (Or.inl ⟨by kernel_rfl, fun w9 h9 => ?_⟩) HS1.out ?_
            · go_simp
            refine wpAnyH_take (i := 13) (v := .pointer (some ⟨g, o + j * 3 + 1, none⟩)) rfl (by kernel_rfl) (by kernel_rfl) (by kernel_rfl) (fun _ _ _ h => h) (Or.inl ⟨by kernel_rfl, fun w9 h9 => ?_⟩) HS1.out ?_
            · go_simp
            refine wpAnyH_take (i := 14) (v := .int .i64 y.port) rfl (by kernel_rfl) (by kernel_rfl) (by kernel_rfl) (fun _ _ _ h => h) (Or.inl ⟨by kernel_rfl, fun w9 h9 => ?_⟩) HS1.out ?_
            · obtain ⟨hlg, y2, _⟩ := h9; have k0 := hlg.cel 0 _ rfl; have k1 := hlg.cel 1 _ rfl; have k2 := hlg.cel 2 _ rfl; go_simp
            refine wpAnyH_take (i := 15) (v := .bool true) rfl (by kernel_rfl) (by kernel_rfl) (by kernel_rfl) (fun _ _ _ h => h) (Or.inl ⟨by kernel_rfl, fun w9 h9 => ?_⟩) HS1.out ?_
            · go_simp; all_goals omega
            refine wpAnyH_take (i := 16) (v := .bool true) rfl (by kernel_rfl) (by kernel_rfl) (by kernel_rfl) (fun _ _ _ h => h) (Or.inl ⟨by kernel_rfl, fun w9 h9 => ?_⟩) HS1.out ?_
            · go_simp
            refine wpAnyH_take (i := 17) (v := .bool true) rfl (by kernel_rfl) (by kernel_rfl) (by kernel_rfl) (fun _ _ _ h => h) (Or.inl ⟨by kernel_rfl, fun w9 h9 => ?_⟩) HS1.out ?_
            · go_simp
            refine wpAnyH_done (by kernel_rfl) ?_ _
            go_simp
            go_wp2
            go_ret
            exact ⟨ret_bool E2.out.symm, HS1.out.1.bel⟩
    · have hks : k = zs.length := by omega
      subst hks
      have hnl : ¬ ((zs.length : Nat) : Int) < (zs.length : Int) := by omega
      have E2 : Hid (dsB zs = true) := (show dsB zs = true by rw [E.out, HALL.out])
      go_wp2
      go_ret
      exact ⟨ret_bool E2.out.symm, HB.out⟩
set_option maxRecDepth 100000 in
set_option maxHeartbeats 4000000 in
theorem implBF_any {w : World} {f c : Int} {ao : Option Addr} {cap : Nat} {zs : List DV} (h : DVrow w (.slice ao zs.length cap) zs) : Calls Try.prog 9 #[.agg #[.int .i64 f, .int .i64 c, .slice ao zs.length cap]] w fun e w' => e = .returned (.int .i64 (bfV f c zs)) ∧ Below w.heap.size w w' := by
  have HA : Hid (∀ u, Aft w u → Calls Try.prog 26 #[.slice ao zs.length cap] u fun e w' => e = .returned (.bool (dsB zs)) ∧ Below u.heap.size u w') := fun u hu => areDevices_any (h.below hu.out)
  have HL0 : Hid (LG w (w.alloc (.cells #[.int .i64 f, .int .i64 c, .slice ao zs.length cap] 29)) w.heap.size #[.int .i64 f, .int .i64 c, .slice ao zs.length cap] 29) := LG.new w _ _
  have E : Hid (bfV f c zs = if (decide (2 ≤ f) && decide (f ≤ 256) && decide (1 ≤ c) && decide (c ≤ 8) && dsB zs) = true then 0 else 1) := rfl
  generalize bfV f c zs = V at *
  generalize dsB zs = D at *
  clear h
  cases q0 : decide (f < 2)
  · skip
    cases q1 : decide (256 < f)
    · skip
      cases q2 : decide (c < 1)
      · skip
        cases q3 : decide (8 < c)
        · skip
          cases D
          · skip
            have E2 : Hid (V = 1) := (show V = 1 by rw [E.out]; (try simp only [decide_eq_true_eq] at *); (try simp only [decide_eq_false_iff_not] at *); simp [*]; try omega)
            clear E
            go_enter Try.func9, Try.ntmps9
            go_upto_region 1 with fail
            generalize (w.alloc (.cells #[.int .i64 f, .int .i64 c, .slice ao zs.length cap] 29)) = u0 at *
            generalize w.heap.size = b0 at *
            have k0 := HL0.out.cel 0 _ rfl
            have k1 := HL0.out.cel 1 _ rfl
            have k2 := HL0.out.cel 2 _ rfl
            have kl := HL0.out.lt
            go_wp2_with (go_at_call 26; refine Calls.mono (HA.out _ HL0.out.aft) ?_; rintro e u1 ⟨rfl, hb1⟩; have HL1 : Hid (LG w u1 b0 _ _) := HL0.out.step hb1; clear hb1)
            go_ret
            exact ⟨ret_int E2.out.symm, HL1.out.bel⟩
          · skip
            have E2 : Hid (V = 0) := (show V = 0 by rw [E.out]; (try simp only [decide_eq_true_eq] at *); (try simp only [decide_eq_false_iff_not] at *); simp [*]; try omega)
            clear E
            go_enter Try.func9, Try.ntmps9
            go_upto_region 1 with fail
            generalize (w.alloc (.cells #[.int .i64 f, .int .i64 c, .slice ao zs.length cap] 29)) = u0 at *
            generalize w.heap.size = b0 at *
            have k0 := HL0.out.cel 0 _ rfl
            have k1 := HL0.out.cel 1 _ rfl
            have k2 := HL0.out.cel 2 _ rfl
            have kl := HL0.out.lt
            go_wp2_with (go_at_call 26; refine Calls.mono (HA.out _ HL0.out.aft) ?_; rintro e u1 ⟨rfl, hb1⟩; have HL1 : Hid (LG w u1 b0 _ _) := HL0.out.step hb1; clear hb1)
            go_ret
            exact ⟨ret_int E2.out.symm, HL1.out.bel⟩
        · skip
          have E2 : Hid (V = 1) := (show V = 1 by rw [E.out]; (try simp only [decide_eq_true_eq] at *); (try simp only [decide_eq_false_iff_not] at *); simp [*]; try omega)
          clear E
          go_enter Try.func9, Try.ntmps9
          go_upto_region 1 with fail
          generalize (w.alloc (.cells #[.int .i64 f, .int .i64 c, .slice ao zs.length cap] 29)) = u0 at *
          generalize w.heap.size = b0 at *
          have k0 := HL0.out.cel 0 _ rfl
          have k1 := HL0.out.cel 1 _ rfl
          have k2 := HL0.out.cel 2 _ rfl
          have kl := HL0.out.lt
          go_wp2
          go_ret
          exact ⟨ret_int E2.out.symm, HL0.out.bel⟩
      · skip
        have E2 : Hid (V = 1) := (show V = 1 by rw [E.out]; (try simp only [decide_eq_true_eq] at *); (try simp only [decide_eq_false_iff_not] at *); simp [*]; try omega)
        clear E
        go_enter Try.func9, Try.ntmps9
        go_upto_region 1 with fail
        generalize (w.alloc (.cells #[.int .i64 f, .int .i64 c, .slice ao zs.length cap] 29)) = u0 at *
        generalize w.heap.size = b0 at *
        have k0 := HL0.out.cel 0 _ rfl
        have k1 := HL0.out.cel 1 _ rfl
        have k2 := HL0.out.cel 2 _ rfl
        have kl := HL0.out.lt
        go_wp2
        go_ret
        exact ⟨ret_int E2.out.symm, HL0.out.bel⟩
    · skip
      have E2 : Hid (V = 1) := (show V = 1 by rw [E.out]; (try simp only [decide_eq_true_eq] at *); (try simp only [decide_eq_false_iff_not] at *); simp [*]; try omega)
      clear E
      go_enter Try.func9, Try.ntmps9
      go_upto_region 1 with fail
      generalize (w.alloc (.cells #[.int .i64 f, .int .i64 c, .slice ao zs.length cap] 29)) = u0 at *
      generalize w.heap.size = b0 at *
      have k0 := HL0.out.cel 0 _ rfl
      have k1 := HL0.out.cel 1 _ rfl
      have k2 := HL0.out.cel 2 _ rfl
      have kl := HL0.out.lt
      go_wp2
      go_ret
      exact ⟨ret_int E2.out.symm, HL0.out.bel⟩
  · skip
    have E2 : Hid (V = 1) := (show V = 1 by rw [E.out]; (try simp only [decide_eq_true_eq] at *); (try simp only [decide_eq_false_iff_not] at *); simp [*]; try omega)
    clear E
    go_enter Try.func9, Try.ntmps9
    go_upto_region 1 with fail
    generalize (w.alloc (.cells #[.int .i64 f, .int .i64 c, .slice ao zs.length cap] 29)) = u0 at *
    generalize w.heap.size = b0 at *
    have k0 := HL0.out.cel 0 _ rfl
    have k1 := HL0.out.cel 1 _ rfl
    have k2 := HL0.out.cel 2 _ rfl
    have kl := HL0.out.lt
    go_wp2
    go_ret
    exact ⟨ret_int E2.out.symm, HL0.out.bel⟩
end Go.Proofs.Ytlpkkclmcgnapaa
