import Derived.Test.YtlpkkclmcgnapaaDv1
import Derived.Test.YtlpkkclmcgnapaaHl
import Derived.Deep.CutRange
import Derived.Deep.RegionWith
namespace Go.Proofs.Ytlpkkclmcgnapaa
open Go.ChangeShapes Go.WideShapes Go.ChangeAt Go.RowKit

set_option maxRecDepth 100000 in
set_option maxHeartbeats 4000000 in
theorem specBF_any {w : World} {f c : Int} {ao : Option Addr} {cap : Nat} {zs : List DV} (h : DVrow w (.slice ao zs.length cap) zs) : Calls Try.prog 7 #[.agg #[.int .i64 f, .int .i64 c, .slice ao zs.length cap]] w fun e w' => e = .returned (.int .i64 (bfV f c zs)) ∧ Below w.heap.size w w' := by
  have HL0 : Hid (LG w (w.alloc (.cells #[.int .i64 f, .int .i64 c, .slice ao zs.length cap] 29)) w.heap.size #[.int .i64 f, .int .i64 c, .slice ao zs.length cap] 29) := LG.new w _ _
  have HR : Hid (DVrow w (.slice ao zs.length cap) zs) := h
  clear h
  cases q0 : decide (f < 2)
  · skip
    cases q1 : decide (256 < f)
    · skip
      cases q2 : decide (c < 1)
      · skip
        cases q3 : decide (8 < c)
        · skip
          cases q4 : decide (16 < (zs.length : Int))
          · skip
            have E : Hid (bfV f c zs = if dsB zs = true then 0 else 1) := (show (if (decide (2 ≤ f) && decide (f ≤ 256) && decide (1 ≤ c) && decide (c ≤ 8) && dsB zs) = true then (0 : Int) else 1) = _ by (try simp only [decide_eq_true_eq] at *); (try simp only [decide_eq_false_iff_not] at *); rw [decide_eq_true (show 2 ≤ f by omega), decide_eq_true (show f ≤ 256 by omega), decide_eq_true (show 1 ≤ c by omega), decide_eq_true (show c ≤ 8 by omega)]; simp)
            have r2 : zs.length ≤ 16 := by have := of_decide_eq_false q4; omega
            have E0 : Hid (dsB zs = allD (dvk zs) zs.length) := dsB_short (of_decide_eq_false q4)
            go_enter Try.func7, Try.ntmps7
            go_upto_region 1 with fail
            generalize (w.alloc (.cells #[.int .i64 f, .int .i64 c, .slice ao zs.length cap] 29)) = u0 at *
            have hbg : Hid (w.heap.size ≤ w.heap.size) := Nat.le_refl _
            have k0 := HL0.out.cel 0 _ rfl
            have k1 := HL0.out.cel 1 _ rfl
            have k2 := HL0.out.cel 2 _ rfl
            have kl := HL0.out.lt
            go_wp2
            clear q0 q1 q2 q3 q4 k0 k1 k2 kl
            generalize hbb : w.heap.size = bb at HL0 ⊢
            go_loopw [3] (fun i wr => ∃ k : Nat, k ≤ zs.length ∧ i = .int .i64 k ∧ allD (dvk zs) k = true ∧ LG w wr bb #[.int .i64 f, .int .i64 c, .slice ao zs.length cap] 29) (fun i _ => zs.length - (intOf i).toNat)
            case atStart => exact ⟨0, Nat.zero_le _, rfl, rfl, HL0.out⟩
            case round =>
              obtain ⟨k, hk, rfl, hall, hb⟩ := hrel
              have HX : Hid (LG w wr bb #[.int .i64 f, .int .i64 c, .slice ao zs.length cap] 29) := hb
              have HB : Hid (Below w.heap.size w wr) := hb.bel
              have HALL : Hid (allD (dvk zs) k = true) := hall
              clear hb hall HL0
              have c2 := HX.out.cel 2 _ rfl
              have cl := HX.out.lt
              by_cases hlt : k < zs.length
              · obtain ⟨g, o, cap2, hv, _, hg, hc⟩ := HR.out.resolve_left (fun h => by rw [h.1] at hlt; simp at hlt)
                injection hv with hv1 hv2 hv3
                subst hv1 hv3
                have hgw : g < wr.heap.size := Nat.lt_of_lt_of_le hg HB.out.size
                have hk0 : (0 : Int) ≤ (k : Int) := by omega
                have hk1 : (k : Int) < (zs.length : Int) := by omega
                have HS : Hid (allD (dvk zs) (k + 1) = (allD (dvk zs) k && dvk zs k)) := allD_succ _ _
                have HBAD : Hid (dvk zs k = false → bfV f c zs = 1) := fun hh => by rw [E.out, E0.out, allD_bad hlt hh]; rfl
                match k, hlt, hk, hk0, hk1, HALL, HS, HBAD with
                | 0, hlt, hk, hk0, hk1, HALL, HS, HBAD =>
                  obtain ⟨d0, d1, d2⟩ := hc.below HB.out hg 0 hlt
                  simp only [Nat.zero_mul, Nat.add_zero] at d0 d1 d2
                  have HEK : Hid (dvk zs 0 = dvB zs[0]) := dvk_0 hlt
                  have hj4 : decide ((0 : Int) < ((0 : Nat) : Int)) = false := rfl
                  generalize zs[0] = z at *
                  have HLN : Hid (LG w (wr.alloc (.cells #[.int .i64 z.kind, .int .i64 z.port, .int .i64 z.line] 49)) wr.heap.size #[.int .i64 z.kind, .int .i64 z.port, .int .i64 z.line] 49) := ⟨HB.out.trans ((bx1 wr _).mono HB.out.size), heap_new _ _, HB.out.size⟩
                  clear hc
                  have HE : Hid (dvB z = (decide (1 ≤ z.kind) && decide (z.kind ≤ 255) && decide (0 ≤ z.port) && decide (z.port ≤ 2047) && decide (0 ≤ z.line) && decide (z.line < 7))) := rfl
                  generalize dvB z = V at *
                  have HX2 : Hid (LG w (wr.alloc (.cells #[.int .i64 z.kind, .int .i64 z.port, .int .i64 z.line] 49)) bb #[.int .i64 f, .int .i64 c, .slice (some ⟨g, o, none⟩) zs.length cap] 29) := HX.out.step (bx1 _ _)
                  clear E E0 HR HB
                  cases q0 : decide (z.kind < 1)
                  · skip
                    cases q1 : decide (255 < z.kind)
                    · skip
                      cases q2 : decide (z.port < 0)
                      · skip
                        cases q3 : decide (2047 < z.port)
                        · skip
                          cases q4 : decide (z.line < 0)
                          · skip
                            cases q5 : decide (6 < z.line)
                            · skip
                              have E2 : Hid (allD (dvk zs) (1) = true) := (show allD (dvk zs) (0 + 1) = true by rw [HS.out, HALL.out, HEK.out, HE.out]; have r0 := of_decide_eq_false q0; have r1 := of_decide_eq_false q1; have r2 := of_decide_eq_false q2; have r3 := of_decide_eq_false q3; have r4 := of_decide_eq_false q4; have r5 := of_decide_eq_false q5; simp; try omega)
                              clear HE HEK HBAD HS
                              go_upto_region 7 with fail
                              clear d0 d1 d2 c2 cl HX
                              generalize (wr.alloc (.cells #[.int .i64 z.kind, .int .i64 z.port, .int .i64 z.line] 49)) = u0 at *
                              generalize wr.heap.size = b0 at *
                              have HSB : Hid ((fun w' => (LG w w' b0 #[.int .i64 z.kind, .int .i64 z.port, .int .i64 z.line] 49) ∧ (LG w w' bb #[.int .i64 f, .int .i64 c, .slice (some ⟨g, o, none⟩) zs.length cap] 29)) u0.drew) := ⟨HLN.out.drew, HX2.out.drew⟩
                              refine wp_region_held (S := fun w' => (LG w w' b0 #[.int .i64 z.kind, .int .i64 z.port, .int .i64 z.line] 49) ∧ (LG w w' bb #[.int .i64 f, .int .i64 c, .slice (some ⟨g, o, none⟩) zs.length cap] 29)) (by kernel_rfl) ?_
                              change wpAnyH _ _ _ _ _ _ _ _ (World.drew _)
                              refine wpAnyH_take (i := 0) (v := .pointer (some ⟨b0, 0, none⟩)) rfl (by kernel_rfl) (by kernel_rfl) (by kernel_rfl) (fun _ _ _ h => h) (Or.inl ⟨by kernel_rfl, fun w9 h9 => ?_⟩) HSB.out ?_
                              · go_simp
                              refine wpAnyH_take (i := 1) (v := .int .i64 z.kind) rfl (by kernel_rfl) (by kernel_rfl) (by kernel_rfl) (fun _ _ _ h => h) (Or.inl ⟨by kernel_rfl, fun w9 h9 => ?_⟩) HSB.out ?_
                              · obtain ⟨hlg, hbx⟩ := h9; have k0 := hlg.cel 0 _ rfl; have k1 := hlg.cel 1 _ rfl; have k2 := hlg.cel 2 _ rfl; have x2 := hbx.cel 2 _ rfl; go_simp
                              refine wpAnyH_take (i := 2) (v := .bool false) rfl (by kernel_rfl) (by kernel_rfl) (by kernel_rfl) (fun _ _ _ h => h) (Or.inl ⟨by kernel_rfl, fun w9 h9 => ?_⟩) HSB.out ?_
                              · go_simp; all_goals omega
                              refine wpAnyH_take (i := 3) (v := .bool false) rfl (by kernel_rfl) (by kernel_rfl) (by kernel_rfl) (fun _ _ _ h => h) (Or.inl ⟨by kernel_rfl, fun w9 h9 => ?_⟩) HSB.out ?_
                              · go_simp
                              refine wpAnyH_take (i := 4) (v := .pointer (some ⟨b0, 0, none⟩)) rfl (by kernel_rfl) (by kernel_rfl) (by kernel_rfl) (fun _ _ _ h => h) (Or.inl ⟨by kernel_rfl, fun w9 h9 => ?_⟩) HSB.out ?_
                              · go_simp
                              refine wpAnyH_take (i := 5) (v := .int .i64 z.kind) rfl (by kernel_rfl) (by kernel_rfl) (by kernel_rfl) (fun _ _ _ h => h) (Or.inl ⟨by kernel_rfl, fun w9 h9 => ?_⟩) HSB.out ?_
                              · obtain ⟨hlg, hbx⟩ := h9; have k0 := hlg.cel 0 _ rfl; have k1 := hlg.cel 1 _ rfl; have k2 := hlg.cel 2 _ rfl; have x2 := hbx.cel 2 _ rfl; go_simp
                              refine wpAnyH_take (i := 6) (v := .bool false) rfl (by kernel_rfl) (by kernel_rfl) (by kernel_rfl) (fun _ _ _ h => h) (Or.inl ⟨by kernel_rfl, fun w9 h9 => ?_⟩) HSB.out ?_
                              · go_simp; all_goals omega
                              refine wpAnyH_take (i := 7) (v := .bool false) rfl (by kernel_rfl) (by kernel_rfl) (by kernel_rfl) (fun _ _ _ h => h) (Or.inl ⟨by kernel_rfl, fun w9 h9 => ?_⟩) HSB.out ?_
                              · go_simp
                              refine wpAnyH_take (i := 8) (v := .bool false) rfl (by kernel_rfl) (by kernel_rfl) (by kernel_rfl) (fun _ _ _ h => h) (Or.inl ⟨by kernel_rfl, fun w9 h9 => ?_⟩) HSB.out ?_
                              · go_simp
                              refine wpAnyH_take (i := 9) (v := .pointer (some ⟨b0, 1, none⟩)) rfl (by kernel_rfl) (by kernel_rfl) (by kernel_rfl) (fun _ _ _ h => h) (Or.inl ⟨by kernel_rfl, fun w9 h9 => ?_⟩) HSB.out ?_
                              · go_simp
                              refine wpAnyH_take (i := 10) (v := .int .i64 z.port) rfl (by kernel_rfl) (by kernel_rfl) (by kernel_rfl) (fun _ _ _ h => h) (Or.inl ⟨by kernel_rfl, fun w9 h9 => ?_⟩) HSB.out ?_
                              · obtain ⟨hlg, hbx⟩ := h9; have k0 := hlg.cel 0 _ rfl; have k1 := hlg.cel 1 _ rfl; have k2 := hlg.cel 2 _ rfl; have x2 := hbx.cel 2 _ rfl; go_simp
                              refine wpAnyH_take (i := 11) (v := .bool false) rfl (by kernel_rfl) (by kernel_rfl) (by kernel_rfl) (fun _ _ _ h => h) (Or.inl ⟨by kernel_rfl, fun w9 h9 => ?_⟩) HSB.out ?_
                              · go_simp; all_goals omega
                              refine wpAnyH_take (i := 12) (v := .bool false) rfl (by kernel_rfl) (by kernel_rfl) (by kernel_rfl) (fun _ _ _ h => h) (Or.inl ⟨by kernel_rfl, fun w9 h9 => ?_⟩) HSB.out ?_
                              · go_simp
                              refine wpAnyH_take (i := 13) (v := .bool false) rfl (by kernel_rfl) (by kernel_rfl) (by kernel_rfl) (fun _ _ _ h => h) (Or.inl ⟨by kernel_rfl, fun w9 h9 => ?_⟩) HSB.out ?_
                              · go_simp
                              refine wpAnyH_take (i := 14) (v := .pointer (some ⟨b0, 1, none⟩)) rfl (by kernel_rfl) (by kernel_rfl) (by kernel_rfl) (fun _ _ _ h => h) (Or.inl ⟨by kernel_rfl, fun w9 h9 => ?_⟩) HSB.out ?_
                              · go_simp
                              refine wpAnyH_take (i := 15) (v := .int .i64 z.port) rfl (by kernel_rfl) (by kernel_rfl) (by kernel_rfl) (fun _ _ _ h => h) (Or.inl ⟨by kernel_rfl, fun w9 h9 => ?_⟩) HSB.out ?_
                              · obtain ⟨hlg, hbx⟩ := h9; have k0 := hlg.cel 0 _ rfl; have k1 := hlg.cel 1 _ rfl; have k2 := hlg.cel 2 _ rfl; have x2 := hbx.cel 2 _ rfl; go_simp
                              refine wpAnyH_take (i := 16) (v := .bool false) rfl (by kernel_rfl) (by kernel_rfl) (by kernel_rfl) (fun _ _ _ h => h) (Or.inl ⟨by kernel_rfl, fun w9 h9 => ?_⟩) HSB.out ?_
                              · go_simp; all_goals omega
                              refine wpAnyH_take (i := 17) (v := .bool false) rfl (by kernel_rfl) (by kernel_rfl) (by kernel_rfl) (fun _ _ _ h => h) (Or.inl ⟨by kernel_rfl, fun w9 h9 => ?_⟩) HSB.out ?_
                              · go_simp
                              refine wpAnyH_take (i := 18) (v := .bool false) rfl (by kernel_rfl) (by kernel_rfl) (by kernel_rfl) (fun _ _ _ h => h) (Or.inl ⟨by kernel_rfl, fun w9 h9 => ?_⟩) HSB.out ?_
                              · go_simp
                              refine wpAnyH_take (i := 19) (v := .pointer (some ⟨b0, 2, none⟩)) rfl (by kernel_rfl) (by kernel_rfl) (by kernel_rfl) (fun _ _ _ h => h) (Or.inl ⟨by kernel_rfl, fun w9 h9 => ?_⟩) HSB.out ?_
                              · go_simp
                              refine wpAnyH_take (i := 20) (v := .int .i64 z.line) rfl (by kernel_rfl) (by kernel_rfl) (by kernel_rfl) (fun _ _ _ h => h) (Or.inl ⟨by kernel_rfl, fun w9 h9 => ?_⟩) HSB.out ?_
                              · obtain ⟨hlg, hbx⟩ := h9; have k0 := hlg.cel 0 _ rfl; have k1 := hlg.cel 1 _ rfl; have k2 := hlg.cel 2 _ rfl; have x2 := hbx.cel 2 _ rfl; go_simp
                              refine wpAnyH_take (i := 21) (v := .bool false) rfl (by kernel_rfl) (by kernel_rfl) (by kernel_rfl) (fun _ _ _ h => h) (Or.inl ⟨by kernel_rfl, fun w9 h9 => ?_⟩) HSB.out ?_
                              · go_simp; all_goals omega
                              refine wpAnyH_take (i := 22) (v := .bool false) rfl (by kernel_rfl) (by kernel_rfl) (by kernel_rfl) (fun _ _ _ h => h) (Or.inl ⟨by kernel_rfl, fun w9 h9 => ?_⟩) HSB.out ?_
                              · go_simp
                              refine wpAnyH_take (i := 23) (v := .bool false) rfl (by kernel_rfl) (by kernel_rfl) (by kernel_rfl) (fun _ _ _ h => h) (Or.inl ⟨by kernel_rfl, fun w9 h9 => ?_⟩) HSB.out ?_
                              · go_simp
                              refine wpAnyH_take (i := 24) (v := .pointer (some ⟨b0, 2, none⟩)) rfl (by kernel_rfl) (by kernel_rfl) (by kernel_rfl) (fun _ _ _ h => h) (Or.inl ⟨by kernel_rfl, fun w9 h9 => ?_⟩) HSB.out ?_
                              · go_simp
                              refine wpAnyH_take (i := 25) (v := .int .i64 z.line) rfl (by kernel_rfl) (by kernel_rfl) (by kernel_rfl) (fun _ _ _ h => h) (Or.inl ⟨by kernel_rfl, fun w9 h9 => ?_⟩) HSB.out ?_
                              · obtain ⟨hlg, hbx⟩ := h9; have k0 := hlg.cel 0 _ rfl; have k1 := hlg.cel 1 _ rfl; have k2 := hlg.cel 2 _ rfl; have x2 := hbx.cel 2 _ rfl; go_simp
                              refine wpAnyH_take (i := 26) (v := .bool false) rfl (by kernel_rfl) (by kernel_rfl) (by kernel_rfl) (fun _ _ _ h => h) (Or.inl ⟨by kernel_rfl, fun w9 h9 => ?_⟩) HSB.out ?_
                              · go_simp; all_goals omega
                              refine wpAnyH_take (i := 27) (v := .bool false) rfl (by kernel_rfl) (by kernel_rfl) (by kernel_rfl) (fun _ _ _ h => h) (Or.inl ⟨by kernel_rfl, fun w9 h9 => ?_⟩) HSB.out ?_
                              · go_simp
                              refine wpAnyH_take (i := 28) (v := .bool false) rfl (by kernel_rfl) (by kernel_rfl) (by kernel_rfl) (fun _ _ _ h => h) (Or.inl ⟨by kernel_rfl, fun w9 h9 => ?_⟩) HSB.out ?_
                              · go_simp
                              refine wpAnyH_take (i := 29) (v := .int .i64 ((0 : Nat) : Int)) rfl (by kernel_rfl) (by kernel_rfl) (by kernel_rfl) (fun _ _ _ h => h) (Or.inl ⟨by kernel_rfl, fun w9 h9 => ?_⟩) HSB.out ?_
                              · go_simp
                              refine wpAnyH_take (i := 30) (v := .bool false) rfl (by kernel_rfl) (by kernel_rfl) (by kernel_rfl) (fun _ _ _ h => h) (Or.inl ⟨by kernel_rfl, fun w9 h9 => ?_⟩) HSB.out ?_
                              · go_simp; all_goals omega
                              refine wpAnyH_take (i := 31) (v := .bool false) rfl (by kernel_rfl) (by kernel_rfl) (by kernel_rfl) (fun _ _ _ h => h) (Or.inl ⟨by kernel_rfl, fun w9 h9 => ?_⟩) HSB.out ?_
                              · go_simp
                              refine wpAnyH_take (i := 32) (v := undef) rfl (by kernel_rfl) (by kernel_rfl) (by kernel_rfl) (fun _ _ _ h => h) (Or.inr ⟨by kernel_rfl, rfl⟩) HSB.out ?_
                              refine wpAnyH_take (i := 33) (v := undef) rfl (by kernel_rfl) (by kernel_rfl) (by kernel_rfl) (fun _ _ _ h => h) (Or.inr ⟨by kernel_rfl, rfl⟩) HSB.out ?_
                              refine wpAnyH_take (i := 34) (v := undef) rfl (by kernel_rfl) (by kernel_rfl) (by kernel_rfl) (fun _ _ _ h => h) (Or.inr ⟨by kernel_rfl, rfl⟩) HSB.out ?_
                              refine wpAnyH_take (i := 35) (v := undef) rfl (by kernel_rfl) (by kernel_rfl) (by kernel_rfl) (fun _ _ _ h => h) (Or.inr ⟨by kernel_rfl, rfl⟩) HSB.out ?_
                              refine wpAnyH_take (i := 36) (v := undef) rfl (by kernel_rfl) (by kernel_rfl) (by kernel_rfl) (fun _ _ _ h => h) (Or.inr ⟨by kernel_rfl, rfl⟩) HSB.out ?_
                              refine wpAnyH_take (i := 37) (v := undef) rfl (by kernel_rfl) (by kernel_rfl) (by kernel_rfl) (fun _ _ _ h => h) (Or.inr ⟨by kernel_rfl, rfl⟩) HSB.out ?_
                              refine wpAnyH_take (i := 38) (v := undef) rfl (by kernel_rfl) (by kernel_rfl) (by kernel_rfl) (fun _ _ _ h => h) (Or.inr ⟨by kernel_rfl, rfl⟩) HSB.out ?_
                              refine wpAnyH_take (i := 39) (v := undef) rfl (by kernel_rfl) (by kernel_rfl) (by kernel_rfl) (fun _ _ _ h => h) (Or.inr ⟨by kernel_rfl, rfl⟩) HSB.out ?_
                              refine wpAnyH_take (i := 40) (v := undef) rfl (by kernel_rfl) (by kernel_rfl) (by kernel_rfl) (fun _ _ _ h => h) (Or.inr ⟨by kernel_rfl, rfl⟩) HSB.out ?_
                              refine wpAnyH_take (i := 41) (v := undef) rfl (by kernel_rfl) (by kernel_rfl) (by kernel_rfl) (fun _ _ _ h => h) (Or.inr ⟨by kernel_rfl, rfl⟩) HSB.out ?_
                              refine wpAnyH_take (i := 42) (v := .bool false) rfl (by kernel_rfl) (by kernel_rfl) (by kernel_rfl) (fun _ _ _ h => h) (Or.inl ⟨by kernel_rfl, fun w9 h9 => ?_⟩) HSB.out ?_
                              · go_simp
                              refine wpAnyH_take (i := 43) (v := .bool false) rfl (by kernel_rfl) (by kernel_rfl) (by kernel_rfl) (fun _ _ _ h => h) (Or.inl ⟨by kernel_rfl, fun w9 h9 => ?_⟩) HSB.out ?_
                              · go_simp
                              refine wpAnyH_done (by kernel_rfl) ?_ _
                              go_simp
                              go_wp2
                              exact ⟨⟨1, hlt, by go_num, E2.out, HSB.out.2⟩, by simp [intOf]; omega⟩
                            · skip
                              have E2 : Hid (bfV f c zs = 1) := HBAD.out (HEK.out.trans (by rw [HE.out]; have r0 := of_decide_eq_false q0; have r1 := of_decide_eq_false q1; have r2 := of_decide_eq_false q2; have r3 := of_decide_eq_false q3; have r4 := of_decide_eq_false q4; have r5 := of_decide_eq_true q5; simp; try omega))
                              clear HE HEK HBAD HS
                              go_upto_region 7 with fail
                              clear d0 d1 d2 c2 cl HX
                              generalize (wr.alloc (.cells #[.int .i64 z.kind, .int .i64 z.port, .int .i64 z.line] 49)) = u0 at *
                              generalize wr.heap.size = b0 at *
                              have HSB : Hid ((fun w' => (LG w w' b0 #[.int .i64 z.kind, .int .i64 z.port, .int .i64 z.line] 49) ∧ (LG w w' bb #[.int .i64 f, .int .i64 c, .slice (some ⟨g, o, none⟩) zs.length cap] 29)) u0.drew) := ⟨HLN.out.drew, HX2.out.drew⟩
                              refine wp_region_held (S := fun w' => (LG w w' b0 #[.int .i64 z.kind, .int .i64 z.port, .int .i64 z.line] 49) ∧ (LG w w' bb #[.int .i64 f, .int .i64 c, .slice (some ⟨g, o, none⟩) zs.length cap] 29)) (by kernel_rfl) ?_
                              change wpAnyH _ _ _ _ _ _ _ _ (World.drew _)
                              refine wpAnyH_take (i := 0) (v := .pointer (some ⟨b0, 0, none⟩)) rfl (by kernel_rfl) (by kernel_rfl) (by kernel_rfl) (fun _ _ _ h => h) (Or.inl ⟨by kernel_rfl, fun w9 h9 => ?_⟩) HSB.out ?_
                              · go_simp
                              refine wpAnyH_take (i := 1) (v := .int .i64 z.kind) rfl (by kernel_rfl) (by kernel_rfl) (by kernel_rfl) (fun _ _ _ h => h) (Or.inl ⟨by kernel_rfl, fun w9 h9 => ?_⟩) HSB.out ?_
                              · obtain ⟨hlg, hbx⟩ := h9; have k0 := hlg.cel 0 _ rfl; have k1 := hlg.cel 1 _ rfl; have k2 := hlg.cel 2 _ rfl; have x2 := hbx.cel 2 _ rfl; go_simp
                              refine wpAnyH_take (i := 2) (v := .bool false) rfl (by kernel_rfl) (by kernel_rfl) (by kernel_rfl) (fun _ _ _ h => h) (Or.inl ⟨by kernel_rfl, fun w9 h9 => ?_⟩) HSB.out ?_
                              · go_simp; all_goals omega
                              refine wpAnyH_take (i := 3) (v := .bool false) rfl (by kernel_rfl) (by kernel_rfl) (by kernel_rfl) (fun _ _ _ h => h) (Or.inl ⟨by kernel_rfl, fun w9 h9 => ?_⟩) HSB.out ?_
                              · go_simp
                              refine wpAnyH_take (i := 4) (v := .pointer (some ⟨b0, 0, none⟩)) rfl (by kernel_rfl) (by kernel_rfl) (by kernel_rfl) (fun _ _ _ h => h) (Or.inl ⟨by kernel_rfl, fun w9 h9 => ?_⟩) HSB.out ?_
                              · go_simp
                              refine wpAnyH_take (i := 5) (v := .int .i64 z.kind) rfl (by kernel_rfl) (by kernel_rfl) (by kernel_rfl) (fun _ _ _ h => h) (Or.inl ⟨by kernel_rfl, fun w9 h9 => ?_⟩) HSB.out ?_
                              · obtain ⟨hlg, hbx⟩ := h9; have k0 := hlg.cel 0 _ rfl; have k1 := hlg.cel 1 _ rfl; have k2 := hlg.cel 2 _ rfl; have x2 := hbx.cel 2 _ rfl; go_simp
                              refine wpAnyH_take (i := 6) (v := .bool false) rfl (by kernel_rfl) (by kernel_rfl) (by kernel_rfl) (fun _ _ _ h => h) (Or.inl ⟨by kernel_rfl, fun w9 h9 => ?_⟩) HSB.out ?_
                              · go_simp; all_goals omega
                              refine wpAnyH_take (i := 7) (v := .bool false) rfl (by kernel_rfl) (by kernel_rfl) (by kernel_rfl) (fun _ _ _ h => h) (Or.inl ⟨by kernel_rfl, fun w9 h9 => ?_⟩) HSB.out ?_
                              · go_simp
                              refine wpAnyH_take (i := 8) (v := .bool false) rfl (by kernel_rfl) (by kernel_rfl) (by kernel_rfl) (fun _ _ _ h => h) (Or.inl ⟨by kernel_rfl, fun w9 h9 => ?_⟩) HSB.out ?_
                              · go_simp
                              refine wpAnyH_take (i := 9) (v := .pointer (some ⟨b0, 1, none⟩)) rfl (by kernel_rfl) (by kernel_rfl) (by kernel_rfl) (fun _ _ _ h => h) (Or.inl ⟨by kernel_rfl, fun w9 h9 => ?_⟩) HSB.out ?_
                              · go_simp
                              refine wpAnyH_take (i := 10) (v := .int .i64 z.port) rfl (by kernel_rfl) (by kernel_rfl) (by kernel_rfl) (fun _ _ _ h => h) (Or.inl ⟨by kernel_rfl, fun w9 h9 => ?_⟩) HSB.out ?_
                              · obtain ⟨hlg, hbx⟩ := h9; have k0 := hlg.cel 0 _ rfl; have k1 := hlg.cel 1 _ rfl; have k2 := hlg.cel 2 _ rfl; have x2 := hbx.cel 2 _ rfl; go_simp
                              refine wpAnyH_take (i := 11) (v := .bool false) rfl (by kernel_rfl) (by kernel_rfl) (by kernel_rfl) (fun _ _ _ h => h) (Or.inl ⟨by kernel_rfl, fun w9 h9 => ?_⟩) HSB.out ?_
                              · go_simp; all_goals omega
                              refine wpAnyH_take (i := 12) (v := .bool false) rfl (by kernel_rfl) (by kernel_rfl) (by kernel_rfl) (fun _ _ _ h => h) (Or.inl ⟨by kernel_rfl, fun w9 h9 => ?_⟩) HSB.out ?_
                              · go_simp
                              refine wpAnyH_take (i := 13) (v := .bool false) rfl (by kernel_rfl) (by kernel_rfl) (by kernel_rfl) (fun _ _ _ h => h) (Or.inl ⟨by kernel_rfl, fun w9 h9 => ?_⟩) HSB.out ?_
                              · go_simp
                              refine wpAnyH_take (i := 14) (v := .pointer (some ⟨b0, 1, none⟩)) rfl (by kernel_rfl) (by kernel_rfl) (by kernel_rfl) (fun _ _ _ h => h) (Or.inl ⟨by kernel_rfl, fun w9 h9 => ?_⟩) HSB.out ?_
                              · go_simp
                              refine wpAnyH_take (i := 15) (v := .int .i64 z.port) rfl (by kernel_rfl) (by kernel_rfl) (by kernel_rfl) (fun _ _ _ h => h) (Or.inl ⟨by kernel_rfl, fun w9 h9 => ?_⟩) HSB.out ?_
                              · obtain ⟨hlg, hbx⟩ := h9; have k0 := hlg.cel 0 _ rfl; have k1 := hlg.cel 1 _ rfl; have k2 := hlg.cel 2 _ rfl; have x2 := hbx.cel 2 _ rfl; go_simp
                              refine wpAnyH_take (i := 16) (v := .bool false) rfl (by kernel_rfl) (by kernel_rfl) (by kernel_rfl) (fun _ _ _ h => h) (Or.inl ⟨by kernel_rfl, fun w9 h9 => ?_⟩) HSB.out ?_
                              · go_simp; all_goals omega
                              refine wpAnyH_take (i := 17) (v := .bool false) rfl (by kernel_rfl) (by kernel_rfl) (by kernel_rfl) (fun _ _ _ h => h) (Or.inl ⟨by kernel_rfl, fun w9 h9 => ?_⟩) HSB.out ?_
                              · go_simp
                              refine wpAnyH_take (i := 18) (v := .bool false) rfl (by kernel_rfl) (by kernel_rfl) (by kernel_rfl) (fun _ _ _ h => h) (Or.inl ⟨by kernel_rfl, fun w9 h9 => ?_⟩) HSB.out ?_
                              · go_simp
                              refine wpAnyH_take (i := 19) (v := .pointer (some ⟨b0, 2, none⟩)) rfl (by kernel_rfl) (by kernel_rfl) (by kernel_rfl) (fun _ _ _ h => h) (Or.inl ⟨by kernel_rfl, fun w9 h9 => ?_⟩) HSB.out ?_
                              · go_simp
                              refine wpAnyH_take (i := 20) (v := .int .i64 z.line) rfl (by kernel_rfl) (by kernel_rfl) (by kernel_rfl) (fun _ _ _ h => h) (Or.inl ⟨by kernel_rfl, fun w9 h9 => ?_⟩) HSB.out ?_
                              · obtain ⟨hlg, hbx⟩ := h9; have k0 := hlg.cel 0 _ rfl; have k1 := hlg.cel 1 _ rfl; have k2 := hlg.cel 2 _ rfl; have x2 := hbx.cel 2 _ rfl; go_simp
                              refine wpAnyH_take (i := 21) (v := .bool false) rfl (by kernel_rfl) (by kernel_rfl) (by kernel_rfl) (fun _ _ _ h => h) (Or.inl ⟨by kernel_rfl, fun w9 h9 => ?_⟩) HSB.out ?_
                              · go_simp; all_goals omega
                              refine wpAnyH_take (i := 22) (v := .bool false) rfl (by kernel_rfl) (by kernel_rfl) (by kernel_rfl) (fun _ _ _ h => h) (Or.inl ⟨by kernel_rfl, fun w9 h9 => ?_⟩) HSB.out ?_
                              · go_simp
                              refine wpAnyH_take (i := 23) (v := .bool false) rfl (by kernel_rfl) (by kernel_rfl) (by kernel_rfl) (fun _ _ _ h => h) (Or.inl ⟨by kernel_rfl, fun w9 h9 => ?_⟩) HSB.out ?_
                              · go_simp
                              refine wpAnyH_take (i := 24) (v := .pointer (some ⟨b0, 2, none⟩)) rfl (by kernel_rfl) (by kernel_rfl) (by kernel_rfl) (fun _ _ _ h => h) (Or.inl ⟨by kernel_rfl, fun w9 h9 => ?_⟩) HSB.out ?_
                              · go_simp
                              refine wpAnyH_take (i := 25) (v := .int .i64 z.line) rfl (by kernel_rfl) (by kernel_rfl) (by kernel_rfl) (fun _ _ _ h => h) (Or.inl ⟨by kernel_rfl, fun w9 h9 => ?_⟩) HSB.out ?_
                              · obtain ⟨hlg, hbx⟩ := h9; have k0 := hlg.cel 0 _ rfl; have k1 := hlg.cel 1 _ rfl; have k2 := hlg.cel 2 _ rfl; have x2 := hbx.cel 2 _ rfl; go_simp
                              refine wpAnyH_take (i := 26) (v := .bool true) rfl (by kernel_rfl) (by kernel_rfl) (by kernel_rfl) (fun _ _ _ h => h) (Or.inl ⟨by kernel_rfl, fun w9 h9 => ?_⟩) HSB.out ?_
                              · go_simp; all_goals omega
                              refine wpAnyH_take (i := 27) (v := .bool true) rfl (by kernel_rfl) (by kernel_rfl) (by kernel_rfl) (fun _ _ _ h => h) (Or.inl ⟨by kernel_rfl, fun w9 h9 => ?_⟩) HSB.out ?_
                              · go_simp
                              refine wpAnyH_take (i := 28) (v := .bool true) rfl (by kernel_rfl) (by kernel_rfl) (by kernel_rfl) (fun _ _ _ h => h) (Or.inl ⟨by kernel_rfl, fun w9 h9 => ?_⟩) HSB.out ?_
                              · go_simp
                              refine wpAnyH_take (i := 29) (v := undef) rfl (by kernel_rfl) (by kernel_rfl) (by kernel_rfl) (fun _ _ _ h => h) (Or.inr ⟨by kernel_rfl, rfl⟩) HSB.out ?_
                              refine wpAnyH_take (i := 30) (v := undef) rfl (by kernel_rfl) (by kernel_rfl) (by kernel_rfl) (fun _ _ _ h => h) (Or.inr ⟨by kernel_rfl, rfl⟩) HSB.out ?_
                              refine wpAnyH_take (i := 31) (v := undef) rfl (by kernel_rfl) (by kernel_rfl) (by kernel_rfl) (fun _ _ _ h => h) (Or.inr ⟨by kernel_rfl, rfl⟩) HSB.out ?_
                              refine wpAnyH_take (i := 32) (v := undef) rfl (by kernel_rfl) (by kernel_rfl) (by kernel_rfl) (fun _ _ _ h => h) (Or.inr ⟨by kernel_rfl, rfl⟩) HSB.out ?_
                              refine wpAnyH_take (i := 33) (v := undef) rfl (by kernel_rfl) (by kernel_rfl) (by kernel_rfl) (fun _ _ _ h => h) (Or.inr ⟨by kernel_rfl, rfl⟩) HSB.out ?_
                              refine wpAnyH_take (i := 34) (v := undef) rfl (by kernel_rfl) (by kernel_rfl) (by kernel_rfl) (fun _ _ _ h => h) (Or.inr ⟨by kernel_rfl, rfl⟩) HSB.out ?_
                              refine wpAnyH_take (i := 35) (v := undef) rfl (by kernel_rfl) (by kernel_rfl) (by kernel_rfl) (fun _ _ _ h => h) (Or.inr ⟨by kernel_rfl, rfl⟩) HSB.out ?_
                              refine wpAnyH_take (i := 36) (v := undef) rfl (by kernel_rfl) (by kernel_rfl) (by kernel_rfl) (fun _ _ _ h => h) (Or.inr ⟨by kernel_rfl, rfl⟩) HSB.out ?_
                              refine wpAnyH_take (i := 37) (v := undef) rfl (by kernel_rfl) (by kernel_rfl) (by kernel_rfl) (fun _ _ _ h => h) (Or.inr ⟨by kernel_rfl, rfl⟩) HSB.out ?_
                              refine wpAnyH_take (i := 38) (v := undef) rfl (by kernel_rfl) (by kernel_rfl) (by kernel_rfl) (fun _ _ _ h => h) (Or.inr ⟨by kernel_rfl, rfl⟩) HSB.out ?_
                              refine wpAnyH_take (i := 39) (v := undef) rfl (by kernel_rfl) (by kernel_rfl) (by kernel_rfl) (fun _ _ _ h => h) (Or.inr ⟨by kernel_rfl, rfl⟩) HSB.out ?_
                              refine wpAnyH_take (i := 40) (v := undef) rfl (by kernel_rfl) (by kernel_rfl) (by kernel_rfl) (fun _ _ _ h => h) (Or.inr ⟨by kernel_rfl, rfl⟩) HSB.out ?_
                              refine wpAnyH_take (i := 41) (v := undef) rfl (by kernel_rfl) (by kernel_rfl) (by kernel_rfl) (fun _ _ _ h => h) (Or.inr ⟨by kernel_rfl, rfl⟩) HSB.out ?_
                              refine wpAnyH_take (i := 42) (v := undef) rfl (by kernel_rfl) (by kernel_rfl) (by kernel_rfl) (fun _ _ _ h => h) (Or.inr ⟨by kernel_rfl, rfl⟩) HSB.out ?_
                              refine wpAnyH_take (i := 43) (v := .bool true) rfl (by kernel_rfl) (by kernel_rfl) (by kernel_rfl) (fun _ _ _ h => h) (Or.inl ⟨by kernel_rfl, fun w9 h9 => ?_⟩) HSB.out ?_
                              · go_simp
                              refine wpAnyH_done (by kernel_rfl) ?_ _
                              go_simp
                              go_wp2
                              go_ret
                              exact ⟨ret_int E2.out.symm, hbb ▸ HSB.out.1.bel⟩
                          · skip
                            have E2 : Hid (bfV f c zs = 1) := HBAD.out (HEK.out.trans (by rw [HE.out]; have r0 := of_decide_eq_false q0; have r1 := of_decide_eq_false q1; have r2 := of_decide_eq_false q2; have r3 := of_decide_eq_false q3; have r4 := of_decide_eq_true q4; simp; try omega))
                            clear HE HEK HBAD HS
                            go_upto_region 7 with fail
                            clear d0 d1 d2 c2 cl HX
                            generalize (wr.alloc (.cells #[.int .i64 z.kind, .int .i64 z.port, .int .i64 z.line] 49)) = u0 at *
                            generalize wr.heap.size = b0 at *
                            have HSB : Hid ((fun w' => (LG w w' b0 #[.int .i64 z.kind, .int .i64 z.port, .int .i64 z.line] 49) ∧ (LG w w' bb #[.int .i64 f, .int .i64 c, .slice (some ⟨g, o, none⟩) zs.length cap] 29)) u0.drew) := ⟨HLN.out.drew, HX2.out.drew⟩
                            refine wp_region_held (S := fun w' => (LG w w' b0 #[.int .i64 z.kind, .int .i64 z.port, .int .i64 z.line] 49) ∧ (LG w w' bb #[.int .i64 f, .int .i64 c, .slice (some ⟨g, o, none⟩) zs.length cap] 29)) (by kernel_rfl) ?_
                            change wpAnyH _ _ _ _ _ _ _ _ (World.drew _)
                            refine wpAnyH_take (i := 0) (v := .pointer (some ⟨b0, 0, none⟩)) rfl (by kernel_rfl) (by kernel_rfl) (by kernel_rfl) (fun _ _ _ h => h) (Or.inl ⟨by kernel_rfl, fun w9 h9 => ?_⟩) HSB.out ?_
                            · go_simp
                            refine wpAnyH_take (i := 1) (v := .int .i64 z.kind) rfl (by kernel_rfl) (by kernel_rfl) (by kernel_rfl) (fun _ _ _ h => h) (Or.inl ⟨by kernel_rfl, fun w9 h9 => ?_⟩) HSB.out ?_
                            · obtain ⟨hlg, hbx⟩ := h9; have k0 := hlg.cel 0 _ rfl; have k1 := hlg.cel 1 _ rfl; have k2 := hlg.cel 2 _ rfl; have x2 := hbx.cel 2 _ rfl; go_simp
                            refine wpAnyH_take (i := 2) (v := .bool false) rfl (by kernel_rfl) (by kernel_rfl) (by kernel_rfl) (fun _ _ _ h => h) (Or.inl ⟨by kernel_rfl, fun w9 h9 => ?_⟩) HSB.out ?_
                            · go_simp; all_goals omega
                            refine wpAnyH_take (i := 3) (v := .bool false) rfl (by kernel_rfl) (by kernel_rfl) (by kernel_rfl) (fun _ _ _ h => h) (Or.inl ⟨by kernel_rfl, fun w9 h9 => ?_⟩) HSB.out ?_
                            · go_simp
                            refine wpAnyH_take (i := 4) (v := .pointer (some ⟨b0, 0, none⟩)) rfl (by kernel_rfl) (by kernel_rfl) (by kernel_rfl) (fun _ _ _ h => h) (Or.inl ⟨by kernel_rfl, fun w9 h9 => ?_⟩) HSB.out ?_
                            · go_simp
                            refine wpAnyH_take (i := 5) (v := .int .i64 z.kind) rfl (by kernel_rfl) (by kernel_rfl) (by kernel_rfl) (fun _ _ _ h => h) (Or.inl ⟨by kernel_rfl, fun w9 h9 => ?_⟩) HSB.out ?_
                            · obtain ⟨hlg, hbx⟩ := h9; have k0 := hlg.cel 0 _ rfl; have k1 := hlg.cel 1 _ rfl; have k2 := hlg.cel 2 _ rfl; have x2 := hbx.cel 2 _ rfl; go_simp
                            refine wpAnyH_take (i := 6) (v := .bool false) rfl (by kernel_rfl) (by kernel_rfl) (by kernel_rfl) (fun _ _ _ h => h) (Or.inl ⟨by kernel_rfl, fun w9 h9 => ?_⟩) HSB.out ?_
                            · go_simp; all_goals omega
                            refine wpAnyH_take (i := 7) (v := .bool false) rfl (by kernel_rfl) (by kernel_rfl) (by kernel_rfl) (fun _ _ _ h => h) (Or.inl ⟨by kernel_rfl, fun w9 h9 => ?_⟩) HSB.out ?_
                            · go_simp
                            refine wpAnyH_take (i := 8) (v := .bool false) rfl (by kernel_rfl) (by kernel_rfl) (by kernel_rfl) (fun _ _ _ h => h) (Or.inl ⟨by kernel_rfl, fun w9 h9 => ?_⟩) HSB.out ?_
                            · go_simp
                            refine wpAnyH_take (i := 9) (v := .pointer (some ⟨b0, 1, none⟩)) rfl (by kernel_rfl) (by kernel_rfl) (by kernel_rfl) (fun _ _ _ h => h) (Or.inl ⟨by kernel_rfl, fun w9 h9 => ?_⟩) HSB.out ?_
                            · go_simp
                            refine wpAnyH_take (i := 10) (v := .int .i64 z.port) rfl (by kernel_rfl) (by kernel_rfl) (by kernel_rfl) (fun _ _ _ h => h) (Or.inl ⟨by kernel_rfl, fun w9 h9 => ?_⟩) HSB.out ?_
                            · obtain ⟨hlg, hbx⟩ := h9; have k0 := hlg.cel 0 _ rfl; have k1 := hlg.cel 1 _ rfl; have k2 := hlg.cel 2 _ rfl; have x2 := hbx.cel 2 _ rfl; go_simp
                            refine wpAnyH_take (i := 11) (v := .bool false) rfl (by kernel_rfl) (by kernel_rfl) (by kernel_rfl) (fun _ _ _ h => h) (Or.inl ⟨by kernel_rfl, fun w9 h9 => ?_⟩) HSB.out ?_
                            · go_simp; all_goals omega
                            refine wpAnyH_take (i := 12) (v := .bool false) rfl (by kernel_rfl) (by kernel_rfl) (by kernel_rfl) (fun _ _ _ h => h) (Or.inl ⟨by kernel_rfl, fun w9 h9 => ?_⟩) HSB.out ?_
                            · go_simp
                            refine wpAnyH_take (i := 13) (v := .bool false) rfl (by kernel_rfl) (by kernel_rfl) (by kernel_rfl) (fun _ _ _ h => h) (Or.inl ⟨by kernel_rfl, fun w9 h9 => ?_⟩) HSB.out ?_
                            · go_simp
                            refine wpAnyH_take (i := 14) (v := .pointer (some ⟨b0, 1, none⟩)) rfl (by kernel_rfl) (by kernel_rfl) (by kernel_rfl) (fun _ _ _ h => h) (Or.inl ⟨by kernel_rfl, fun w9 h9 => ?_⟩) HSB.out ?_
                            · go_simp
                            refine wpAnyH_take (i := 15) (v := .int .i64 z.port) rfl (by kernel_rfl) (by kernel_rfl) (by kernel_rfl) (fun _ _ _ h => h) (Or.inl ⟨by kernel_rfl, fun w9 h9 => ?_⟩) HSB.out ?_
                            · obtain ⟨hlg, hbx⟩ := h9; have k0 := hlg.cel 0 _ rfl; have k1 := hlg.cel 1 _ rfl; have k2 := hlg.cel 2 _ rfl; have x2 := hbx.cel 2 _ rfl; go_simp
                            refine wpAnyH_take (i := 16) (v := .bool false) rfl (by kernel_rfl) (by kernel_rfl) (by kernel_rfl) (fun _ _ _ h => h) (Or.inl ⟨by kernel_rfl, fun w9 h9 => ?_⟩) HSB.out ?_
                            · go_simp; all_goals omega
                            refine wpAnyH_take (i := 17) (v := .bool false) rfl (by kernel_rfl) (by kernel_rfl) (by kernel_rfl) (fun _ _ _ h => h) (Or.inl ⟨by kernel_rfl, fun w9 h9 => ?_⟩) HSB.out ?_
                            · go_simp
                            refine wpAnyH_take (i := 18) (v := .bool false) rfl (by kernel_rfl) (by kernel_rfl) (by kernel_rfl) (fun _ _ _ h => h) (Or.inl ⟨by kernel_rfl, fun w9 h9 => ?_⟩) HSB.out ?_
                            · go_simp
                            refine wpAnyH_take (i := 19) (v := .pointer (some ⟨b0, 2, none⟩)) rfl (by kernel_rfl) (by kernel_rfl) (by kernel_rfl) (fun _ _ _ h => h) (Or.inl ⟨by kernel_rfl, fun w9 h9 => ?_⟩) HSB.out ?_
                            · go_simp
                            refine wpAnyH_take (i := 20) (v := .int .i64 z.line) rfl (by kernel_rfl) (by kernel_rfl) (by kernel_rfl) (fun _ _ _ h => h) (Or.inl ⟨by kernel_rfl, fun w9 h9 => ?_⟩) HSB.out ?_
                            · obtain ⟨hlg, hbx⟩ := h9; have k0 := hlg.cel 0 _ rfl; have k1 := hlg.cel 1 _ rfl; have k2 := hlg.cel 2 _ rfl; have x2 := hbx.cel 2 _ rfl; go_simp
                            refine wpAnyH_take (i := 21) (v := .bool true) rfl (by kernel_rfl) (by kernel_rfl) (by kernel_rfl) (fun _ _ _ h => h) (Or.inl ⟨by kernel_rfl, fun w9 h9 => ?_⟩) HSB.out ?_
                            · go_simp; all_goals omega
                            refine wpAnyH_take (i := 22) (v := .bool true) rfl (by kernel_rfl) (by kernel_rfl) (by kernel_rfl) (fun _ _ _ h => h) (Or.inl ⟨by kernel_rfl, fun w9 h9 => ?_⟩) HSB.out ?_
                            · go_simp
                            refine wpAnyH_take (i := 23) (v := .bool true) rfl (by kernel_rfl) (by kernel_rfl) (by kernel_rfl) (fun _ _ _ h => h) (Or.inl ⟨by kernel_rfl, fun w9 h9 => ?_⟩) HSB.out ?_
                            · go_simp
                            refine wpAnyH_take (i := 24) (v := undef) rfl (by kernel_rfl) (by kernel_rfl) (by kernel_rfl) (fun _ _ _ h => h) (Or.inr ⟨by kernel_rfl, rfl⟩) HSB.out ?_
                            refine wpAnyH_take (i := 25) (v := undef) rfl (by kernel_rfl) (by kernel_rfl) (by kernel_rfl) (fun _ _ _ h => h) (Or.inr ⟨by kernel_rfl, rfl⟩) HSB.out ?_
                            refine wpAnyH_take (i := 26) (v := undef) rfl (by kernel_rfl) (by kernel_rfl) (by kernel_rfl) (fun _ _ _ h => h) (Or.inr ⟨by kernel_rfl, rfl⟩) HSB.out ?_
                            refine wpAnyH_take (i := 27) (v := .bool true) rfl (by kernel_rfl) (by kernel_rfl) (by kernel_rfl) (fun _ _ _ h => h) (Or.inl ⟨by kernel_rfl, fun w9 h9 => ?_⟩) HSB.out ?_
                            · go_simp
                            refine wpAnyH_take (i := 28) (v := .bool true) rfl (by kernel_rfl) (by kernel_rfl) (by kernel_rfl) (fun _ _ _ h => h) (Or.inl ⟨by kernel_rfl, fun w9 h9 => ?_⟩) HSB.out ?_
                            · go_simp
                            refine wpAnyH_take (i := 29) (v := undef) rfl (by kernel_rfl) (by kernel_rfl) (by kernel_rfl) (fun _ _ _ h => h) (Or.inr ⟨by kernel_rfl, rfl⟩) HSB.out ?_
                            refine wpAnyH_take (i := 30) (v := undef) rfl (by kernel_rfl) (by kernel_rfl) (by kernel_rfl) (fun _ _ _ h => h) (Or.inr ⟨by kernel_rfl, rfl⟩) HSB.out ?_
                            refine wpAnyH_take (i := 31) (v := undef) rfl (by kernel_rfl) (by kernel_rfl) (by kernel_rfl) (fun _ _ _ h => h) (Or.inr ⟨by kernel_rfl, rfl⟩) HSB.out ?_
                            refine wpAnyH_take (i := 32) (v := undef) rfl (by kernel_rfl) (by kernel_rfl) (by kernel_rfl) (fun _ _ _ h => h) (Or.inr ⟨by kernel_rfl, rfl⟩) HSB.out ?_
                            refine wpAnyH_take (i := 33) (v := undef) rfl (by kernel_rfl) (by kernel_rfl) (by kernel_rfl) (fun _ _ _ h => h) (Or.inr ⟨by kernel_rfl, rfl⟩) HSB.out ?_
                            refine wpAnyH_take (i := 34) (v := undef) rfl (by kernel_rfl) (by kernel_rfl) (by kernel_rfl) (fun _ _ _ h => h) (Or.inr ⟨by kernel_rfl, rfl⟩) HSB.out ?_
                            refine wpAnyH_take (i := 35) (v := undef) rfl (by kernel_rfl) (by kernel_rfl) (by kernel_rfl) (fun _ _ _ h => h) (Or.inr ⟨by kernel_rfl, rfl⟩) HSB.out ?_
                            refine wpAnyH_take (i := 36) (v := undef) rfl (by kernel_rfl) (by kernel_rfl) (by kernel_rfl) (fun _ _ _ h => h) (Or.inr ⟨by kernel_rfl, rfl⟩) HSB.out ?_
                            refine wpAnyH_take (i := 37) (v := undef) rfl (by kernel_rfl) (by kernel_rfl) (by kernel_rfl) (fun _ _ _ h => h) (Or.inr ⟨by kernel_rfl, rfl⟩) HSB.out ?_
                            refine wpAnyH_take (i := 38) (v := undef) rfl (by kernel_rfl) (by kernel_rfl) (by kernel_rfl) (fun _ _ _ h => h) (Or.inr ⟨by kernel_rfl, rfl⟩) HSB.out ?_
                            refine wpAnyH_take (i := 39) (v := undef) rfl (by kernel_rfl) (by kernel_rfl) (by kernel_rfl) (fun _ _ _ h => h) (Or.inr ⟨by kernel_rfl, rfl⟩) HSB.out ?_
                            refine wpAnyH_take (i := 40) (v := undef) rfl (by kernel_rfl) (by kernel_rfl) (by kernel_rfl) (fun _ _ _ h => h) (Or.inr ⟨by kernel_rfl, rfl⟩) HSB.out ?_
                            refine wpAnyH_take (i := 41) (v := undef) rfl (by kernel_rfl) (by kernel_rfl) (by kernel_rfl) (fun _ _ _ h => h) (Or.inr ⟨by kernel_rfl, rfl⟩) HSB.out ?_
                            refine wpAnyH_take (i := 42) (v := undef) rfl (by kernel_rfl) (by kernel_rfl) (by kernel_rfl) (fun _ _ _ h => h) (Or.inr ⟨by kernel_rfl, rfl⟩) HSB.out ?_
                            refine wpAnyH_take (i := 43) (v := .bool true) rfl (by kernel_rfl) (by kernel_rfl) (by kernel_rfl) (fun _ _ _ h => h) (Or.inl ⟨by kernel_rfl, fun w9 h9 => ?_⟩) HSB.out ?_
                            · go_simp
                            refine wpAnyH_done (by kernel_rfl) ?_ _
                            go_simp
                            go_wp2
                            go_ret
                            exact ⟨ret_int E2.out.symm, hbb ▸ HSB.out.1.bel⟩
                        · skip
                          have E2 : Hid (bfV f c zs = 1) := HBAD.out (HEK.out.trans (by rw [HE.out]; have r0 := of_decide_eq_false q0; have r1 := of_decide_eq_false q1; have r2 := of_decide_eq_false q2; have r3 := of_decide_eq_true q3; simp; try omega))
                          clear HE HEK HBAD HS
                          go_upto_region 7 with fail
                          clear d0 d1 d2 c2 cl HX
                          generalize (wr.alloc (.cells #[.int .i64 z.kind, .int .i64 z.port, .int .i64 z.line] 49)) = u0 at *
                          generalize wr.heap.size = b0 at *
                          have HSB : Hid ((fun w' => (LG w w' b0 #[.int .i64 z.kind, .int .i64 z.port, .int .i64 z.line] 49) ∧ (LG w w' bb #[.int .i64 f, .int .i64 c, .slice (some ⟨g, o, none⟩) zs.length cap] 29)) u0.drew) := ⟨HLN.out.drew, HX2.out.drew⟩
                          refine wp_region_held (S := fun w' => (LG w w' b0 #[.int .i64 z.kind, .int .i64 z.port, .int .i64 z.line] 49) ∧ (LG w w' bb #[.int .i64 f, .int .i64 c, .slice (some ⟨g, o, none⟩) zs.length cap] 29)) (by kernel_rfl) ?_
                          change wpAnyH _ _ _ _ _ _ _ _ (World.drew _)
                          refine wpAnyH_take (i := 0) (v := .pointer (some ⟨b0, 0, none⟩)) rfl (by kernel_rfl) (by kernel_rfl) (by kernel_rfl) (fun _ _ _ h => h) (Or.inl ⟨by kernel_rfl, fun w9 h9 => ?_⟩) HSB.out ?_
                          · go_simp
                          refine wpAnyH_take (i := 1) (v := .int .i64 z.kind) rfl (by kernel_rfl) (by kernel_rfl) (by kernel_rfl) (fun _ _ _ h => h) (Or.inl ⟨by kernel_rfl, fun w9 h9 => ?_⟩) HSB.out ?_
                          · obtain ⟨hlg, hbx⟩ := h9; have k0 := hlg.cel 0 _ rfl; have k1 := hlg.cel 1 _ rfl; have k2 := hlg.cel 2 _ rfl; have x2 := hbx.cel 2 _ rfl; go_simp
                          refine wpAnyH_take (i := 2) (v := .bool false) rfl (by kernel_rfl) (by kernel_rfl) (by kernel_rfl) (fun _ _ _ h => h) (Or.inl ⟨by kernel_rfl, fun w9 h9 => ?_⟩) HSB.out ?_
                          · go_simp; all_goals omega
                          refine wpAnyH_take (i := 3) (v := .bool false) rfl (by kernel_rfl) (by kernel_rfl) (by kernel_rfl) (fun _ _ _ h => h) (Or.inl ⟨by kernel_rfl, fun w9 h9 => ?_⟩) HSB.out ?_
                          · go_simp
                          refine wpAnyH_take (i := 4) (v := .pointer (some ⟨b0, 0, none⟩)) rfl (by kernel_rfl) (by kernel_rfl) (by kernel_rfl) (fun _ _ _ h => h) (Or.inl ⟨by kernel_rfl, fun w9 h9 => ?_⟩) HSB.out ?_
                          · go_simp
                          refine wpAnyH_take (i := 5) (v := .int .i64 z.kind) rfl (by kernel_rfl) (by kernel_rfl) (by kernel_rfl) (fun _ _ _ h => h) (Or.inl ⟨by kernel_rfl, fun w9 h9 => ?_⟩) HSB.out ?_
                          · obtain ⟨hlg, hbx⟩ := h9; have k0 := hlg.cel 0 _ rfl; have k1 := hlg.cel 1 _ rfl; have k2 := hlg.cel 2 _ rfl; have x2 := hbx.cel 2 _ rfl; go_simp
                          refine wpAnyH_take (i := 6) (v := .bool false) rfl (by kernel_rfl) (by kernel_rfl) (by kernel_rfl) (fun _ _ _ h => h) (Or.inl ⟨by kernel_rfl, fun w9 h9 => ?_⟩) HSB.out ?_
                          · go_simp; all_goals omega
                          refine wpAnyH_take (i := 7) (v := .bool false) rfl (by kernel_rfl) (by kernel_rfl) (by kernel_rfl) (fun _ _ _ h => h) (Or.inl ⟨by kernel_rfl, fun w9 h9 => ?_⟩) HSB.out ?_
                          · go_simp
                          refine wpAnyH_take (i := 8) (v := .bool false) rfl (by kernel_rfl) (by kernel_rfl) (by kernel_rfl) (fun _ _ _ h => h) (Or.inl ⟨by kernel_rfl, fun w9 h9 => ?_⟩) HSB.out ?_
                          · go_simp
                          refine wpAnyH_take (i := 9) (v := .pointer (some ⟨b0, 1, none⟩)) rfl (by kernel_rfl) (by kernel_rfl) (by kernel_rfl) (fun _ _ _ h => h) (Or.inl ⟨by kernel_rfl, fun w9 h9 => ?_⟩) HSB.out ?_
                          · go_simp
                          refine wpAnyH_take (i := 10) (v := .int .i64 z.port) rfl (by kernel_rfl) (by kernel_rfl) (by kernel_rfl) (fun _ _ _ h => h) (Or.inl ⟨by kernel_rfl, fun w9 h9 => ?_⟩) HSB.out ?_
                          · obtain ⟨hlg, hbx⟩ := h9; have k0 := hlg.cel 0 _ rfl; have k1 := hlg.cel 1 _ rfl; have k2 := hlg.cel 2 _ rfl; have x2 := hbx.cel 2 _ rfl; go_simp
                          refine wpAnyH_take (i := 11) (v := .bool false) rfl (by kernel_rfl) (by kernel_rfl) (by kernel_rfl) (fun _ _ _ h => h) (Or.inl ⟨by kernel_rfl, fun w9 h9 => ?_⟩) HSB.out ?_
                          · go_simp; all_goals omega
                          refine wpAnyH_take (i := 12) (v := .bool false) rfl (by kernel_rfl) (by kernel_rfl) (by kernel_rfl) (fun _ _ _ h => h) (Or.inl ⟨by kernel_rfl, fun w9 h9 => ?_⟩) HSB.out ?_
                          · go_simp
                          refine wpAnyH_take (i := 13) (v := .bool false) rfl (by kernel_rfl) (by kernel_rfl) (by kernel_rfl) (fun _ _ _ h => h) (Or.inl ⟨by kernel_rfl, fun w9 h9 => ?_⟩) HSB.out ?_
                          · go_simp
                          refine wpAnyH_take (i := 14) (v := .pointer (some ⟨b0, 1, none⟩)) rfl (by kernel_rfl) (by kernel_rfl) (by kernel_rfl) (fun _ _ _ h => h) (Or.inl ⟨by kernel_rfl, fun w9 h9 => ?_⟩) HSB.out ?_
                          · go_simp
                          refine wpAnyH_take (i := 15) (v := .int .i64 z.port) rfl (by kernel_rfl) (by kernel_rfl) (by kernel_rfl) (fun _ _ _ h => h) (Or.inl ⟨by kernel_rfl, fun w9 h9 => ?_⟩) HSB.out ?_
                          · obtain ⟨hlg, hbx⟩ := h9; have k0 := hlg.cel 0 _ rfl; have k1 := hlg.cel 1 _ rfl; have k2 := hlg.cel 2 _ rfl; have x2 := hbx.cel 2 _ rfl; go_simp
                          refine wpAnyH_take (i := 16) (v := .bool true) rfl (by kernel_rfl) (by kernel_rfl) (by kernel_rfl) (fun _ _ _ h => h) (Or.inl ⟨by kernel_rfl, fun w9 h9 => ?_⟩) HSB.out ?_
                          · go_simp; all_goals omega
                          refine wpAnyH_take (i := 17) (v := .bool true) rfl (by kernel_rfl) (by kernel_rfl) (by kernel_rfl) (fun _ _ _ h => h) (Or.inl ⟨by kernel_rfl, fun w9 h9 => ?_⟩) HSB.out ?_
                          · go_simp
                          refine wpAnyH_take (i := 18) (v := .bool true) rfl (by kernel_rfl) (by kernel_rfl) (by kernel_rfl) (fun _ _ _ h => h) (Or.inl ⟨by kernel_rfl, fun w9 h9 => ?_⟩) HSB.out ?_
                          · go_simp
                          refine wpAnyH_take (i := 19) (v := undef) rfl (by kernel_rfl) (by kernel_rfl) (by kernel_rfl) (fun _ _ _ h => h) (Or.inr ⟨by kernel_rfl, rfl⟩) HSB.out ?_
                          refine wpAnyH_take (i := 20) (v := undef) rfl (by kernel_rfl) (by kernel_rfl) (by kernel_rfl) (fun _ _ _ h => h) (Or.inr ⟨by kernel_rfl, rfl⟩) HSB.out ?_
                          refine wpAnyH_take (i := 21) (v := undef) rfl (by kernel_rfl) (by kernel_rfl) (by kernel_rfl) (fun _ _ _ h => h) (Or.inr ⟨by kernel_rfl, rfl⟩) HSB.out ?_
                          refine wpAnyH_take (i := 22) (v := .bool true) rfl (by kernel_rfl) (by kernel_rfl) (by kernel_rfl) (fun _ _ _ h => h) (Or.inl ⟨by kernel_rfl, fun w9 h9 => ?_⟩) HSB.out ?_
                          · go_simp
                          refine wpAnyH_take (i := 23) (v := .bool true) rfl (by kernel_rfl) (by kernel_rfl) (by kernel_rfl) (fun _ _ _ h => h) (Or.inl ⟨by kernel_rfl, fun w9 h9 => ?_⟩) HSB.out ?_
                          · go_simp
                          refine wpAnyH_take (i := 24) (v := undef) rfl (by kernel_rfl) (by kernel_rfl) (by kernel_rfl) (fun _ _ _ h => h) (Or.inr ⟨by kernel_rfl, rfl⟩) HSB.out ?_
                          refine wpAnyH_take (i := 25) (v := undef) rfl (by kernel_rfl) (by kernel_rfl) (by kernel_rfl) (fun _ _ _ h => h) (Or.inr ⟨by kernel_rfl, rfl⟩) HSB.out ?_
                          refine wpAnyH_take (i := 26) (v := undef) rfl (by kernel_rfl) (by kernel_rfl) (by kernel_rfl) (fun _ _ _ h => h) (Or.inr ⟨by kernel_rfl, rfl⟩) HSB.out ?_
                          refine wpAnyH_take (i := 27) (v := .bool true) rfl (by kernel_rfl) (by kernel_rfl) (by kernel_rfl) (fun _ _ _ h => h) (Or.inl ⟨by kernel_rfl, fun w9 h9 => ?_⟩) HSB.out ?_
                          · go_simp
                          refine wpAnyH_take (i := 28) (v := .bool true) rfl (by kernel_rfl) (by kernel_rfl) (by kernel_rfl) (fun _ _ _ h => h) (Or.inl ⟨by kernel_rfl, fun w9 h9 => ?_⟩) HSB.out ?_
                          · go_simp
                          refine wpAnyH_take (i := 29) (v := undef) rfl (by kernel_rfl) (by kernel_rfl) (by kernel_rfl) (fun _ _ _ h => h) (Or.inr ⟨by kernel_rfl, rfl⟩) HSB.out ?_
                          refine wpAnyH_take (i := 30) (v := undef) rfl (by kernel_rfl) (by kernel_rfl) (by kernel_rfl) (fun _ _ _ h => h) (Or.inr ⟨by kernel_rfl, rfl⟩) HSB.out ?_
                          refine wpAnyH_take (i := 31) (v := undef) rfl (by kernel_rfl) (by kernel_rfl) (by kernel_rfl) (fun _ _ _ h => h) (Or.inr ⟨by kernel_rfl, rfl⟩) HSB.out ?_
                          refine wpAnyH_take (i := 32) (v := undef) rfl (by kernel_rfl) (by kernel_rfl) (by kernel_rfl) (fun _ _ _ h => h) (Or.inr ⟨by kernel_rfl, rfl⟩) HSB.out ?_
                          refine wpAnyH_take (i := 33) (v := undef) rfl (by kernel_rfl) (by kernel_rfl) (by kernel_rfl) (fun _ _ _ h => h) (Or.inr ⟨by kernel_rfl, rfl⟩) HSB.out ?_
                          refine wpAnyH_take (i := 34) (v := undef) rfl (by kernel_rfl) (by kernel_rfl) (by kernel_rfl) (fun _ _ _ h => h) (Or.inr ⟨by kernel_rfl, rfl⟩) HSB.out ?_
                          refine wpAnyH_take (i := 35) (v := undef) rfl (by kernel_rfl) (by kernel_rfl) (by kernel_rfl) (fun _ _ _ h => h) (Or.inr ⟨by kernel_rfl, rfl⟩) HSB.out ?_
                          refine wpAnyH_take (i := 36) (v := undef) rfl (by kernel_rfl) (by kernel_rfl) (by kernel_rfl) (fun _ _ _ h => h) (Or.inr ⟨by kernel_rfl, rfl⟩) HSB.out ?_
                          refine wpAnyH_take (i := 37) (v := undef) rfl (by kernel_rfl) (by kernel_rfl) (by kernel_rfl) (fun _ _ _ h => h) (Or.inr ⟨by kernel_rfl, rfl⟩) HSB.out ?_
                          refine wpAnyH_take (i := 38) (v := undef) rfl (by kernel_rfl) (by kernel_rfl) (by kernel_rfl) (fun _ _ _ h => h) (Or.inr ⟨by kernel_rfl, rfl⟩) HSB.out ?_
                          refine wpAnyH_take (i := 39) (v := undef) rfl (by kernel_rfl) (by kernel_rfl) (by kernel_rfl) (fun _ _ _ h => h) (Or.inr ⟨by kernel_rfl, rfl⟩) HSB.out ?_
                          refine wpAnyH_take (i := 40) (v := undef) rfl (by kernel_rfl) (by kernel_rfl) (by kernel_rfl) (fun _ _ _ h => h) (Or.inr ⟨by kernel_rfl, rfl⟩) HSB.out ?_
                          refine wpAnyH_take (i := 41) (v := undef) rfl (by kernel_rfl) (by kernel_rfl) (by kernel_rfl) (fun _ _ _ h => h) (Or.inr ⟨by kernel_rfl, rfl⟩) HSB.out ?_
                          refine wpAnyH_take (i := 42) (v := undef) rfl (by kernel_rfl) (by kernel_rfl) (by kernel_rfl) (fun _ _ _ h => h) (Or.inr ⟨by kernel_rfl, rfl⟩) HSB.out ?_
                          refine wpAnyH_take (i := 43) (v := .bool true) rfl (by kernel_rfl) (by kernel_rfl) (by kernel_rfl) (fun _ _ _ h => h) (Or.inl ⟨by kernel_rfl, fun w9 h9 => ?_⟩) HSB.out ?_
                          · go_simp
                          refine wpAnyH_done (by kernel_rfl) ?_ _
                          go_simp
                          go_wp2
                          go_ret
                          exact ⟨ret_int E2.out.symm, hbb ▸ HSB.out.1.bel⟩
                      · skip
                        have E2 : Hid (bfV f c zs = 1) := HBAD.out (HEK.out.trans (by rw [HE.out]; have r0 := of_decide_eq_false q0; have r1 := of_decide_eq_false q1; have r2 := of_decide_eq_true q2; simp; try omega))
                        clear HE HEK HBAD HS
                        go_upto_region 7 with fail
                        clear d0 d1 d2 c2 cl HX
                        generalize (wr.alloc (.cells #[.int .i64 z.kind, .int .i64 z.port, .int .i64 z.line] 49)) = u0 at *
                        generalize wr.heap.size = b0 at *
                        have HSB : Hid ((fun w' => (LG w w' b0 #[.int .i64 z.kind, .int .i64 z.port, .int .i64 z.line] 49) ∧ (LG w w' bb #[.int .i64 f, .int .i64 c, .slice (some ⟨g, o, none⟩) zs.length cap] 29)) u0.drew) := ⟨HLN.out.drew, HX2.out.drew⟩
                        refine wp_region_held (S := fun w' => (LG w w' b0 #[.int .i64 z.kind, .int .i64 z.port, .int .i64 z.line] 49) ∧ (LG w w' bb #[.int .i64 f, .int .i64 c, .slice (some ⟨g, o, none⟩) zs.length cap] 29)) (by kernel_rfl) ?_
                        change wpAnyH _ _ _ _ _ _ _ _ (World.drew _)
                        refine wpAnyH_take (i := 0) (v := .pointer (some ⟨b0, 0, none⟩)) rfl (by kernel_rfl) (by kernel_rfl) (by kernel_rfl) (fun _ _ _ h => h) (Or.inl ⟨by kernel_rfl, fun w9 h9 => ?_⟩) HSB.out ?_
                        · go_simp
                        refine wpAnyH_take (i := 1) (v := .int .i64 z.kind) rfl (by kernel_rfl) (by kernel_rfl) (by kernel_rfl) (fun _ _ _ h => h) (Or.inl ⟨by kernel_rfl, fun w9 h9 => ?_⟩) HSB.out ?_
                        · obtain ⟨hlg, hbx⟩ := h9; have k0 := hlg.cel 0 _ rfl; have k1 := hlg.cel 1 _ rfl; have k2 := hlg.cel 2 _ rfl; have x2 := hbx.cel 2 _ rfl; go_simp
                        refine wpAnyH_take (i := 2) (v := .bool false) rfl (by kernel_rfl) (by kernel_rfl) (by kernel_rfl) (fun _ _ _ h => h) (Or.inl ⟨by kernel_rfl, fun w9 h9 => ?_⟩) HSB.out ?_
                        · go_simp; all_goals omega
                        refine wpAnyH_take (i := 3) (v := .bool false) rfl (by kernel_rfl) (by kernel_rfl) (by kernel_rfl) (fun _ _ _ h => h) (Or.inl ⟨by kernel_rfl, fun w9 h9 => ?_⟩) HSB.out ?_
                        · go_simp
                        refine wpAnyH_take (i := 4) (v := .pointer (some ⟨b0, 0, none⟩)) rfl (by kernel_rfl) (by kernel_rfl) (by kernel_rfl) (fun _ _ _ h => h) (Or.inl ⟨by kernel_rfl, fun w9 h9 => ?_⟩) HSB.out ?_
                        · go_simp
                        refine wpAnyH_take (i := 5) (v := .int .i64 z.kind) rfl (by kernel_rfl) (by kernel_rfl) (by kernel_rfl) (fun _ _ _ h => h) (Or.inl ⟨by kernel_rfl, fun w9 h9 => ?_⟩) HSB.out ?_
                        · obtain ⟨hlg, hbx⟩ := h9; have k0 := hlg.cel 0 _ rfl; have k1 := hlg.cel 1 _ rfl; have k2 := hlg.cel 2 _ rfl; have x2 := hbx.cel 2 _ rfl; go_simp
                        refine wpAnyH_take (i := 6) (v := .bool false) rfl (by kernel_rfl) (by kernel_rfl) (by kernel_rfl) (fun _ _ _ h => h) (Or.inl ⟨by kernel_rfl, fun w9 h9 => ?_⟩) HSB.out ?_
                        · go_simp; all_goals omega
                        refine wpAnyH_take (i := 7) (v := .bool false) rfl (by kernel_rfl) (by kernel_rfl) (by kernel_rfl) (fun _ _ _ h => h) (Or.inl ⟨by kernel_rfl, fun w9 h9 => ?_⟩) HSB.out ?_
                        · go_simp
                        refine wpAnyH_take (i := 8) (v := .bool false) rfl (by kernel_rfl) (by kernel_rfl) (by kernel_rfl) (fun _ _ _ h => h) (Or.inl ⟨by kernel_rfl, fun w9 h9 => ?_⟩) HSB.out ?_
                        · go_simp
                        refine wpAnyH_take (i := 9) (v := .pointer (some ⟨b0, 1, none⟩)) rfl (by kernel_rfl) (by kernel_rfl) (by kernel_rfl) (fun _ _ _ h => h) (Or.inl ⟨by kernel_rfl, fun w9 h9 => ?_⟩) HSB.out ?_
                        · go_simp
                        refine wpAnyH_take (i := 10) (v := .int .i64 z.port) rfl (by kernel_rfl) (by kernel_rfl) (by kernel_rfl) (fun _ _ _ h => h) (Or.inl ⟨by kernel_rfl, fun w9 h9 => ?_⟩) HSB.out ?_
                        · obtain ⟨hlg, hbx⟩ := h9; have k0 := hlg.cel 0 _ rfl; have k1 := hlg.cel 1 _ rfl; have k2 := hlg.cel 2 _ rfl; have x2 := hbx.cel 2 _ rfl; go_simp
                        refine wpAnyH_take (i := 11) (v := .bool true) rfl (by kernel_rfl) (by kernel_rfl) (by kernel_rfl) (fun _ _ _ h => h) (Or.inl ⟨by kernel_rfl, fun w9 h9 => ?_⟩) HSB.out ?_
                        · go_simp; all_goals omega
                        refine wpAnyH_take (i := 12) (v := .bool true) rfl (by kernel_rfl) (by kernel_rfl) (by kernel_rfl) (fun _ _ _ h => h) (Or.inl ⟨by kernel_rfl, fun w9 h9 => ?_⟩) HSB.out ?_
                        · go_simp
                        refine wpAnyH_take (i := 13) (v := .bool true) rfl (by kernel_rfl) (by kernel_rfl) (by kernel_rfl) (fun _ _ _ h => h) (Or.inl ⟨by kernel_rfl, fun w9 h9 => ?_⟩) HSB.out ?_
                        · go_simp
                        refine wpAnyH_take (i := 14) (v := undef) rfl (by kernel_rfl) (by kernel_rfl) (by kernel_rfl) (fun _ _ _ h => h) (Or.inr ⟨by kernel_rfl, rfl⟩) HSB.out ?_
                        refine wpAnyH_take (i := 15) (v := undef) rfl (by kernel_rfl) (by kernel_rfl) (by kernel_rfl) (fun _ _ _ h => h) (Or.inr ⟨by kernel_rfl, rfl⟩) HSB.out ?_
                        refine wpAnyH_take (i := 16) (v := undef) rfl (by kernel_rfl) (by kernel_rfl) (by kernel_rfl) (fun _ _ _ h => h) (Or.inr ⟨by kernel_rfl, rfl⟩) HSB.out ?_
                        refine wpAnyH_take (i := 17) (v := .bool true) rfl (by kernel_rfl) (by kernel_rfl) (by kernel_rfl) (fun _ _ _ h => h) (Or.inl ⟨by kernel_rfl, fun w9 h9 => ?_⟩) HSB.out ?_
                        · go_simp
                        refine wpAnyH_take (i := 18) (v := .bool true) rfl (by kernel_rfl) (by kernel_rfl) (by kernel_rfl) (fun _ _ _ h => h) (Or.inl ⟨by kernel_rfl, fun w9 h9 => ?_⟩) HSB.out ?_
                        · go_simp
                        refine wpAnyH_take (i := 19) (v := undef) rfl (by kernel_rfl) (by kernel_rfl) (by kernel_rfl) (fun _ _ _ h => h) (Or.inr ⟨by kernel_rfl, rfl⟩) HSB.out ?_
                        refine wpAnyH_take (i := 20) (v := undef) rfl (by kernel_rfl) (by kernel_rfl) (by kernel_rfl) (fun _ _ _ h => h) (Or.inr ⟨by kernel_rfl, rfl⟩) HSB.out ?_
                        refine wpAnyH_take (i := 21) (v := undef) rfl (by kernel_rfl) (by kernel_rfl) (by kernel_rfl) (fun _ _ _ h => h) (Or.inr ⟨by kernel_rfl, rfl⟩) HSB.out ?_
                        refine wpAnyH_take (i := 22) (v := .bool true) rfl (by kernel_rfl) (by kernel_rfl) (by kernel_rfl) (fun _ _ _ h => h) (Or.inl ⟨by kernel_rfl, fun w9 h9 => ?_⟩) HSB.out ?_
                        · go_simp
                        refine wpAnyH_take (i := 23) (v := .bool true) rfl (by kernel_rfl) (by kernel_rfl) (by kernel_rfl) (fun _ _ _ h => h) (Or.inl ⟨by kernel_rfl, fun w9 h9 => ?_⟩) HSB.out ?_
                        · go_simp
                        refine wpAnyH_take (i := 24) (v := undef) rfl (by kernel_rfl) (by kernel_rfl) (by kernel_rfl) (fun _ _ _ h => h) (Or.inr ⟨by kernel_rfl, rfl⟩) HSB.out ?_
                        refine wpAnyH_take (i := 25) (v := undef) rfl (by kernel_rfl) (by kernel_rfl) (by kernel_rfl) (fun _ _ _ h => h) (Or.inr ⟨by kernel_rfl, rfl⟩) HSB.out ?_
                        refine wpAnyH_take (i := 26) (v := undef) rfl (by kernel_rfl) (by kernel_rfl) (by kernel_rfl) (fun _ _ _ h => h) (Or.inr ⟨by kernel_rfl, rfl⟩) HSB.out ?_
                        refine wpAnyH_take (i := 27) (v := .bool true) rfl (by kernel_rfl) (by kernel_rfl) (by kernel_rfl) (fun _ _ _ h => h) (Or.inl ⟨by kernel_rfl, fun w9 h9 => ?_⟩) HSB.out ?_
                        · go_simp
                        refine wpAnyH_take (i := 28) (v := .bool true) rfl (by kernel_rfl) (by kernel_rfl) (by kernel_rfl) (fun _ _ _ h => h) (Or.inl ⟨by kernel_rfl, fun w9 h9 => ?_⟩) HSB.out ?_
                        · go_simp
                        refine wpAnyH_take (i := 29) (v := undef) rfl (by kernel_rfl) (by kernel_rfl) (by kernel_rfl) (fun _ _ _ h => h) (Or.inr ⟨by kernel_rfl, rfl⟩) HSB.out ?_
                        refine wpAnyH_take (i := 30) (v := undef) rfl (by kernel_rfl) (by kernel_rfl) (by kernel_rfl) (fun _ _ _ h => h) (Or.inr ⟨by kernel_rfl, rfl⟩) HSB.out ?_
                        refine wpAnyH_take (i := 31) (v := undef) rfl (by kernel_rfl) (by kernel_rfl) (by kernel_rfl) (fun _ _ _ h => h) (Or.inr ⟨by kernel_rfl, rfl⟩) HSB.out ?_
                        refine wpAnyH_take (i := 32) (v := undef) rfl (by kernel_rfl) (by kernel_rfl) (by kernel_rfl) (fun _ _ _ h => h) (Or.inr ⟨by kernel_rfl, rfl⟩) HSB.out ?_
                        refine wpAnyH_take (i := 33) (v := undef) rfl (by kernel_rfl) (by kernel_rfl) (by kernel_rfl) (fun _ _ _ h => h) (Or.inr ⟨by kernel_rfl, rfl⟩) HSB.out ?_
                        refine wpAnyH_take (i := 34) (v := undef) rfl (by kernel_rfl) (by kernel_rfl) (by kernel_rfl) (fun _ _ _ h => h) (Or.inr ⟨by kernel_rfl, rfl⟩) HSB.out ?_
                        refine wpAnyH_take (i := 35) (v := undef) rfl (by kernel_rfl) (by kernel_rfl) (by kernel_rfl) (fun _ _ _ h => h) (Or.inr ⟨by kernel_rfl, rfl⟩) HSB.out ?_
                        refine wpAnyH_take (i := 36) (v := undef) rfl (by kernel_rfl) (by kernel_rfl) (by kernel_rfl) (fun _ _ _ h => h) (Or.inr ⟨by kernel_rfl, rfl⟩) HSB.out ?_
                        refine wpAnyH_take (i := 37) (v := undef) rfl (by kernel_rfl) (by kernel_rfl) (by kernel_rfl) (fun _ _ _ h => h) (Or.inr ⟨by kernel_rfl, rfl⟩) HSB.out ?_
                        refine wpAnyH_take (i := 38) (v := undef) rfl (by kernel_rfl) (by kernel_rfl) (by kernel_rfl) (fun _ _ _ h => h) (Or.inr ⟨by kernel_rfl, rfl⟩) HSB.out ?_
                        refine wpAnyH_take (i := 39) (v := undef) rfl (by kernel_rfl) (by kernel_rfl) (by kernel_rfl) (fun _ _ _ h => h) (Or.inr ⟨by kernel_rfl, rfl⟩) HSB.out ?_
                        refine wpAnyH_take (i := 40) (v := undef) rfl (by kernel_rfl) (by kernel_rfl) (by kernel_rfl) (fun _ _ _ h => h) (Or.inr ⟨by kernel_rfl, rfl⟩) HSB.out ?_
                        refine wpAnyH_take (i := 41) (v := undef) rfl (by kernel_rfl) (by kernel_rfl) (by kernel_rfl) (fun _ _ _ h => h) (Or.inr ⟨by kernel_rfl, rfl⟩) HSB.out ?_
                        refine wpAnyH_take (i := 42) (v := undef) rfl (by kernel_rfl) (by kernel_rfl) (by kernel_rfl) (fun _ _ _ h => h) (Or.inr ⟨by kernel_rfl, rfl⟩) HSB.out ?_
                        refine wpAnyH_take (i := 43) (v := .bool true) rfl (by kernel_rfl) (by kernel_rfl) (by kernel_rfl) (fun _ _ _ h => h) (Or.inl ⟨by kernel_rfl, fun w9 h9 => ?_⟩) HSB.out ?_
                        · go_simp
                        refine wpAnyH_done (by kernel_rfl) ?_ _
                        go_simp
                        go_wp2
                        go_ret
                        exact ⟨ret_int E2.out.symm, hbb ▸ HSB.out.1.bel⟩
                    · skip
                      have E2 : Hid (bfV f c zs = 1) := HBAD.out (HEK.out.trans (by rw [HE.out]; have r0 := of_decide_eq_false q0; have r1 := of_decide_eq_true q1; simp; try omega))
                      clear HE HEK HBAD HS
                      go_upto_region 7 with fail
                      clear d0 d1 d2 c2 cl HX
                      generalize (wr.alloc (.cells #[.int .i64 z.kind, .int .i64 z.port, .int .i64 z.line] 49)) = u0 at *
                      generalize wr.heap.size = b0 at *
                      have HSB : Hid ((fun w' => (LG w w' b0 #[.int .i64 z.kind, .int .i64 z.port, .int .i64 z.line] 49) ∧ (LG w w' bb #[.int .i64 f, .int .i64 c, .slice (some ⟨g, o, none⟩) zs.length cap] 29)) u0.drew) := ⟨HLN.out.drew, HX2.out.drew⟩
                      refine wp_region_held (S := fun w' => (LG w w' b0 #[.int .i64 z.kind, .int .i64 z.port, .int .i64 z.line] 49) ∧ (LG w w' bb #[.int .i64 f, .int .i64 c, .slice (some ⟨g, o, none⟩) zs.length cap] 29)) (by kernel_rfl) ?_
                      change wpAnyH _ _ _ _ _ _ _ _ (World.drew _)
                      refine wpAnyH_take (i := 0) (v := .pointer (some ⟨b0, 0, none⟩)) rfl (by kernel_rfl) (by kernel_rfl) (by kernel_rfl) (fun _ _ _ h => h) (Or.inl ⟨by kernel_rfl, fun w9 h9 => ?_⟩) HSB.out ?_
                      · go_simp
                      refine wpAnyH_take (i := 1) (v := .int .i64 z.kind) rfl (by kernel_rfl) (by kernel_rfl) (by kernel_rfl) (fun _ _ _ h => h) (Or.inl ⟨by kernel_rfl, fun w9 h9 => ?_⟩) HSB.out ?_
                      · obtain ⟨hlg, hbx⟩ := h9; have k0 := hlg.cel 0 _ rfl; have k1 := hlg.cel 1 _ rfl; have k2 := hlg.cel 2 _ rfl; have x2 := hbx.cel 2 _ rfl; go_simp
                      refine wpAnyH_take (i := 2) (v := .bool false) rfl (by kernel_rfl) (by kernel_rfl) (by kernel_rfl) (fun _ _ _ h => h) (Or.inl ⟨by kernel_rfl, fun w9 h9 => ?_⟩) HSB.out ?_
                      · go_simp; all_goals omega
                      refine wpAnyH_take (i := 3) (v := .bool false) rfl (by kernel_rfl) (by kernel_rfl) (by kernel_rfl) (fun _ _ _ h => h) (Or.inl ⟨by kernel_rfl, fun w9 h9 => ?_⟩) HSB.out ?_
                      · go_simp
                      refine wpAnyH_take (i := 4) (v := .pointer (some ⟨b0, 0, none⟩)) rfl (by kernel_rfl) (by kernel_rfl) (by kernel_rfl) (fun _ _ _ h => h) (Or.inl ⟨by kernel_rfl, fun w9 h9 => ?_⟩) HSB.out ?_
                      · go_simp
                      refine wpAnyH_take (i := 5) (v := .int .i64 z.kind) rfl (by kernel_rfl) (by kernel_rfl) (by kernel_rfl) (fun _ _ _ h => h) (Or.inl ⟨by kernel_rfl, fun w9 h9 => ?_⟩) HSB.out ?_
                      · obtain ⟨hlg, hbx⟩ := h9; have k0 := hlg.cel 0 _ rfl; have k1 := hlg.cel 1 _ rfl; have k2 := hlg.cel 2 _ rfl; have x2 := hbx.cel 2 _ rfl; go_simp
                      refine wpAnyH_take (i := 6) (v := .bool true) rfl (by kernel_rfl) (by kernel_rfl) (by kernel_rfl) (fun _ _ _ h => h) (Or.inl ⟨by kernel_rfl, fun w9 h9 => ?_⟩) HSB.out ?_
                      · go_simp; all_goals omega
                      refine wpAnyH_take (i := 7) (v := .bool true) rfl (by kernel_rfl) (by kernel_rfl) (by kernel_rfl) (fun _ _ _ h => h) (Or.inl ⟨by kernel_rfl, fun w9 h9 => ?_⟩) HSB.out ?_
                      · go_simp
                      refine wpAnyH_take (i := 8) (v := .bool true) rfl (by kernel_rfl) (by kernel_rfl) (by kernel_rfl) (fun _ _ _ h => h) (Or.inl ⟨by kernel_rfl, fun w9 h9 => ?_⟩) HSB.out ?_
                      · go_simp
                      refine wpAnyH_take (i := 9) (v := undef) rfl (by kernel_rfl) (by kernel_rfl) (by kernel_rfl) (fun _ _ _ h => h) (Or.inr ⟨by kernel_rfl, rfl⟩) HSB.out ?_
                      refine wpAnyH_take (i := 10) (v := undef) rfl (by kernel_rfl) (by kernel_rfl) (by kernel_rfl) (fun _ _ _ h => h) (Or.inr ⟨by kernel_rfl, rfl⟩) HSB.out ?_
                      refine wpAnyH_take (i := 11) (v := undef) rfl (by kernel_rfl) (by kernel_rfl) (by kernel_rfl) (fun _ _ _ h => h) (Or.inr ⟨by kernel_rfl, rfl⟩) HSB.out ?_
                      refine wpAnyH_take (i := 12) (v := .bool true) rfl (by kernel_rfl) (by kernel_rfl) (by kernel_rfl) (fun _ _ _ h => h) (Or.inl ⟨by kernel_rfl, fun w9 h9 => ?_⟩) HSB.out ?_
                      · go_simp
                      refine wpAnyH_take (i := 13) (v := .bool true) rfl (by kernel_rfl) (by kernel_rfl) (by kernel_rfl) (fun _ _ _ h => h) (Or.inl ⟨by kernel_rfl, fun w9 h9 => ?_⟩) HSB.out ?_
                      · go_simp
                      refine wpAnyH_take (i := 14) (v := undef) rfl (by kernel_rfl) (by kernel_rfl) (by kernel_rfl) (fun _ _ _ h => h) (Or.inr ⟨by kernel_rfl, rfl⟩) HSB.out ?_
                      refine wpAnyH_take (i := 15) (v := undef) rfl (by kernel_rfl) (by kernel_rfl) (by kernel_rfl) (fun _ _ _ h => h) (Or.inr ⟨by kernel_rfl, rfl⟩) HSB.out ?_
                      refine wpAnyH_take (i := 16) (v := undef) rfl (by kernel_rfl) (by kernel_rfl) (by kernel_rfl) (fun _ _ _ h => h) (Or.inr ⟨by kernel_rfl, rfl⟩) HSB.out ?_
                      refine wpAnyH_take (i := 17) (v := .bool true) rfl (by kernel_rfl) (by kernel_rfl) (by kernel_rfl) (fun _ _ _ h => h) (Or.inl ⟨by kernel_rfl, fun w9 h9 => ?_⟩) HSB.out ?_
                      · go_simp
                      refine wpAnyH_take (i := 18) (v := .bool true) rfl (by kernel_rfl) (by kernel_rfl) (by kernel_rfl) (fun _ _ _ h => h) (Or.inl ⟨by kernel_rfl, fun w9 h9 => ?_⟩) HSB.out ?_
                      · go_simp
                      refine wpAnyH_take (i := 19) (v := undef) rfl (by kernel_rfl) (by kernel_rfl) (by kernel_rfl) (fun _ _ _ h => h) (Or.inr ⟨by kernel_rfl, rfl⟩) HSB.out ?_
                      refine wpAnyH_take (i := 20) (v := undef) rfl (by kernel_rfl) (by kernel_rfl) (by kernel_rfl) (fun _ _ _ h => h) (Or.inr ⟨by kernel_rfl, rfl⟩) HSB.out ?_
                      refine wpAnyH_take (i := 21) (v := undef) rfl (by kernel_rfl) (by kernel_rfl) (by kernel_rfl) (fun _ _ _ h => h) (Or.inr ⟨by kernel_rfl, rfl⟩) HSB.out ?_
                      refine wpAnyH_take (i := 22) (v := .bool true) rfl (by kernel_rfl) (by kernel_rfl) (by kernel_rfl) (fun _ _ _ h => h) (Or.inl ⟨by kernel_rfl, fun w9 h9 => ?_⟩) HSB.out ?_
                      · go_simp
                      refine wpAnyH_take (i := 23) (v := .bool true) rfl (by kernel_rfl) (by kernel_rfl) (by kernel_rfl) (fun _ _ _ h => h) (Or.inl ⟨by kernel_rfl, fun w9 h9 => ?_⟩) HSB.out ?_
                      · go_simp
                      refine wpAnyH_take (i := 24) (v := undef) rfl (by kernel_rfl) (by kernel_rfl) (by kernel_rfl) (fun _ _ _ h => h) (Or.inr ⟨by kernel_rfl, rfl⟩) HSB.out ?_
                      refine wpAnyH_take (i := 25) (v := undef) rfl (by kernel_rfl) (by kernel_rfl) (by kernel_rfl) (fun _ _ _ h => h) (Or.inr ⟨by kernel_rfl, rfl⟩) HSB.out ?_
                      refine wpAnyH_take (i := 26) (v := undef) rfl (by kernel_rfl) (by kernel_rfl) (by kernel_rfl) (fun _ _ _ h => h) (Or.inr ⟨by kernel_rfl, rfl⟩) HSB.out ?_
                      refine wpAnyH_take (i := 27) (v := .bool true) rfl (by kernel_rfl) (by kernel_rfl) (by kernel_rfl) (fun _ _ _ h => h) (Or.inl ⟨by kernel_rfl, fun w9 h9 => ?_⟩) HSB.out ?_
                      · go_simp
                      refine wpAnyH_take (i := 28) (v := .bool true) rfl (by kernel_rfl) (by kernel_rfl) (by kernel_rfl) (fun _ _ _ h => h) (Or.inl ⟨by kernel_rfl, fun w9 h9 => ?_⟩) HSB.out ?_
                      · go_simp
                      refine wpAnyH_take (i := 29) (v := undef) rfl (by kernel_rfl) (by kernel_rfl) (by kernel_rfl) (fun _ _ _ h => h) (Or.inr ⟨by kernel_rfl, rfl⟩) HSB.out ?_
                      refine wpAnyH_take (i := 30) (v := undef) rfl (by kernel_rfl) (by kernel_rfl) (by kernel_rfl) (fun _ _ _ h => h) (Or.inr ⟨by kernel_rfl, rfl⟩) HSB.out ?_
                      refine wpAnyH_take (i := 31) (v := undef) rfl (by kernel_rfl) (by kernel_rfl) (by kernel_rfl) (fun _ _ _ h => h) (Or.inr ⟨by kernel_rfl, rfl⟩) HSB.out ?_
                      refine wpAnyH_take (i := 32) (v := undef) rfl (by kernel_rfl) (by kernel_rfl) (by kernel_rfl) (fun _ _ _ h => h) (Or.inr ⟨by kernel_rfl, rfl⟩) HSB.out ?_
                      refine wpAnyH_take (i := 33) (v := undef) rfl (by kernel_rfl) (by kernel_rfl) (by kernel_rfl) (fun _ _ _ h => h) (Or.inr ⟨by kernel_rfl, rfl⟩) HSB.out ?_
                      refine wpAnyH_take (i := 34) (v := undef) rfl (by kernel_rfl) (by kernel_rfl) (by kernel_rfl) (fun _ _ _ h => h) (Or.inr ⟨by kernel_rfl, rfl⟩) HSB.out ?_
                      refine wpAnyH_take (i := 35) (v := undef) rfl (by kernel_rfl) (by kernel_rfl) (by kernel_rfl) (fun _ _ _ h => h) (Or.inr ⟨by kernel_rfl, rfl⟩) HSB.out ?_
                      refine wpAnyH_take (i := 36) (v := undef) rfl (by kernel_rfl) (by kernel_rfl) (by kernel_rfl) (fun _ _ _ h => h) (Or.inr ⟨by kernel_rfl, rfl⟩) HSB.out ?_
                      refine wpAnyH_take (i := 37) (v := undef) rfl (by kernel_rfl) (by kernel_rfl) (by kernel_rfl) (fun _ _ _ h => h) (Or.inr ⟨by kernel_rfl, rfl⟩) HSB.out ?_
                      refine wpAnyH_take (i := 38) (v := undef) rfl (by kernel_rfl) (by kernel_rfl) (by kernel_rfl) (fun _ _ _ h => h) (Or.inr ⟨by kernel_rfl, rfl⟩) HSB.out ?_
                      refine wpAnyH_take (i := 39) (v := undef) rfl (by kernel_rfl) (by kernel_rfl) (by kernel_rfl) (fun _ _ _ h => h) (Or.inr ⟨by kernel_rfl, rfl⟩) HSB.out ?_
                      refine wpAnyH_take (i := 40) (v := undef) rfl (by kernel_rfl) (by kernel_rfl) (by kernel_rfl) (fun _ _ _ h => h) (Or.inr ⟨by kernel_rfl, rfl⟩) HSB.out ?_
                      refine wpAnyH_take (i := 41) (v := undef) rfl (by kernel_rfl) (by kernel_rfl) (by kernel_rfl) (fun _ _ _ h => h) (Or.inr ⟨by kernel_rfl, rfl⟩) HSB.out ?_
                      refine wpAnyH_take (i := 42) (v := undef) rfl (by kernel_rfl) (by kernel_rfl) (by kernel_rfl) (fun _ _ _ h => h) (Or.inr ⟨by kernel_rfl, rfl⟩) HSB.out ?_
                      refine wpAnyH_take (i := 43) (v := .bool true) rfl (by kernel_rfl) (by kernel_rfl) (by kernel_rfl) (fun _ _ _ h => h) (Or.inl ⟨by kernel_rfl, fun w9 h9 => ?_⟩) HSB.out ?_
                      · go_simp
                      refine wpAnyH_done (by kernel_rfl) ?_ _
                      go_simp
                      go_wp2
                      go_ret
                      exact ⟨ret_int E2.out.symm, hbb ▸ HSB.out.1.bel⟩
                  · skip
                    have E2 : Hid (bfV f c zs = 1) := HBAD.out (HEK.out.trans (by rw [HE.out]; have r0 := of_decide_eq_true q0; simp; try omega))
                    clear HE HEK HBAD HS
                    go_upto_region 7 with fail
                    clear d0 d1 d2 c2 cl HX
                    generalize (wr.alloc (.cells #[.int .i64 z.kind, .int .i64 z.port, .int .i64 z.line] 49)) = u0 at *
                    generalize wr.heap.size = b0 at *
                    have HSB : Hid ((fun w' => (LG w w' b0 #[.int .i64 z.kind, .int .i64 z.port, .int .i64 z.line] 49) ∧ (LG w w' bb #[.int .i64 f, .int .i64 c, .slice (some ⟨g, o, none⟩) zs.length cap] 29)) u0.drew) := ⟨HLN.out.drew, HX2.out.drew⟩
                    refine wp_region_held (S := fun w' => (LG w w' b0 #[.int .i64 z.kind, .int .i64 z.port, .int .i64 z.line] 49) ∧ (LG w w' bb #[.int .i64 f, .int .i64 c, .slice (some ⟨g, o, none⟩) zs.length cap] 29)) (by kernel_rfl) ?_
                    change wpAnyH _ _ _ _ _ _ _ _ (World.drew _)
                    refine wpAnyH_take (i := 0) (v := .pointer (some ⟨b0, 0, none⟩)) rfl (by kernel_rfl) (by kernel_rfl) (by kernel_rfl) (fun _ _ _ h => h) (Or.inl ⟨by kernel_rfl, fun w9 h9 => ?_⟩) HSB.out ?_
                    · go_simp
                    refine wpAnyH_take (i := 1) (v := .int .i64 z.kind) rfl (by kernel_rfl) (by kernel_rfl) (by kernel_rfl) (fun _ _ _ h => h) (Or.inl ⟨by kernel_rfl, fun w9 h9 => ?_⟩) HSB.out ?_
                    · obtain ⟨hlg, hbx⟩ := h9; have k0 := hlg.cel 0 _ rfl; have k1 := hlg.cel 1 _ rfl; have k2 := hlg.cel 2 _ rfl; have x2 := hbx.cel 2 _ rfl; go_simp
                    refine wpAnyH_take (i := 2) (v := .bool true) rfl (by kernel_rfl) (by kernel_rfl) (by kernel_rfl) (fun _ _ _ h => h) (Or.inl ⟨by kernel_rfl, fun w9 h9 => ?_⟩) HSB.out ?_
                    · go_simp; all_goals omega
                    refine wpAnyH_take (i := 3) (v := .bool true) rfl (by kernel_rfl) (by kernel_rfl) (by kernel_rfl) (fun _ _ _ h => h) (Or.inl ⟨by kernel_rfl, fun w9 h9 => ?_⟩) HSB.out ?_
                    · go_simp
                    refine wpAnyH_take (i := 4) (v := undef) rfl (by kernel_rfl) (by kernel_rfl) (by kernel_rfl) (fun _ _ _ h => h) (Or.inr ⟨by kernel_rfl, rfl⟩) HSB.out ?_
                    refine wpAnyH_take (i := 5) (v := undef) rfl (by kernel_rfl) (by kernel_rfl) (by kernel_rfl) (fun _ _ _ h => h) (Or.inr ⟨by kernel_rfl, rfl⟩) HSB.out ?_
                    refine wpAnyH_take (i := 6) (v := undef) rfl (by kernel_rfl) (by kernel_rfl) (by kernel_rfl) (fun _ _ _ h => h) (Or.inr ⟨by kernel_rfl, rfl⟩) HSB.out ?_
                    refine wpAnyH_take (i := 7) (v := .bool true) rfl (by kernel_rfl) (by kernel_rfl) (by kernel_rfl) (fun _ _ _ h => h) (Or.inl ⟨by kernel_rfl, fun w9 h9 => ?_⟩) HSB.out ?_
                    · go_simp
                    refine wpAnyH_take (i := 8) (v := .bool true) rfl (by kernel_rfl) (by kernel_rfl) (by kernel_rfl) (fun _ _ _ h => h) (Or.inl ⟨by kernel_rfl, fun w9 h9 => ?_⟩) HSB.out ?_
                    · go_simp
                    refine wpAnyH_take (i := 9) (v := undef) rfl (by kernel_rfl) (by kernel_rfl) (by kernel_rfl) (fun _ _ _ h => h) (Or.inr ⟨by kernel_rfl, rfl⟩) HSB.out ?_
                    refine wpAnyH_take (i := 10) (v := undef) rfl (by kernel_rfl) (by kernel_rfl) (by kernel_rfl) (fun _ _ _ h => h) (Or.inr ⟨by kernel_rfl, rfl⟩) HSB.out ?_
                    refine wpAnyH_take (i := 11) (v := undef) rfl (by kernel_rfl) (by kernel_rfl) (by kernel_rfl) (fun _ _ _ h => h) (Or.inr ⟨by kernel_rfl, rfl⟩) HSB.out ?_
                    refine wpAnyH_take (i := 12) (v := .bool true) rfl (by kernel_rfl) (by kernel_rfl) (by kernel_rfl) (fun _ _ _ h => h) (Or.inl ⟨by kernel_rfl, fun w9 h9 => ?_⟩) HSB.out ?_
                    · go_simp
                    refine wpAnyH_take (i := 13) (v := .bool true) rfl (by kernel_rfl) (by kernel_rfl) (by kernel_rfl) (fun _ _ _ h => h) (Or.inl ⟨by kernel_rfl, fun w9 h9 => ?_⟩) HSB.out ?_
                    · go_simp
                    refine wpAnyH_take (i := 14) (v := undef) rfl (by kernel_rfl) (by kernel_rfl) (by kernel_rfl) (fun _ _ _ h => h) (Or.inr ⟨by kernel_rfl, rfl⟩) HSB.out ?_
                    refine wpAnyH_take (i := 15) (v := undef) rfl (by kernel_rfl) (by kernel_rfl) (by kernel_rfl) (fun _ _ _ h => h) (Or.inr ⟨by kernel_rfl, rfl⟩) HSB.out ?_
                    refine wpAnyH_take (i := 16) (v := undef) rfl (by kernel_rfl) (by kernel_rfl) (by kernel_rfl) (fun _ _ _ h => h) (Or.inr ⟨by kernel_rfl, rfl⟩) HSB.out ?_
                    refine wpAnyH_take (i := 17) (v := .bool true) rfl (by kernel_rfl) (by kernel_rfl) (by kernel_rfl) (fun _ _ _ h => h) (Or.inl ⟨by kernel_rfl, fun w9 h9 => ?_⟩) HSB.out ?_
                    · go_simp
                    refine wpAnyH_take (i := 18) (v := .bool true) rfl (by kernel_rfl) (by kernel_rfl) (by kernel_rfl) (fun _ _ _ h => h) (Or.inl ⟨by kernel_rfl, fun w9 h9 => ?_⟩) HSB.out ?_
                    · go_simp
                    refine wpAnyH_take (i := 19) (v := undef) rfl (by kernel_rfl) (by kernel_rfl) (by kernel_rfl) (fun _ _ _ h => h) (Or.inr ⟨by kernel_rfl, rfl⟩) HSB.out ?_
                    refine wpAnyH_take (i := 20) (v := undef) rfl (by kernel_rfl) (by kernel_rfl) (by kernel_rfl) (fun _ _ _ h => h) (Or.inr ⟨by kernel_rfl, rfl⟩) HSB.out ?_
                    refine wpAnyH_take (i := 21) (v := undef) rfl (by kernel_rfl) (by kernel_rfl) (by kernel_rfl) (fun _ _ _ h => h) (Or.inr ⟨by kernel_rfl, rfl⟩) HSB.out ?_
                    refine wpAnyH_take (i := 22) (v := .bool true) rfl (by kernel_rfl) (by kernel_rfl) (by kernel_rfl) (fun _ _ _ h => h) (Or.inl ⟨by kernel_rfl, fun w9 h9 => ?_⟩) HSB.out ?_
                    · go_simp
                    refine wpAnyH_take (i := 23) (v := .bool true) rfl (by kernel_rfl) (by kernel_rfl) (by kernel_rfl) (fun _ _ _ h => h) (Or.inl ⟨by kernel_rfl, fun w9 h9 => ?_⟩) HSB.out ?_
                    · go_simp
                    refine wpAnyH_take (i := 24) (v := undef) rfl (by kernel_rfl) (by kernel_rfl) (by kernel_rfl) (fun _ _ _ h => h) (Or.inr ⟨by kernel_rfl, rfl⟩) HSB.out ?_
                    refine wpAnyH_take (i := 25) (v := undef) rfl (by kernel_rfl) (by kernel_rfl) (by kernel_rfl) (fun _ _ _ h => h) (Or.inr ⟨by kernel_rfl, rfl⟩) HSB.out ?_
                    refine wpAnyH_take (i := 26) (v := undef) rfl (by kernel_rfl) (by kernel_rfl) (by kernel_rfl) (fun _ _ _ h => h) (Or.inr ⟨by kernel_rfl, rfl⟩) HSB.out ?_
                    refine wpAnyH_take (i := 27) (v := .bool true) rfl (by kernel_rfl) (by kernel_rfl) (by kernel_rfl) (fun _ _ _ h => h) (Or.inl ⟨by kernel_rfl, fun w9 h9 => ?_⟩) HSB.out ?_
                    · go_simp
                    refine wpAnyH_take (i := 28) (v := .bool true) rfl (by kernel_rfl) (by kernel_rfl) (by kernel_rfl) (fun _ _ _ h => h) (Or.inl ⟨by kernel_rfl, fun w9 h9 => ?_⟩) HSB.out ?_
                    · go_simp
                    refine wpAnyH_take (i := 29) (v := undef) rfl (by kernel_rfl) (by kernel_rfl) (by kernel_rfl) (fun _ _ _ h => h) (Or.inr ⟨by kernel_rfl, rfl⟩) HSB.out ?_
                    refine wpAnyH_take (i := 30) (v := undef) rfl (by kernel_rfl) (by kernel_rfl) (by kernel_rfl) (fun _ _ _ h => h) (Or.inr ⟨by kernel_rfl, rfl⟩) HSB.out ?_
                    refine wpAnyH_take (i := 31) (v := undef) rfl (by kernel_rfl) (by kernel_rfl) (by kernel_rfl) (fun _ _ _ h => h) (Or.inr ⟨by kernel_rfl, rfl⟩) HSB.out ?_
                    refine wpAnyH_take (i := 32) (v := undef) rfl (by kernel_rfl) (by kernel_rfl) (by kernel_rfl) (fun _ _ _ h => h) (Or.inr ⟨by kernel_rfl, rfl⟩) HSB.out ?_
                    refine wpAnyH_take (i := 33) (v := undef) rfl (by kernel_rfl) (by kernel_rfl) (by kernel_rfl) (fun _ _ _ h => h) (Or.inr ⟨by kernel_rfl, rfl⟩) HSB.out ?_
                    refine wpAnyH_take (i := 34) (v := undef) rfl (by kernel_rfl) (by kernel_rfl) (by kernel_rfl) (fun _ _ _ h => h) (Or.inr ⟨by kernel_rfl, rfl⟩) HSB.out ?_
                    refine wpAnyH_take (i := 35) (v := undef) rfl (by kernel_rfl) (by kernel_rfl) (by kernel_rfl) (fun _ _ _ h => h) (Or.inr ⟨by kernel_rfl, rfl⟩) HSB.out ?_
                    refine wpAnyH_take (i := 36) (v := undef) rfl (by kernel_rfl) (by kernel_rfl) (by kernel_rfl) (fun _ _ _ h => h) (Or.inr ⟨by kernel_rfl, rfl⟩) HSB.out ?_
                    refine wpAnyH_take (i := 37) (v := undef) rfl (by kernel_rfl) (by kernel_rfl) (by kernel_rfl) (fun _ _ _ h => h) (Or.inr ⟨by kernel_rfl, rfl⟩) HSB.out ?_
                    refine wpAnyH_take (i := 38) (v := undef) rfl (by kernel_rfl) (by kernel_rfl) (by kernel_rfl) (fun _ _ _ h => h) (Or.inr ⟨by kernel_rfl, rfl⟩) HSB.out ?_
                    refine wpAnyH_take (i := 39) (v := undef) rfl (by kernel_rfl) (by kernel_rfl) (by kernel_rfl) (fun _ _ _ h => h) (Or.inr ⟨by kernel_rfl, rfl⟩) HSB.out ?_
                    refine wpAnyH_take (i := 40) (v := undef) rfl (by kernel_rfl) (by kernel_rfl) (by kernel_rfl) (fun _ _ _ h => h) (Or.inr ⟨by kernel_rfl, rfl⟩) HSB.out ?_
                    refine wpAnyH_take (i := 41) (v := undef) rfl (by kernel_rfl) (by kernel_rfl) (by kernel_rfl) (fun _ _ _ h => h) (Or.inr ⟨by kernel_rfl, rfl⟩) HSB.out ?_
                    refine wpAnyH_take (i := 42) (v := undef) rfl (by kernel_rfl) (by kernel_rfl) (by kernel_rfl) (fun _ _ _ h => h) (Or.inr ⟨by kernel_rfl, rfl⟩) HSB.out ?_
                    refine wpAnyH_take (i := 43) (v := .bool true) rfl (by kernel_rfl) (by kernel_rfl) (by kernel_rfl) (fun _ _ _ h => h) (Or.inl ⟨by kernel_rfl, fun w9 h9 => ?_⟩) HSB.out ?_
                    · go_simp
                    refine wpAnyH_done (by kernel_rfl) ?_ _
                    go_simp
                    go_wp2
                    go_ret
                    exact ⟨ret_int E2.out.symm, hbb ▸ HSB.out.1.bel⟩
                | j + 1, hlt, hk, hk0, hk1, HALL, HS, HBAD =>
                  obtain ⟨d0, d1, d2⟩ := hc.below HB.out hg (j + 1) hlt
                  obtain ⟨_, y0, _⟩ := hc.below HB.out hg j (by omega)
                  have HEK : Hid (dvk zs (j + 1) = (dvB zs[j + 1] && decide (zs[j].port < zs[j + 1].port))) := dvk_s hlt
                  generalize zs[j] = y at *
                  have hj1 : ((j + 1 : Nat) : Int) - 1 = (j : Int) := by omega
                  have hj2 : (j : Int) < (zs.length : Int) := by omega
                  have hj3 : (0 : Int) ≤ (j : Int) := by omega
                  have hj4 : decide ((0 : Int) < ((j + 1 : Nat) : Int)) = true := decide_eq_true (by omega)
                  have hj5 : IntKind.i64.wrap (j : Int) = (j : Int) := by rw [IntKind.wrap_i64]; omega
                  generalize zs[(j + 1)] = z at *
                  have HLN : Hid (LG w (wr.alloc (.cells #[.int .i64 z.kind, .int .i64 z.port, .int .i64 z.line] 49)) wr.heap.size #[.int .i64 z.kind, .int .i64 z.port, .int .i64 z.line] 49) := ⟨HB.out.trans ((bx1 wr _).mono HB.out.size), heap_new _ _, HB.out.size⟩
                  clear hc
                  have HE : Hid (dvB z = (decide (1 ≤ z.kind) && decide (z.kind ≤ 255) && decide (0 ≤ z.port) && decide (z.port ≤ 2047) && decide (0 ≤ z.line) && decide (z.line < 7))) := rfl
                  generalize dvB z = V at *
                  have HX2 : Hid (LG w (wr.alloc (.cells #[.int .i64 z.kind, .int .i64 z.port, .int .i64 z.line] 49)) bb #[.int .i64 f, .int .i64 c, .slice (some ⟨g, o, none⟩) zs.length cap] 29) := HX.out.step (bx1 _ _)
                  clear E E0 HR HB
                  cases q0 : decide (z.kind < 1)
                  · skip
                    cases q1 : decide (255 < z.kind)
                    · skip
                      cases q2 : decide (z.port < 0)
                      · skip
                        cases q3 : decide (2047 < z.port)
                        · skip
                          cases q4 : decide (z.line < 0)
                          · skip
                            cases q5 : decide (6 < z.line)
                            · skip
                              cases q6 : decide (z.port ≤ y.port)
                              · skip
                                have E2 : Hid (allD (dvk zs) (j + 1 + 1) = true) := (show allD (dvk zs) (j + 1 + 1) = true by rw [HS.out, HALL.out, HEK.out, HE.out]; have r0 := of_decide_eq_false q0; have r1 := of_decide_eq_false q1; have r2 := of_decide_eq_false q2; have r3 := of_decide_eq_false q3; have r4 := of_decide_eq_false q4; have r5 := of_decide_eq_false q5; have r6 := of_decide_eq_false q6; simp; try omega)
                                clear HE HEK HBAD HS
                                go_upto_region 7 with fail
                                have y1 : (wr.alloc (.cells #[.int .i64 z.kind, .int .i64 z.port, .int .i64 z.line] 49)).cell? ⟨g, o + j * 3 + 1, none⟩ = _ := ((bx1 wr (.cells #[.int .i64 z.kind, .int .i64 z.port, .int .i64 z.line] 49)).cell (p := ⟨g, o + j * 3 + 1, none⟩) hgw).trans y0
                                have gl : g < (wr.alloc (.cells #[.int .i64 z.kind, .int .i64 z.port, .int .i64 z.line] 49)).heap.size := Nat.lt_of_lt_of_le hgw (bx1 wr (.cells #[.int .i64 z.kind, .int .i64 z.port, .int .i64 z.line] 49)).size
                                clear d0 d1 d2 c2 cl HX
                                clear y0
                                generalize (wr.alloc (.cells #[.int .i64 z.kind, .int .i64 z.port, .int .i64 z.line] 49)) = u0 at *
                                generalize wr.heap.size = b0 at *
                                have HSB : Hid ((fun w' => (LG w w' b0 #[.int .i64 z.kind, .int .i64 z.port, .int .i64 z.line] 49) ∧ (LG w w' bb #[.int .i64 f, .int .i64 c, .slice (some ⟨g, o, none⟩) zs.length cap] 29) ∧ w'.cell? ⟨g, o + j * 3 + 1, none⟩ = some (.int .i64 y.port) ∧ g < w'.heap.size) u0.drew) := ⟨HLN.out.drew, HX2.out.drew, y1, gl⟩
                                refine wp_region_held (S := fun w' => (LG w w' b0 #[.int .i64 z.kind, .int .i64 z.port, .int .i64 z.line] 49) ∧ (LG w w' bb #[.int .i64 f, .int .i64 c, .slice (some ⟨g, o, none⟩) zs.length cap] 29) ∧ w'.cell? ⟨g, o + j * 3 + 1, none⟩ = some (.int .i64 y.port) ∧ g < w'.heap.size) (by kernel_rfl) ?_
                                change wpAnyH _ _ _ _ _ _ _ _ (World.drew _)
                                refine wpAnyH_take (i := 0) (v := .pointer (some ⟨b0, 0, none⟩)) rfl (by kernel_rfl) (by kernel_rfl) (by kernel_rfl) (fun _ _ _ h => h) (Or.inl ⟨by kernel_rfl, fun w9 h9 => ?_⟩) HSB.out ?_
                                · go_simp
                                refine wpAnyH_take (i := 1) (v := .int .i64 z.kind) rfl (by kernel_rfl) (by kernel_rfl) (by kernel_rfl) (fun _ _ _ h => h) (Or.inl ⟨by kernel_rfl, fun w9 h9 => ?_⟩) HSB.out ?_
                                · obtain ⟨hlg, hbx, y2, _⟩ := h9; have k0 := hlg.cel 0 _ rfl; have k1 := hlg.cel 1 _ rfl; have k2 := hlg.cel 2 _ rfl; have x2 := hbx.cel 2 _ rfl; go_simp
                                refine wpAnyH_take (i := 2) (v := .bool false) rfl (by kernel_rfl) (by kernel_rfl) (by kernel_rfl) (fun _ _ _ h => h) (Or.inl ⟨by kernel_rfl, fun w9 h9 => ?_⟩) HSB.out ?_
                                · go_simp; all_goals omega
                                refine wpAnyH_take (i := 3) (v := .bool false) rfl (by kernel_rfl) (by kernel_rfl) (by kernel_rfl) (fun _ _ _ h => h) (Or.inl ⟨by kernel_rfl, fun w9 h9 => ?_⟩) HSB.out ?_
                                · go_simp
                                refine wpAnyH_take (i := 4) (v := .pointer (some ⟨b0, 0, none⟩)) rfl (by kernel_rfl) (by kernel_rfl) (by kernel_rfl) (fun _ _ _ h => h) (Or.inl ⟨by kernel_rfl, fun w9 h9 => ?_⟩) HSB.out ?_
                                · go_simp
                                refine wpAnyH_take (i := 5) (v := .int .i64 z.kind) rfl (by kernel_rfl) (by kernel_rfl) (by kernel_rfl) (fun _ _ _ h => h) (Or.inl ⟨by kernel_rfl, fun w9 h9 => ?_⟩) HSB.out ?_
                                · obtain ⟨hlg, hbx, y2, _⟩ := h9; have k0 := hlg.cel 0 _ rfl; have k1 := hlg.cel 1 _ rfl; have k2 := hlg.cel 2 _ rfl; have x2 := hbx.cel 2 _ rfl; go_simp
                                refine wpAnyH_take (i := 6) (v := .bool false) rfl (by kernel_rfl) (by kernel_rfl) (by kernel_rfl) (fun _ _ _ h => h) (Or.inl ⟨by kernel_rfl, fun w9 h9 => ?_⟩) HSB.out ?_
                                · go_simp; all_goals omega
                                refine wpAnyH_take (i := 7) (v := .bool false) rfl (by kernel_rfl) (by kernel_rfl) (by kernel_rfl) (fun _ _ _ h => h) (Or.inl ⟨by kernel_rfl, fun w9 h9 => ?_⟩) HSB.out ?_
                                · go_simp
                                refine wpAnyH_take (i := 8) (v := .bool false) rfl (by kernel_rfl) (by kernel_rfl) (by kernel_rfl) (fun _ _ _ h => h) (Or.inl ⟨by kernel_rfl, fun w9 h9 => ?_⟩) HSB.out ?_
                                · go_simp
                                refine wpAnyH_take (i := 9) (v := .pointer (some ⟨b0, 1, none⟩)) rfl (by kernel_rfl) (by kernel_rfl) (by kernel_rfl) (fun _ _ _ h => h) (Or.inl ⟨by kernel_rfl, fun w9 h9 => ?_⟩) HSB.out ?_
                                · go_simp
                                refine wpAnyH_take (i := 10) (v := .int .i64 z.port) rfl (by kernel_rfl) (by kernel_rfl) (by kernel_rfl) (fun _ _ _ h => h) (Or.inl ⟨by kernel_rfl, fun w9 h9 => ?_⟩) HSB.out ?_
                                · obtain ⟨hlg, hbx, y2, _⟩ := h9; have k0 := hlg.cel 0 _ rfl; have k1 := hlg.cel 1 _ rfl; have k2 := hlg.cel 2 _ rfl; have x2 := hbx.cel 2 _ rfl; go_simp
                                refine wpAnyH_take (i := 11) (v := .bool false) rfl (by kernel_rfl) (by kernel_rfl) (by kernel_rfl) (fun _ _ _ h => h) (Or.inl ⟨by kernel_rfl, fun w9 h9 => ?_⟩) HSB.out ?_
                                · go_simp; all_goals omega
                                refine wpAnyH_take (i := 12) (v := .bool false) rfl (by kernel_rfl) (by kernel_rfl) (by kernel_rfl) (fun _ _ _ h => h) (Or.inl ⟨by kernel_rfl, fun w9 h9 => ?_⟩) HSB.out ?_
                                · go_simp
                                refine wpAnyH_take (i := 13) (v := .bool false) rfl (by kernel_rfl) (by kernel_rfl) (by kernel_rfl) (fun _ _ _ h => h) (Or.inl ⟨by kernel_rfl, fun w9 h9 => ?_⟩) HSB.out ?_
                                · go_simp
                                refine wpAnyH_take (i := 14) (v := .pointer (some ⟨b0, 1, none⟩)) rfl (by kernel_rfl) (by kernel_rfl) (by kernel_rfl) (fun _ _ _ h => h) (Or.inl ⟨by kernel_rfl, fun w9 h9 => ?_⟩) HSB.out ?_
                                · go_simp
                                refine wpAnyH_take (i := 15) (v := .int .i64 z.port) rfl (by kernel_rfl) (by kernel_rfl) (by kernel_rfl) (fun _ _ _ h => h) (Or.inl ⟨by kernel_rfl, fun w9 h9 => ?_⟩) HSB.out ?_
                                · obtain ⟨hlg, hbx, y2, _⟩ := h9; have k0 := hlg.cel 0 _ rfl; have k1 := hlg.cel 1 _ rfl; have k2 := hlg.cel 2 _ rfl; have x2 := hbx.cel 2 _ rfl; go_simp
                                refine wpAnyH_take (i := 16) (v := .bool false) rfl (by kernel_rfl) (by kernel_rfl) (by kernel_rfl) (fun _ _ _ h => h) (Or.inl ⟨by kernel_rfl, fun w9 h9 => ?_⟩) HSB.out ?_
                                · go_simp; all_goals omega
                                refine wpAnyH_take (i := 17) (v := .bool false) rfl (by kernel_rfl) (by kernel_rfl) (by kernel_rfl) (fun _ _ _ h => h) (Or.inl ⟨by kernel_rfl, fun w9 h9 => ?_⟩) HSB.out ?_
                                · go_simp
                                refine wpAnyH_take (i := 18) (v := .bool false) rfl (by kernel_rfl) (by kernel_rfl) (by kernel_rfl) (fun _ _ _ h => h) (Or.inl ⟨by kernel_rfl, fun w9 h9 => ?_⟩) HSB.out ?_
                                · go_simp
                                refine wpAnyH_take (i := 19) (v := .pointer (some ⟨b0, 2, none⟩)) rfl (by kernel_rfl) (by kernel_rfl) (by kernel_rfl) (fun _ _ _ h => h) (Or.inl ⟨by kernel_rfl, fun w9 h9 => ?_⟩) HSB.out ?_
                                · go_simp
                                refine wpAnyH_take (i := 20) (v := .int .i64 z.line) rfl (by kernel_rfl) (by kernel_rfl) (by kernel_rfl) (fun _ _ _ h => h) (Or.inl ⟨by kernel_rfl, fun w9 h9 => ?_⟩) HSB.out ?_
                                · obtain ⟨hlg, hbx, y2, _⟩ := h9; have k0 := hlg.cel 0 _ rfl; have k1 := hlg.cel 1 _ rfl; have k2 := hlg.cel 2 _ rfl; have x2 := hbx.cel 2 _ rfl; go_simp
                                refine wpAnyH_take (i := 21) (v := .bool false) rfl (by kernel_rfl) (by kernel_rfl) (by kernel_rfl) (fun _ _ _ h => h) (Or.inl ⟨by kernel_rfl, fun w9 h9 => ?_⟩) HSB.out ?_
                                · go_simp; all_goals omega
                                refine wpAnyH_take (i := 22) (v := .bool false) rfl (by kernel_rfl) (by kernel_rfl) (by kernel_rfl) (fun _ _ _ h => h) (Or.inl ⟨by kernel_rfl, fun w9 h9 => ?_⟩) HSB.out ?_
                                · go_simp
                                refine wpAnyH_take (i := 23) (v := .bool false) rfl (by kernel_rfl) (by kernel_rfl) (by kernel_rfl) (fun _ _ _ h => h) (Or.inl ⟨by kernel_rfl, fun w9 h9 => ?_⟩) HSB.out ?_
                                · go_simp
                                refine wpAnyH_take (i := 24) (v := .pointer (some ⟨b0, 2, none⟩)) rfl (by kernel_rfl) (by kernel_rfl) (by kernel_rfl) (fun _ _ _ h => h) (Or.inl ⟨by kernel_rfl, fun w9 h9 => ?_⟩) HSB.out ?_
                                · go_simp
                                refine wpAnyH_take (i := 25) (v := .int .i64 z.line) rfl (by kernel_rfl) (by kernel_rfl) (by kernel_rfl) (fun _ _ _ h => h) (Or.inl ⟨by kernel_rfl, fun w9 h9 => ?_⟩) HSB.out ?_
                                · obtain ⟨hlg, hbx, y2, _⟩ := h9; have k0 := hlg.cel 0 _ rfl; have k1 := hlg.cel 1 _ rfl; have k2 := hlg.cel 2 _ rfl; have x2 := hbx.cel 2 _ rfl; go_simp
                                refine wpAnyH_take (i := 26) (v := .bool false) rfl (by kernel_rfl) (by kernel_rfl) (by kernel_rfl) (fun _ _ _ h => h) (Or.inl ⟨by kernel_rfl, fun w9 h9 => ?_⟩) HSB.out ?_
                                · go_simp; all_goals omega
                                refine wpAnyH_take (i := 27) (v := .bool false) rfl (by kernel_rfl) (by kernel_rfl) (by kernel_rfl) (fun _ _ _ h => h) (Or.inl ⟨by kernel_rfl, fun w9 h9 => ?_⟩) HSB.out ?_
                                · go_simp
                                refine wpAnyH_take (i := 28) (v := .bool false) rfl (by kernel_rfl) (by kernel_rfl) (by kernel_rfl) (fun _ _ _ h => h) (Or.inl ⟨by kernel_rfl, fun w9 h9 => ?_⟩) HSB.out ?_
                                · go_simp
                                refine wpAnyH_take (i := 29) (v := .int .i64 ((j + 1 : Nat) : Int)) rfl (by kernel_rfl) (by kernel_rfl) (by kernel_rfl) (fun _ _ _ h => h) (Or.inl ⟨by kernel_rfl, fun w9 h9 => ?_⟩) HSB.out ?_
                                · go_simp
                                refine wpAnyH_take (i := 30) (v := .bool true) rfl (by kernel_rfl) (by kernel_rfl) (by kernel_rfl) (fun _ _ _ h => h) (Or.inl ⟨by kernel_rfl, fun w9 h9 => ?_⟩) HSB.out ?_
                                · go_simp; all_goals omega
                                refine wpAnyH_take (i := 31) (v := .bool true) rfl (by kernel_rfl) (by kernel_rfl) (by kernel_rfl) (fun _ _ _ h => h) (Or.inl ⟨by kernel_rfl, fun w9 h9 => ?_⟩) HSB.out ?_
                                · go_simp
                                refine wpAnyH_take (i := 32) (v := .pointer (some ⟨bb, 2, none⟩)) rfl (by kernel_rfl) (by kernel_rfl) (by kernel_rfl) (fun _ _ _ h => h) (Or.inl ⟨by kernel_rfl, fun w9 h9 => ?_⟩) HSB.out ?_
                                · go_simp
                                refine wpAnyH_take (i := 33) (v := .slice (some ⟨g, o, none⟩) zs.length cap) rfl (by kernel_rfl) (by kernel_rfl) (by kernel_rfl) (fun _ _ _ h => h) (Or.inl ⟨by kernel_rfl, fun w9 h9 => ?_⟩) HSB.out ?_
                                · obtain ⟨hlg, hbx, y2, _⟩ := h9; have k0 := hlg.cel 0 _ rfl; have k1 := hlg.cel 1 _ rfl; have k2 := hlg.cel 2 _ rfl; have x2 := hbx.cel 2 _ rfl; go_simp
                                refine wpAnyH_take (i := 34) (v := .int .i64 ((j + 1 : Nat) : Int)) rfl (by kernel_rfl) (by kernel_rfl) (by kernel_rfl) (fun _ _ _ h => h) (Or.inl ⟨by kernel_rfl, fun w9 h9 => ?_⟩) HSB.out ?_
                                · go_simp
                                refine wpAnyH_take (i := 35) (v := .int .i64 (j : Int)) rfl (by kernel_rfl) (by kernel_rfl) (by kernel_rfl) (fun _ _ _ h => h) (Or.inl ⟨by kernel_rfl, fun w9 h9 => ?_⟩) HSB.out ?_
                                · go_simp
                                refine wpAnyH_take (i := 36) (v := .pointer (some ⟨g, o + j * 3, none⟩)) rfl (by kernel_rfl) (by kernel_rfl) (by kernel_rfl) (fun _ _ _ h => h) (Or.inl ⟨by kernel_rfl, fun w9 h9 => ?_⟩) HSB.out ?_
                                · go_simp
                                refine wpAnyH_take (i := 37) (v := .pointer (some ⟨g, o + j * 3 + 1, none⟩)) rfl (by kernel_rfl) (by kernel_rfl) (by kernel_rfl) (fun _ _ _ h => h) (Or.inl ⟨by kernel_rfl, fun w9 h9 => ?_⟩) HSB.out ?_
                                · go_simp
                                refine wpAnyH_take (i := 38) (v := .int .i64 y.port) rfl (by kernel_rfl) (by kernel_rfl) (by kernel_rfl) (fun _ _ _ h => h) (Or.inl ⟨by kernel_rfl, fun w9 h9 => ?_⟩) HSB.out ?_
                                · obtain ⟨hlg, hbx, y2, _⟩ := h9; have k0 := hlg.cel 0 _ rfl; have k1 := hlg.cel 1 _ rfl; have k2 := hlg.cel 2 _ rfl; have x2 := hbx.cel 2 _ rfl; go_simp
                                refine wpAnyH_take (i := 39) (v := .pointer (some ⟨b0, 1, none⟩)) rfl (by kernel_rfl) (by kernel_rfl) (by kernel_rfl) (fun _ _ _ h => h) (Or.inl ⟨by kernel_rfl, fun w9 h9 => ?_⟩) HSB.out ?_
                                · go_simp
                                refine wpAnyH_take (i := 40) (v := .int .i64 z.port) rfl (by kernel_rfl) (by kernel_rfl) (by kernel_rfl) (fun _ _ _ h => h) (Or.inl ⟨by kernel_rfl, fun w9 h9 => ?_⟩) HSB.out ?_
                                · obtain ⟨hlg, hbx, y2, _⟩ := h9; have k0 := hlg.cel 0 _ rfl; have k1 := hlg.cel 1 _ rfl; have k2 := hlg.cel 2 _ rfl; have x2 := hbx.cel 2 _ rfl; go_simp
                                refine wpAnyH_take (i := 41) (v := .bool false) rfl (by kernel_rfl) (by kernel_rfl) (by kernel_rfl) (fun _ _ _ h => h) (Or.inl ⟨by kernel_rfl, fun w9 h9 => ?_⟩) HSB.out ?_
                                · go_simp; all_goals omega
                                refine wpAnyH_take (i := 42) (v := .bool false) rfl (by kernel_rfl) (by kernel_rfl) (by kernel_rfl) (fun _ _ _ h => h) (Or.inl ⟨by kernel_rfl, fun w9 h9 => ?_⟩) HSB.out ?_
                                · go_simp
                                refine wpAnyH_take (i := 43) (v := .bool false) rfl (by kernel_rfl) (by kernel_rfl) (by kernel_rfl) (fun _ _ _ h => h) (Or.inl ⟨by kernel_rfl, fun w9 h9 => ?_⟩) HSB.out ?_
                                · go_simp
                                refine wpAnyH_done (by kernel_rfl) ?_ _
                                go_simp
                                go_wp2
                                exact ⟨⟨j + 1 + 1, hlt, by go_num, E2.out, HSB.out.2.1⟩, by simp [intOf]; omega⟩
                              · skip
                                have E2 : Hid (bfV f c zs = 1) := HBAD.out (HEK.out.trans (by rw [HE.out]; have r0 := of_decide_eq_false q0; have r1 := of_decide_eq_false q1; have r2 := of_decide_eq_false q2; have r3 := of_decide_eq_false q3; have r4 := of_decide_eq_false q4; have r5 := of_decide_eq_false q5; have r6 := of_decide_eq_true q6; simp; try omega))
                                clear HE HEK HBAD HS
                                go_upto_region 7 with fail
                                have y1 : (wr.alloc (.cells #[.int .i64 z.kind, .int .i64 z.port, .int .i64 z.line] 49)).cell? ⟨g, o + j * 3 + 1, none⟩ = _ := ((bx1 wr (.cells #[.int .i64 z.kind, .int .i64 z.port, .int .i64 z.line] 49)).cell (p := ⟨g, o + j * 3 + 1, none⟩) hgw).trans y0
                                have gl : g < (wr.alloc (.cells #[.int .i64 z.kind, .int .i64 z.port, .int .i64 z.line] 49)).heap.size := Nat.lt_of_lt_of_le hgw (bx1 wr (.cells #[.int .i64 z.kind, .int .i64 z.port, .int .i64 z.line] 49)).size
                                clear d0 d1 d2 c2 cl HX
                                clear y0
                                generalize (wr.alloc (.cells #[.int .i64 z.kind, .int .i64 z.port, .int .i64 z.line] 49)) = u0 at *
                                generalize wr.heap.size = b0 at *
                                have HSB : Hid ((fun w' => (LG w w' b0 #[.int .i64 z.kind, .int .i64 z.port, .int .i64 z.line] 49) ∧ (LG w w' bb #[.int .i64 f, .int .i64 c, .slice (some ⟨g, o, none⟩) zs.length cap] 29) ∧ w'.cell? ⟨g, o + j * 3 + 1, none⟩ = some (.int .i64 y.port) ∧ g < w'.heap.size) u0.drew) := ⟨HLN.out.drew, HX2.out.drew, y1, gl⟩
                                refine wp_region_held (S := fun w' => (LG w w' b0 #[.int .i64 z.kind, .int .i64 z.port, .int .i64 z.line] 49) ∧ (LG w w' bb #[.int .i64 f, .int .i64 c, .slice (some ⟨g, o, none⟩) zs.length cap] 29) ∧ w'.cell? ⟨g, o + j * 3 + 1, none⟩ = some (.int .i64 y.port) ∧ g < w'.heap.size) (by kernel_rfl) ?_
                                change wpAnyH _ _ _ _ _ _ _ _ (World.drew _)
                                refine wpAnyH_take (i := 0) (v := .pointer (some ⟨b0, 0, none⟩)) rfl (by kernel_rfl) (by kernel_rfl) (by kernel_rfl) (fun _ _ _ h => h) (Or.inl ⟨by kernel_rfl, fun w9 h9 => ?_⟩) HSB.out ?_
                                · go_simp
                                refine wpAnyH_take (i := 1) (v := .int .i64 z.kind) rfl (by kernel_rfl) (by kernel_rfl) (by kernel_rfl) (fun _ _ _ h => h) (Or.inl ⟨by kernel_rfl, fun w9 h9 => ?_⟩) HSB.out ?_
                                · obtain ⟨hlg, hbx, y2, _⟩ := h9; have k0 := hlg.cel 0 _ rfl; have k1 := hlg.cel 1 _ rfl; have k2 := hlg.cel 2 _ rfl; have x2 := hbx.cel 2 _ rfl; go_simp
                                refine wpAnyH_take (i := 2) (v := .bool false) rfl (by kernel_rfl) (by kernel_rfl) (by kernel_rfl) (fun _ _ _ h => h) (Or.inl ⟨by kernel_rfl, fun w9 h9 => ?_⟩) HSB.out ?_
                                · go_simp; all_goals omega
                                refine wpAnyH_take (i := 3) (v := .bool false) rfl (by kernel_rfl) (by kernel_rfl) (by kernel_rfl) (fun _ _ _ h => h) (Or.inl ⟨by kernel_rfl, fun w9 h9 => ?_⟩) HSB.out ?_
                                · go_simp
                                refine wpAnyH_take (i := 4) (v := .pointer (some ⟨b0, 0, none⟩)) rfl (by kernel_rfl) (by kernel_rfl) (by kernel_rfl) (fun _ _ _ h => h) (Or.inl ⟨by kernel_rfl, fun w9 h9 => ?_⟩) HSB.out ?_
                                · go_simp
                                refine wpAnyH_take (i := 5) (v := .int .i64 z.kind) rfl (by kernel_rfl) (by kernel_rfl) (by kernel_rfl) (fun _ _ _ h => h) (Or.inl ⟨by kernel_rfl, fun w9 h9 => ?_⟩) HSB.out ?_
                                · obtain ⟨hlg, hbx, y2, _⟩ := h9; have k0 := hlg.cel 0 _ rfl; have k1 := hlg.cel 1 _ rfl; have k2 := hlg.cel 2 _ rfl; have x2 := hbx.cel 2 _ rfl; go_simp
                                refine wpAnyH_take (i := 6) (v := .bool false) rfl (by kernel_rfl) (by kernel_rfl) (by kernel_rfl) (fun _ _ _ h => h) (Or.inl ⟨by kernel_rfl, fun w9 h9 => ?_⟩) HSB.out ?_
                                · go_simp; all_goals omega
                                refine wpAnyH_take (i := 7) (v := .bool false) rfl (by kernel_rfl) (by kernel_rfl) (by kernel_rfl) (fun _ _ _ h => h) (Or.inl ⟨by kernel_rfl, fun w9 h9 => ?_⟩) HSB.out ?_
                                · go_simp
                                refine wpAnyH_take (i := 8) (v := .bool false) rfl (by kernel_rfl) (by kernel_rfl) (by kernel_rfl) (fun _ _ _ h => h) (Or.inl ⟨by kernel_rfl, fun w9 h9 => ?_⟩) HSB.out ?_
                                · go_simp
                                refine wpAnyH_take (i := 9) (v := .pointer (some ⟨b0, 1, none⟩)) rfl (by kernel_rfl) (by kernel_rfl) (by kernel_rfl) (fun _ _ _ h => h) (Or.inl ⟨by kernel_rfl, fun w9 h9 => ?_⟩) HSB.out ?_
                                · go_simp
                                refine wpAnyH_take (i := 10) (v := .int .i64 z.port) rfl (by kernel_rfl) (by kernel_rfl) (by kernel_rfl) (fun _ _ _ h => h) (Or.inl ⟨by kernel_rfl, fun w9 h9 => ?_⟩) HSB.out ?_
                                · obtain ⟨hlg, hbx, y2, _⟩ := h9; have k0 := hlg.cel 0 _ rfl; have k1 := hlg.cel 1 _ rfl; have k2 := hlg.cel 2 _ rfl; have x2 := hbx.cel 2 _ rfl; go_simp
                                refine wpAnyH_take (i := 11) (v := .bool false) rfl (by kernel_rfl) (by kernel_rfl) (by kernel_rfl) (fun _ _ _ h => h) (Or.inl ⟨by kernel_rfl, fun w9 h9 => ?_⟩) HSB.out ?_
                                · go_simp; all_goals omega
                                refine wpAnyH_take (i := 12) (v := .bool false) rfl (by kernel_rfl) (by kernel_rfl) (by kernel_rfl) (fun _ _ _ h => h) (Or.inl ⟨by kernel_rfl, fun w9 h9 => ?_⟩) HSB.out ?_
                                · go_simp
                                refine wpAnyH_take (i := 13) (v := .bool false) rfl (by kernel_rfl) (by kernel_rfl) (by kernel_rfl) (fun _ _ _ h => h) (Or.inl ⟨by kernel_rfl, fun w9 h9 => ?_⟩) HSB.out ?_
                                · go_simp
                                refine wpAnyH_take (i := 14) (v := .pointer (some ⟨b0, 1, none⟩)) rfl (by kernel_rfl) (by kernel_rfl) (by kernel_rfl) (fun _ _ _ h => h) (Or.inl ⟨by kernel_rfl, fun w9 h9 => ?_⟩) HSB.out ?_
                                · go_simp
                                refine wpAnyH_take (i := 15) (v := .int .i64 z.port) rfl (by kernel_rfl) (by kernel_rfl) (by kernel_rfl) (fun _ _ _ h => h) (Or.inl ⟨by kernel_rfl, fun w9 h9 => ?_⟩) HSB.out ?_
                                · obtain ⟨hlg, hbx, y2, _⟩ := h9; have k0 := hlg.cel 0 _ rfl; have k1 := hlg.cel 1 _ rfl; have k2 := hlg.cel 2 _ rfl; have x2 := hbx.cel 2 _ rfl; go_simp
                                refine wpAnyH_take (i := 16) (v := .bool false) rfl (by kernel_rfl) (by kernel_rfl) (by kernel_rfl) (fun _ _ _ h => h) (Or.inl ⟨by kernel_rfl, fun w9 h9 => ?_⟩) HSB.out ?_
                                · go_simp; all_goals omega
                                refine wpAnyH_take (i := 17) (v := .bool false) rfl (by kernel_rfl) (by kernel_rfl) (by kernel_rfl) (fun _ _ _ h => h) (Or.inl ⟨by kernel_rfl, fun w9 h9 => ?_⟩) HSB.out ?_
                                · go_simp
                                refine wpAnyH_take (i := 18) (v := .bool false) rfl (by kernel_rfl) (by kernel_rfl) (by kernel_rfl) (fun _ _ _ h => h) (Or.inl ⟨by kernel_rfl, fun w9 h9 => ?_⟩) HSB.out ?_
                                · go_simp
                                refine wpAnyH_take (i := 19) (v := .pointer (some ⟨b0, 2, none⟩)) rfl (by kernel_rfl) (by kernel_rfl) (by kernel_rfl) (fun _ _ _ h => h) (Or.inl ⟨by kernel_rfl, fun w9 h9 => ?_⟩) HSB.out ?_
                                · go_simp
                                refine wpAnyH_take (i := 20) (v := .int .i64 z.line) rfl (by kernel_rfl) (by kernel_rfl) (by kernel_rfl) (fun _ _ _ h => h) (Or.inl ⟨by kernel_rfl, fun w9 h9 => ?_⟩) HSB.out ?_
                                · obtain ⟨hlg, hbx, y2, _⟩ := h9; have k0 := hlg.cel 0 _ rfl; have k1 := hlg.cel 1 _ rfl; have k2 := hlg.cel 2 _ rfl; have x2 := hbx.cel 2 _ rfl; go_simp
                                refine wpAnyH_take (i := 21) (v := .bool false) rfl (by kernel_rfl) (by kernel_rfl) (by kernel_rfl) (fun _ _ _ h => h) (Or.inl ⟨by kernel_rfl, fun w9 h9 => ?_⟩) HSB.out ?_
                                · go_simp; all_goals omega
                                refine wpAnyH_take (i := 22) (v := .bool false) rfl (by kernel_rfl) (by kernel_rfl) (by kernel_rfl) (fun _ _ _ h => h) (Or.inl ⟨by kernel_rfl, fun w9 h9 => ?_⟩) HSB.out ?_
                                · go_simp
                                refine wpAnyH_take (i := 23) (v := .bool false) rfl (by kernel_rfl) (by kernel_rfl) (by kernel_rfl) (fun _ _ _ h => h) (Or.inl ⟨by kernel_rfl, fun w9 h9 => ?_⟩) HSB.out ?_
                                · go_simp
                                refine wpAnyH_take (i := 24) (v := .pointer (some ⟨b0, 2, none⟩)) rfl (by kernel_rfl) (by kernel_rfl) (by kernel_rfl) (fun _ _ _ h => h) (Or.inl ⟨by kernel_rfl, fun w9 h9 => ?_⟩) HSB.out ?_
                                · go_simp
                                refine wpAnyH_take (i := 25) (v := .int .i64 z.line) rfl (by kernel_rfl) (by kernel_rfl) (by kernel_rfl) (fun _ _ _ h => h) (Or.inl ⟨by kernel_rfl, fun w9 h9 => ?_⟩) HSB.out ?_
                                · obtain ⟨hlg, hbx, y2, _⟩ := h9; have k0 := hlg.cel 0 _ rfl; have k1 := hlg.cel 1 _ rfl; have k2 := hlg.cel 2 _ rfl; have x2 := hbx.cel 2 _ rfl; go_simp
                                refine wpAnyH_take (i := 26) (v := .bool false) rfl (by kernel_rfl) (by kernel_rfl) (by kernel_rfl) (fun _ _ _ h => h) (Or.inl ⟨by kernel_rfl, fun w9 h9 => ?_⟩) HSB.out ?_
                                · go_simp; all_goals omega
                                refine wpAnyH_take (i := 27) (v := .bool false) rfl (by kernel_rfl) (by kernel_rfl) (by kernel_rfl) (fun _ _ _ h => h) (Or.inl ⟨by kernel_rfl, fun w9 h9 => ?_⟩) HSB.out ?_
                                · go_simp
                                refine wpAnyH_take (i := 28) (v := .bool false) rfl (by kernel_rfl) (by kernel_rfl) (by kernel_rfl) (fun _ _ _ h => h) (Or.inl ⟨by kernel_rfl, fun w9 h9 => ?_⟩) HSB.out ?_
                                · go_simp
                                refine wpAnyH_take (i := 29) (v := .int .i64 ((j + 1 : Nat) : Int)) rfl (by kernel_rfl) (by kernel_rfl) (by kernel_rfl) (fun _ _ _ h => h) (Or.inl ⟨by kernel_rfl, fun w9 h9 => ?_⟩) HSB.out ?_
                                · go_simp
                                refine wpAnyH_take (i := 30) (v := .bool true) rfl (by kernel_rfl) (by kernel_rfl) (by kernel_rfl) (fun _ _ _ h => h) (Or.inl ⟨by kernel_rfl, fun w9 h9 => ?_⟩) HSB.out ?_
                                · go_simp; all_goals omega
                                refine wpAnyH_take (i := 31) (v := .bool true) rfl (by kernel_rfl) (by kernel_rfl) (by kernel_rfl) (fun _ _ _ h => h) (Or.inl ⟨by kernel_rfl, fun w9 h9 => ?_⟩) HSB.out ?_
                                · go_simp
                                refine wpAnyH_take (i := 32) (v := .pointer (some ⟨bb, 2, none⟩)) rfl (by kernel_rfl) (by kernel_rfl) (by kernel_rfl) (fun _ _ _ h => h) (Or.inl ⟨by kernel_rfl, fun w9 h9 => ?_⟩) HSB.out ?_
                                · go_simp
                                refine wpAnyH_take (i := 33) (v := .slice (some ⟨g, o, none⟩) zs.length cap) rfl (by kernel_rfl) (by kernel_rfl) (by kernel_rfl) (fun _ _ _ h => h) (Or.inl ⟨by kernel_rfl, fun w9 h9 => ?_⟩) HSB.out ?_
                                · obtain ⟨hlg, hbx, y2, _⟩ := h9; have k0 := hlg.cel 0 _ rfl; have k1 := hlg.cel 1 _ rfl; have k2 := hlg.cel 2 _ rfl; have x2 := hbx.cel 2 _ rfl; go_simp
                                refine wpAnyH_take (i := 34) (v := .int .i64 ((j + 1 : Nat) : Int)) rfl (by kernel_rfl) (by kernel_rfl) (by kernel_rfl) (fun _ _ _ h => h) (Or.inl ⟨by kernel_rfl, fun w9 h9 => ?_⟩) HSB.out ?_
                                · go_simp
                                refine wpAnyH_take (i := 35) (v := .int .i64 (j : Int)) rfl (by kernel_rfl) (by kernel_rfl) (by kernel_rfl) (fun _ _ _ h => h) (Or.inl ⟨by kernel_rfl, fun w9 h9 => ?_⟩) HSB.out ?_
                                · go_simp
                                refine wpAnyH_take (i := 36) (v := .pointer (some ⟨g, o + j * 3, none⟩)) rfl (by kernel_rfl) (by kernel_rfl) (by kernel_rfl) (fun _ _ _ h => h) (Or.inl ⟨by kernel_rfl, fun w9 h9 => ?_⟩) HSB.out ?_
                                · go_simp
                                refine wpAnyH_take (i := 37) (v := .pointer (some ⟨g, o + j * 3 + 1, none⟩)) rfl (by kernel_rfl) (by kernel_rfl) (by kernel_rfl) (fun _ _ _ h => h) (Or.inl ⟨by kernel_rfl, fun w9 h9 => ?_⟩) HSB.out ?_
                                · go_simp
                                refine wpAnyH_take (i := 38) (v := .int .i64 y.port) rfl (by kernel_rfl) (by kernel_rfl) (by kernel_rfl) (fun _ _ _ h => h) (Or.inl ⟨by kernel_rfl, fun w9 h9 => ?_⟩) HSB.out ?_
                                · obtain ⟨hlg, hbx, y2, _⟩ := h9; have k0 := hlg.cel 0 _ rfl; have k1 := hlg.cel 1 _ rfl; have k2 := hlg.cel 2 _ rfl; have x2 := hbx.cel 2 _ rfl; go_simp
                                refine wpAnyH_take (i := 39) (v := .pointer (some ⟨b0, 1, none⟩)) rfl (by kernel_rfl) (by kernel_rfl) (by kernel_rfl) (fun _ _ _ h => h) (Or.inl ⟨by kernel_rfl, fun w9 h9 => ?_⟩) HSB.out ?_
                                · go_simp
                                refine wpAnyH_take (i := 40) (v := .int .i64 z.port) rfl (by kernel_rfl) (by kernel_rfl) (by kernel_rfl) (fun _ _ _ h => h) (Or.inl ⟨by kernel_rfl, fun w9 h9 => ?_⟩) HSB.out ?_
                                · obtain ⟨hlg, hbx, y2, _⟩ := h9; have k0 := hlg.cel 0 _ rfl; have k1 := hlg.cel 1 _ rfl; have k2 := hlg.cel 2 _ rfl; have x2 := hbx.cel 2 _ rfl; go_simp
                                refine wpAnyH_take (i := 41) (v := .bool true) rfl (by kernel_rfl) (by kernel_rfl) (by kernel_rfl) (fun _ _ _ h => h) (Or.inl ⟨by kernel_rfl, fun w9 h9 => ?_⟩) HSB.out ?_
                                · go_simp; all_goals omega
                                refine wpAnyH_take (i := 42) (v := .bool true) rfl (by kernel_rfl) (by kernel_rfl) (by kernel_rfl) (fun _ _ _ h => h) (Or.inl ⟨by kernel_rfl, fun w9 h9 => ?_⟩) HSB.out ?_
                                · go_simp
                                refine wpAnyH_take (i := 43) (v := .bool true) rfl (by kernel_rfl) (by kernel_rfl) (by kernel_rfl) (fun _ _ _ h => h) (Or.inl ⟨by kernel_rfl, fun w9 h9 => ?_⟩) HSB.out ?_
                                · go_simp
                                refine wpAnyH_done (by kernel_rfl) ?_ _
                                go_simp
                                go_wp2
                                go_ret
                                exact ⟨ret_int E2.out.symm, hbb ▸ HSB.out.1.bel⟩
                            · skip
                              have E2 : Hid (bfV f c zs = 1) := HBAD.out (HEK.out.trans (by rw [HE.out]; have r0 := of_decide_eq_false q0; have r1 := of_decide_eq_false q1; have r2 := of_decide_eq_false q2; have r3 := of_decide_eq_false q3; have r4 := of_decide_eq_false q4; have r5 := of_decide_eq_true q5; simp; try omega))
                              clear HE HEK HBAD HS
                              go_upto_region 7 with fail
                              have y1 : (wr.alloc (.cells #[.int .i64 z.kind, .int .i64 z.port, .int .i64 z.line] 49)).cell? ⟨g, o + j * 3 + 1, none⟩ = _ := ((bx1 wr (.cells #[.int .i64 z.kind, .int .i64 z.port, .int .i64 z.line] 49)).cell (p := ⟨g, o + j * 3 + 1, none⟩) hgw).trans y0
                              have gl : g < (wr.alloc (.cells #[.int .i64 z.kind, .int .i64 z.port, .int .i64 z.line] 49)).heap.size := Nat.lt_of_lt_of_le hgw (bx1 wr (.cells #[.int .i64 z.kind, .int .i64 z.port, .int .i64 z.line] 49)).size
                              clear d0 d1 d2 c2 cl HX
                              clear y0
                              generalize (wr.alloc (.cells #[.int .i64 z.kind, .int .i64 z.port, .int .i64 z.line] 49)) = u0 at *
                              generalize wr.heap.size = b0 at *
                              have HSB : Hid ((fun w' => (LG w w' b0 #[.int .i64 z.kind, .int .i64 z.port, .int .i64 z.line] 49) ∧ (LG w w' bb #[.int .i64 f, .int .i64 c, .slice (some ⟨g, o, none⟩) zs.length cap] 29) ∧ w'.cell? ⟨g, o + j * 3 + 1, none⟩ = some (.int .i64 y.port) ∧ g < w'.heap.size) u0.drew) := ⟨HLN.out.drew, HX2.out.drew, y1, gl⟩
                              refine wp_region_held (S := fun w' => (LG w w' b0 #[.int .i64 z.kind, .int .i64 z.port, .int .i64 z.line] 49) ∧ (LG w w' bb #[.int .i64 f, .int .i64 c, .slice (some ⟨g, o, none⟩) zs.length cap] 29) ∧ w'.cell? ⟨g, o + j * 3 + 1, none⟩ = some (.int .i64 y.port) ∧ g < w'.heap.size) (by kernel_rfl) ?_
                              change wpAnyH _ _ _ _ _ _ _ _ (World.drew _)
                              refine wpAnyH_take (i := 0) (v := .pointer (some ⟨b0, 0, none⟩)) rfl (by kernel_rfl) (by kernel_rfl) (by kernel_rfl) (fun _ _ _ h => h) (Or.inl ⟨by kernel_rfl, fun w9 h9 => ?_⟩) HSB.out ?_
                              · go_simp
                              refine wpAnyH_take (i := 1) (v := .int .i64 z.kind) rfl (by kernel_rfl) (by kernel_rfl) (by kernel_rfl) (fun _ _ _ h => h) (Or.inl ⟨by kernel_rfl, fun w9 h9 => ?_⟩) HSB.out ?_
                              · obtain ⟨hlg, hbx, y2, _⟩ := h9; have k0 := hlg.cel 0 _ rfl; have k1 := hlg.cel 1 _ rfl; have k2 := hlg.cel 2 _ rfl; have x2 := hbx.cel 2 _ rfl; go_simp
                              refine wpAnyH_take (i := 2) (v := .bool false) rfl (by kernel_rfl) (by kernel_rfl) (by kernel_rfl) (fun _ _ _ h => h) (Or.inl ⟨by kernel_rfl, fun w9 h9 => ?_⟩) HSB.out ?_
                              · go_simp; all_goals omega
                              refine wpAnyH_take (i := 3) (v := .bool false) rfl (by kernel_rfl) (by kernel_rfl) (by kernel_rfl) (fun _ _ _ h => h) (Or.inl ⟨by kernel_rfl, fun w9 h9 => ?_⟩) HSB.out ?_
                              · go_simp
                              refine wpAnyH_take (i := 4) (v := .pointer (some ⟨b0, 0, none⟩)) rfl (by kernel_rfl) (by kernel_rfl) (by kernel_rfl) (fun _ _ _ h => h) (Or.inl ⟨by kernel_rfl, fun w9 h9 => ?_⟩) HSB.out ?_
                              · go_simp
                              refine wpAnyH_take (i := 5) (v := .int .i64 z.kind) rfl (by kernel_rfl) (by kernel_rfl) (by kernel_rfl) (fun _ _ _ h => h) (Or.inl ⟨by kernel_rfl, fun w9 h9 => ?_⟩) HSB.out ?_
                              · obtain ⟨hlg, hbx, y2, _⟩ := h9; have k0 := hlg.cel 0 _ rfl; have k1 := hlg.cel 1 _ rfl; have k2 := hlg.cel 2 _ rfl; have x2 := hbx.cel 2 _ rfl; go_simp
                              refine wpAnyH_take (i := 6) (v := .bool false) rfl (by kernel_rfl) (by kernel_rfl) (by kernel_rfl) (fun _ _ _ h => h) (Or.inl ⟨by kernel_rfl, fun w9 h9 => ?_⟩) HSB.out ?_
                              · go_simp; all_goals omega
                              refine wpAnyH_take (i := 7) (v := .bool false) rfl (by kernel_rfl) (by kernel_rfl) (by kernel_rfl) (fun _ _ _ h => h) (Or.inl ⟨by kernel_rfl, fun w9 h9 => ?_⟩) HSB.out ?_
                              · go_simp
                              refine wpAnyH_take (i := 8) (v := .bool false) rfl (by kernel_rfl) (by kernel_rfl) (by kernel_rfl) (fun _ _ _ h => h) (Or.inl ⟨by kernel_rfl, fun w9 h9 => ?_⟩) HSB.out ?_
                              · go_simp
                              refine wpAnyH_take (i := 9) (v := .pointer (some ⟨b0, 1, none⟩)) rfl (by kernel_rfl) (by kernel_rfl) (by kernel_rfl) (fun _ _ _ h => h) (Or.inl ⟨by kernel_rfl, fun w9 h9 => ?_⟩) HSB.out ?_
                              · go_simp
                              refine wpAnyH_take (i := 10) (v := .int .i64 z.port) rfl (by kernel_rfl) (by kernel_rfl) (by kernel_rfl) (fun _ _ _ h => h) (Or.inl ⟨by kernel_rfl, fun w9 h9 => ?_⟩) HSB.out ?_
                              · obtain ⟨hlg, hbx, y2, _⟩ := h9; have k0 := hlg.cel 0 _ rfl; have k1 := hlg.cel 1 _ rfl; have k2 := hlg.cel 2 _ rfl; have x2 := hbx.cel 2 _ rfl; go_simp
                              refine wpAnyH_take (i := 11) (v := .bool false) rfl (by kernel_rfl) (by kernel_rfl) (by kernel_rfl) (fun _ _ _ h => h) (Or.inl ⟨by kernel_rfl, fun w9 h9 => ?_⟩) HSB.out ?_
                              · go_simp; all_goals omega
                              refine wpAnyH_take (i := 12) (v := .bool false) rfl (by kernel_rfl) (by kernel_rfl) (by kernel_rfl) (fun _ _ _ h => h) (Or.inl ⟨by kernel_rfl, fun w9 h9 => ?_⟩) HSB.out ?_
                              · go_simp
                              refine wpAnyH_take (i := 13) (v := .bool false) rfl (by kernel_rfl) (by kernel_rfl) (by kernel_rfl) (fun _ _ _ h => h) (Or.inl ⟨by kernel_rfl, fun w9 h9 => ?_⟩) HSB.out ?_
                              · go_simp
                              refine wpAnyH_take (i := 14) (v := .pointer (some ⟨b0, 1, none⟩)) rfl (by kernel_rfl) (by kernel_rfl) (by kernel_rfl) (fun _ _ _ h => h) (Or.inl ⟨by kernel_rfl, fun w9 h9 => ?_⟩) HSB.out ?_
                              · go_simp
                              refine wpAnyH_take (i := 15) (v := .int .i64 z.port) rfl (by kernel_rfl) (by kernel_rfl) (by kernel_rfl) (fun _ _ _ h => h) (Or.inl ⟨by kernel_rfl, fun w9 h9 => ?_⟩) HSB.out ?_
                              · obtain ⟨hlg, hbx, y2, _⟩ := h9; have k0 := hlg.cel 0 _ rfl; have k1 := hlg.cel 1 _ rfl; have k2 := hlg.cel 2 _ rfl; have x2 := hbx.cel 2 _ rfl; go_simp
                              refine wpAnyH_take (i := 16) (v := .bool false) rfl (by kernel_rfl) (by kernel_rfl) (by kernel_rfl) (fun _ _ _ h => h) (Or.inl ⟨by kernel_rfl, fun w9 h9 => ?_⟩) HSB.out ?_
                              · go_simp; all_goals omega
                              refine wpAnyH_take (i := 17) (v := .bool false) rfl (by kernel_rfl) (by kernel_rfl) (by kernel_rfl) (fun _ _ _ h => h) (Or.inl ⟨by kernel_rfl, fun w9 h9 => ?_⟩) HSB.out ?_
                              · go_simp
                              refine wpAnyH_take (i := 18) (v := .bool false) rfl (by kernel_rfl) (by kernel_rfl) (by kernel_rfl) (fun _ _ _ h => h) (Or.inl ⟨by kernel_rfl, fun w9 h9 => ?_⟩) HSB.out ?_
                              · go_simp
                              refine wpAnyH_take (i := 19) (v := .pointer (some ⟨b0, 2, none⟩)) rfl (by kernel_rfl) (by kernel_rfl) (by kernel_rfl) (fun _ _ _ h => h) (Or.inl ⟨by kernel_rfl, fun w9 h9 => ?_⟩) HSB.out ?_
                              · go_simp
                              refine wpAnyH_take (i := 20) (v := .int .i64 z.line) rfl (by kernel_rfl) (by kernel_rfl) (by kernel_rfl) (fun _ _ _ h => h) (Or.inl ⟨by kernel_rfl, fun w9 h9 => ?_⟩) HSB.out ?_
                              · obtain ⟨hlg, hbx, y2, _⟩ := h9; have k0 := hlg.cel 0 _ rfl; have k1 := hlg.cel 1 _ rfl; have k2 := hlg.cel 2 _ rfl; have x2 := hbx.cel 2 _ rfl; go_simp
                              refine wpAnyH_take (i := 21) (v := .bool false) rfl (by kernel_rfl) (by kernel_rfl) (by kernel_rfl) (fun _ _ _ h => h) (Or.inl ⟨by kernel_rfl, fun w9 h9 => ?_⟩) HSB.out ?_
                              · go_simp; all_goals omega
                              refine wpAnyH_take (i := 22) (v := .bool false) rfl (by kernel_rfl) (by kernel_rfl) (by kernel_rfl) (fun _ _ _ h => h) (Or.inl ⟨by kernel_rfl, fun w9 h9 => ?_⟩) HSB.out ?_
                              · go_simp
                              refine wpAnyH_take (i := 23) (v := .bool false) rfl (by kernel_rfl) (by kernel_rfl) (by kernel_rfl) (fun _ _ _ h => h) (Or.inl ⟨by kernel_rfl, fun w9 h9 => ?_⟩) HSB.out ?_
                              · go_simp
                              refine wpAnyH_take (i := 24) (v := .pointer (some ⟨b0, 2, none⟩)) rfl (by kernel_rfl) (by kernel_rfl) (by kernel_rfl) (fun _ _ _ h => h) (Or.inl ⟨by kernel_rfl, fun w9 h9 => ?_⟩) HSB.out ?_
                              · go_simp
                              refine wpAnyH_take (i := 25) (v := .int .i64 z.line) rfl (by kernel_rfl) (by kernel_rfl) (by kernel_rfl) (fun _ _ _ h => h) (Or.inl ⟨by kernel_rfl, fun w9 h9 => ?_⟩) HSB.out ?_
                              · obtain ⟨hlg, hbx, y2, _⟩ := h9; have k0 := hlg.cel 0 _ rfl; have k1 := hlg.cel 1 _ rfl; have k2 := hlg.cel 2 _ rfl; have x2 := hbx.cel 2 _ rfl; go_simp
                              refine wpAnyH_take (i := 26) (v := .bool true) rfl (by kernel_rfl) (by kernel_rfl) (by kernel_rfl) (fun _ _ _ h => h) (Or.inl ⟨by kernel_rfl, fun w9 h9 => ?_⟩) HSB.out ?_
                              · go_simp; all_goals omega
                              refine wpAnyH_take (i := 27) (v := .bool true) rfl (by kernel_rfl) (by kernel_rfl) (by kernel_rfl) (fun _ _ _ h => h) (Or.inl ⟨by kernel_rfl, fun w9 h9 => ?_⟩) HSB.out ?_
                              · go_simp
                              refine wpAnyH_take (i := 28) (v := .bool true) rfl (by kernel_rfl) (by kernel_rfl) (by kernel_rfl) (fun _ _ _ h => h) (Or.inl ⟨by kernel_rfl, fun w9 h9 => ?_⟩) HSB.out ?_
                              · go_simp
                              refine wpAnyH_take (i := 29) (v := undef) rfl (by kernel_rfl) (by kernel_rfl) (by kernel_rfl) (fun _ _ _ h => h) (Or.inr ⟨by kernel_rfl, rfl⟩) HSB.out ?_
                              refine wpAnyH_take (i := 30) (v := undef) rfl (by kernel_rfl) (by kernel_rfl) (by kernel_rfl) (fun _ _ _ h => h) (Or.inr ⟨by kernel_rfl, rfl⟩) HSB.out ?_
                              refine wpAnyH_take (i := 31) (v := undef) rfl (by kernel_rfl) (by kernel_rfl) (by kernel_rfl) (fun _ _ _ h => h) (Or.inr ⟨by kernel_rfl, rfl⟩) HSB.out ?_
                              refine wpAnyH_take (i := 32) (v := undef) rfl (by kernel_rfl) (by kernel_rfl) (by kernel_rfl) (fun _ _ _ h => h) (Or.inr ⟨by kernel_rfl, rfl⟩) HSB.out ?_
                              refine wpAnyH_take (i := 33) (v := undef) rfl (by kernel_rfl) (by kernel_rfl) (by kernel_rfl) (fun _ _ _ h => h) (Or.inr ⟨by kernel_rfl, rfl⟩) HSB.out ?_
                              refine wpAnyH_take (i := 34) (v := undef) rfl (by kernel_rfl) (by kernel_rfl) (by kernel_rfl) (fun _ _ _ h => h) (Or.inr ⟨by kernel_rfl, rfl⟩) HSB.out ?_
                              refine wpAnyH_take (i := 35) (v := undef) rfl (by kernel_rfl) (by kernel_rfl) (by kernel_rfl) (fun _ _ _ h => h) (Or.inr ⟨by kernel_rfl, rfl⟩) HSB.out ?_
                              refine wpAnyH_take (i := 36) (v := undef) rfl (by kernel_rfl) (by kernel_rfl) (by kernel_rfl) (fun _ _ _ h => h) (Or.inr ⟨by kernel_rfl, rfl⟩) HSB.out ?_
                              refine wpAnyH_take (i := 37) (v := undef) rfl (by kernel_rfl) (by kernel_rfl) (by kernel_rfl) (fun _ _ _ h => h) (Or.inr ⟨by kernel_rfl, rfl⟩) HSB.out ?_
                              refine wpAnyH_take (i := 38) (v := undef) rfl (by kernel_rfl) (by kernel_rfl) (by kernel_rfl) (fun _ _ _ h => h) (Or.inr ⟨by kernel_rfl, rfl⟩) HSB.out ?_
                              refine wpAnyH_take (i := 39) (v := undef) rfl (by kernel_rfl) (by kernel_rfl) (by kernel_rfl) (fun _ _ _ h => h) (Or.inr ⟨by kernel_rfl, rfl⟩) HSB.out ?_
                              refine wpAnyH_take (i := 40) (v := undef) rfl (by kernel_rfl) (by kernel_rfl) (by kernel_rfl) (fun _ _ _ h => h) (Or.inr ⟨by kernel_rfl, rfl⟩) HSB.out ?_
                              refine wpAnyH_take (i := 41) (v := undef) rfl (by kernel_rfl) (by kernel_rfl) (by kernel_rfl) (fun _ _ _ h => h) (Or.inr ⟨by kernel_rfl, rfl⟩) HSB.out ?_
                              refine wpAnyH_take (i := 42) (v := undef) rfl (by kernel_rfl) (by kernel_rfl) (by kernel_rfl) (fun _ _ _ h => h) (Or.inr ⟨by kernel_rfl, rfl⟩) HSB.out ?_
                              refine wpAnyH_take (i := 43) (v := .bool true) rfl (by kernel_rfl) (by kernel_rfl) (by kernel_rfl) (fun _ _ _ h => h) (Or.inl ⟨by kernel_rfl, fun w9 h9 => ?_⟩) HSB.out ?_
                              · go_simp
                              refine wpAnyH_done (by kernel_rfl) ?_ _
                              go_simp
                              go_wp2
                              go_ret
                              exact ⟨ret_int E2.out.symm, hbb ▸ HSB.out.1.bel⟩
                          · skip
                            have E2 : Hid (bfV f c zs = 1) := HBAD.out (HEK.out.trans (by rw [HE.out]; have r0 := of_decide_eq_false q0; have r1 := of_decide_eq_false q1; have r2 := of_decide_eq_false q2; have r3 := of_decide_eq_false q3; have r4 := of_decide_eq_true q4; simp; try omega))
                            clear HE HEK HBAD HS
                            go_upto_region 7 with fail
                            have y1 : (wr.alloc (.cells #[.int .i64 z.kind, .int .i64 z.port, .int .i64 z.line] 49)).cell? ⟨g, o + j * 3 + 1, none⟩ = _ := ((bx1 wr (.cells #[.int .i64 z.kind, .int .i64 z.port, .int .i64 z.line] 49)).cell (p := ⟨g, o + j * 3 + 1, none⟩) hgw).trans y0
                            have gl : g < (wr.alloc (.cells #[.int .i64 z.kind, .int .i64 z.port, .int .i64 z.line] 49)).heap.size := Nat.lt_of_lt_of_le hgw (bx1 wr (.cells #[.int .i64 z.kind, .int .i64 z.port, .int .i64 z.line] 49)).size
                            clear d0 d1 d2 c2 cl HX
                            clear y0
                            generalize (wr.alloc (.cells #[.int .i64 z.kind, .int .i64 z.port, .int .i64 z.line] 49)) = u0 at *
                            generalize wr.heap.size = b0 at *
                            have HSB : Hid ((fun w' => (LG w w' b0 #[.int .i64 z.kind, .int .i64 z.port, .int .i64 z.line] 49) ∧ (LG w w' bb #[.int .i64 f, .int .i64 c, .slice (some ⟨g, o, none⟩) zs.length cap] 29) ∧ w'.cell? ⟨g, o + j * 3 + 1, none⟩ = some (.int .i64 y.port) ∧ g < w'.heap.size) u0.drew) := ⟨HLN.out.drew, HX2.out.drew, y1, gl⟩
                            refine wp_region_held (S := fun w' => (LG w w' b0 #[.int .i64 z.kind, .int .i64 z.port, .int .i64 z.line] 49) ∧ (LG w w' bb #[.int .i64 f, .int .i64 c, .slice (some ⟨g, o, none⟩) zs.length cap] 29) ∧ w'.cell? ⟨g, o + j * 3 + 1, none⟩ = some (.int .i64 y.port) ∧ g < w'.heap.size) (by kernel_rfl) ?_
                            change wpAnyH _ _ _ _ _ _ _ _ (World.drew _)
                            refine wpAnyH_take (i := 0) (v := .pointer (some ⟨b0, 0, none⟩)) rfl (by kernel_rfl) (by kernel_rfl) (by kernel_rfl) (fun _ _ _ h => h) (Or.inl ⟨by kernel_rfl, fun w9 h9 => ?_⟩) HSB.out ?_
                            · go_simp
                            refine wpAnyH_take (i := 1) (v := .int .i64 z.kind) rfl (by kernel_rfl) (by kernel_rfl) (by kernel_rfl) (fun _ _ _ h => h) (Or.inl ⟨by kernel_rfl, fun w9 h9 => ?_⟩) HSB.out ?_
                            · obtain ⟨hlg, hbx, y2, _⟩ := h9; have k0 := hlg.cel 0 _ rfl; have k1 := hlg.cel 1 _ rfl; have k2 := hlg.cel 2 _ rfl; have x2 := hbx.cel 2 _ rfl; go_simp
                            refine wpAnyH_take (i := 2) (v := .bool false) rfl (by kernel_rfl) (by kernel_rfl) (by kernel_rfl) (fun _ _ _ h => h) (Or.inl ⟨by kernel_rfl, fun w9 h9 => ?_⟩) HSB.out ?_
                            · go_simp; all_goals omega
                            refine wpAnyH_take (i := 3) (v := .bool false) rfl (by kernel_rfl) (by kernel_rfl) (by kernel_rfl) (fun _ _ _ h => h) (Or.inl ⟨by kernel_rfl, fun w9 h9 => ?_⟩) HSB.out ?_
                            · go_simp
                            refine wpAnyH_take (i := 4) (v := .pointer (some ⟨b0, 0, none⟩)) rfl (by kernel_rfl) (by kernel_rfl) (by kernel_rfl) (fun _ _ _ h => h) (Or.inl ⟨by kernel_rfl, fun w9 h9 => ?_⟩) HSB.out ?_
                            · go_simp
                            refine wpAnyH_take (i := 5) (v := .int .i64 z.kind) rfl (by kernel_rfl) (by kernel_rfl) (by kernel_rfl) (fun _ _ _ h => h) (Or.inl ⟨by kernel_rfl, fun w9 h9 => ?_⟩) HSB.out ?_
                            · obtain ⟨hlg, hbx, y2, _⟩ := h9; have k0 := hlg.cel 0 _ rfl; have k1 := hlg.cel 1 _ rfl; have k2 := hlg.cel 2 _ rfl; have x2 := hbx.cel 2 _ rfl; go_simp
                            refine wpAnyH_take (i := 6) (v := .bool false) rfl (by kernel_rfl) (by kernel_rfl) (by kernel_rfl) (fun _ _ _ h => h) (Or.inl ⟨by kernel_rfl, fun w9 h9 => ?_⟩) HSB.out ?_
                            · go_simp; all_goals omega
                            refine wpAnyH_take (i := 7) (v := .bool false) rfl (by kernel_rfl) (by kernel_rfl) (by kernel_rfl) (fun _ _ _ h => h) (Or.inl ⟨by kernel_rfl, fun w9 h9 => ?_⟩) HSB.out ?_
                            · go_simp
                            refine wpAnyH_take (i := 8) (v := .bool false) rfl (by kernel_rfl) (by kernel_rfl) (by kernel_rfl) (fun _ _ _ h => h) (Or.inl ⟨by kernel_rfl, fun w9 h9 => ?_⟩) HSB.out ?_
                            · go_simp
                            refine wpAnyH_take (i := 9) (v := .pointer (some ⟨b0, 1, none⟩)) rfl (by kernel_rfl) (by kernel_rfl) (by kernel_rfl) (fun _ _ _ h => h) (Or.inl ⟨by kernel_rfl, fun w9 h9 => ?_⟩) HSB.out ?_
                            · go_simp
                            refine wpAnyH_take (i := 10) (v := .int .i64 z.port) rfl (by kernel_rfl) (by kernel_rfl) (by kernel_rfl) (fun _ _ _ h => h) (Or.inl ⟨by kernel_rfl, fun w9 h9 => ?_⟩) HSB.out ?_
                            · obtain ⟨hlg, hbx, y2, _⟩ := h9; have k0 := hlg.cel 0 _ rfl; have k1 := hlg.cel 1 _ rfl; have k2 := hlg.cel 2 _ rfl; have x2 := hbx.cel 2 _ rfl; go_simp
                            refine wpAnyH_take (i := 11) (v := .bool false) rfl (by kernel_rfl) (by kernel_rfl) (by kernel_rfl) (fun _ _ _ h => h) (Or.inl ⟨by kernel_rfl, fun w9 h9 => ?_⟩) HSB.out ?_
                            · go_simp; all_goals omega
                            refine wpAnyH_take (i := 12) (v := .bool false) rfl (by kernel_rfl) (by kernel_rfl) (by kernel_rfl) (fun _ _ _ h => h) (Or.inl ⟨by kernel_rfl, fun w9 h9 => ?_⟩) HSB.out ?_
                            · go_simp
                            refine wpAnyH_take (i := 13) (v := .bool false) rfl (by kernel_rfl) (by kernel_rfl) (by kernel_rfl) (fun _ _ _ h => h) (Or.inl ⟨by kernel_rfl, fun w9 h9 => ?_⟩) HSB.out ?_
                            · go_simp
                            refine wpAnyH_take (i := 14) (v := .pointer (some ⟨b0, 1, none⟩)) rfl (by kernel_rfl) (by kernel_rfl) (by kernel_rfl) (fun _ _ _ h => h) (Or.inl ⟨by kernel_rfl, fun w9 h9 => ?_⟩) HSB.out ?_
                            · go_simp
                            refine wpAnyH_take (i := 15) (v := .int .i64 z.port) rfl (by kernel_rfl) (by kernel_rfl) (by kernel_rfl) (fun _ _ _ h => h) (Or.inl ⟨by kernel_rfl, fun w9 h9 => ?_⟩) HSB.out ?_
                            · obtain ⟨hlg, hbx, y2, _⟩ := h9; have k0 := hlg.cel 0 _ rfl; have k1 := hlg.cel 1 _ rfl; have k2 := hlg.cel 2 _ rfl; have x2 := hbx.cel 2 _ rfl; go_simp
                            refine wpAnyH_take (i := 16) (v := .bool false) rfl (by kernel_rfl) (by kernel_rfl) (by kernel_rfl) (fun _ _ _ h => h) (Or.inl ⟨by kernel_rfl, fun w9 h9 => ?_⟩) HSB.out ?_
                            · go_simp; all_goals omega
                            refine wpAnyH_take (i := 17) (v := .bool false) rfl (by kernel_rfl) (by kernel_rfl) (by kernel_rfl) (fun _ _ _ h => h) (Or.inl ⟨by kernel_rfl, fun w9 h9 => ?_⟩) HSB.out ?_
                            · go_simp
                            refine wpAnyH_take (i := 18) (v := .bool false) rfl (by kernel_rfl) (by kernel_rfl) (by kernel_rfl) (fun _ _ _ h => h) (Or.inl ⟨by kernel_rfl, fun w9 h9 => ?_⟩) HSB.out ?_
                            · go_simp
                            refine wpAnyH_take (i := 19) (v := .pointer (some ⟨b0, 2, none⟩)) rfl (by kernel_rfl) (by kernel_rfl) (by kernel_rfl) (fun _ _ _ h => h) (Or.inl ⟨by kernel_rfl, fun w9 h9 => ?_⟩) HSB.out ?_
                            · go_simp
                            refine wpAnyH_take (i := 20) (v := .int .i64 z.line) rfl (by kernel_rfl) (by kernel_rfl) (by kernel_rfl) (fun _ _ _ h => h) (Or.inl ⟨by kernel_rfl, fun w9 h9 => ?_⟩) HSB.out ?_
                            · obtain ⟨hlg, hbx, y2, _⟩ := h9; have k0 := hlg.cel 0 _ rfl; have k1 := hlg.cel 1 _ rfl; have k2 := hlg.cel 2 _ rfl; have x2 := hbx.cel 2 _ rfl; go_simp
                            refine wpAnyH_take (i := 21) (v := .bool true) rfl (by kernel_rfl) (by kernel_rfl) (by kernel_rfl) (fun _ _ _ h => h) (Or.inl ⟨by kernel_rfl, fun w9 h9 => ?_⟩) HSB.out ?_
                            · go_simp; all_goals omega
                            refine wpAnyH_take (i := 22) (v := .bool true) rfl (by kernel_rfl) (by kernel_rfl) (by kernel_rfl) (fun _ _ _ h => h) (Or.inl ⟨by kernel_rfl, fun w9 h9 => ?_⟩) HSB.out ?_
                            · go_simp
                            refine wpAnyH_take (i := 23) (v := .bool true) rfl (by kernel_rfl) (by kernel_rfl) (by kernel_rfl) (fun _ _ _ h => h) (Or.inl ⟨by kernel_rfl, fun w9 h9 => ?_⟩) HSB.out ?_
                            · go_simp
                            refine wpAnyH_take (i := 24) (v := undef) rfl (by kernel_rfl) (by kernel_rfl) (by kernel_rfl) (fun _ _ _ h => h) (Or.inr ⟨by kernel_rfl, rfl⟩) HSB.out ?_
                            refine wpAnyH_take (i := 25) (v := undef) rfl (by kernel_rfl) (by kernel_rfl) (by kernel_rfl) (fun _ _ _ h => h) (Or.inr ⟨by kernel_rfl, rfl⟩) HSB.out ?_
                            refine wpAnyH_take (i := 26) (v := undef) rfl (by kernel_rfl) (by kernel_rfl) (by kernel_rfl) (fun _ _ _ h => h) (Or.inr ⟨by kernel_rfl, rfl⟩) HSB.out ?_
                            refine wpAnyH_take (i := 27) (v := .bool true) rfl (by kernel_rfl) (by kernel_rfl) (by kernel_rfl) (fun _ _ _ h => h) (Or.inl ⟨by kernel_rfl, fun w9 h9 => ?_⟩) HSB.out ?_
                            · go_simp
                            refine wpAnyH_take (i := 28) (v := .bool true) rfl (by kernel_rfl) (by kernel_rfl) (by kernel_rfl) (fun _ _ _ h => h) (Or.inl ⟨by kernel_rfl, fun w9 h9 => ?_⟩) HSB.out ?_
                            · go_simp
                            refine wpAnyH_take (i := 29) (v := undef) rfl (by kernel_rfl) (by kernel_rfl) (by kernel_rfl) (fun _ _ _ h => h) (Or.inr ⟨by kernel_rfl, rfl⟩) HSB.out ?_
                            refine wpAnyH_take (i := 30) (v := undef) rfl (by kernel_rfl) (by kernel_rfl) (by kernel_rfl) (fun _ _ _ h => h) (Or.inr ⟨by kernel_rfl, rfl⟩) HSB.out ?_
                            refine wpAnyH_take (i := 31) (v := undef) rfl (by kernel_rfl) (by kernel_rfl) (by kernel_rfl) (fun _ _ _ h => h) (Or.inr ⟨by kernel_rfl, rfl⟩) HSB.out ?_
                            refine wpAnyH_take (i := 32) (v := undef) rfl (by kernel_rfl) (by kernel_rfl) (by kernel_rfl) (fun _ _ _ h => h) (Or.inr ⟨by kernel_rfl, rfl⟩) HSB.out ?_
                            refine wpAnyH_take (i := 33) (v := undef) rfl (by kernel_rfl) (by kernel_rfl) (by kernel_rfl) (fun _ _ _ h => h) (Or.inr ⟨by kernel_rfl, rfl⟩) HSB.out ?_
                            refine wpAnyH_take (i := 34) (v := undef) rfl (by kernel_rfl) (by kernel_rfl) (by kernel_rfl) (fun _ _ _ h => h) (Or.inr ⟨by kernel_rfl, rfl⟩) HSB.out ?_
                            refine wpAnyH_take (i := 35) (v := undef) rfl (by kernel_rfl) (by kernel_rfl) (by kernel_rfl) (fun _ _ _ h => h) (Or.inr ⟨by kernel_rfl, rfl⟩) HSB.out ?_
                            refine wpAnyH_take (i := 36) (v := undef) rfl (by kernel_rfl) (by kernel_rfl) (by kernel_rfl) (fun _ _ _ h => h) (Or.inr ⟨by kernel_rfl, rfl⟩) HSB.out ?_
                            refine wpAnyH_take (i := 37) (v := undef) rfl (by kernel_rfl) (by kernel_rfl) (by kernel_rfl) (fun _ _ _ h => h) (Or.inr ⟨by kernel_rfl, rfl⟩) HSB.out ?_
                            refine wpAnyH_take (i := 38) (v := undef) rfl (by kernel_rfl) (by kernel_rfl) (by kernel_rfl) (fun _ _ _ h => h) (Or.inr ⟨by kernel_rfl, rfl⟩) HSB.out ?_
                            refine wpAnyH_take (i := 39) (v := undef) rfl (by kernel_rfl) (by kernel_rfl) (by kernel_rfl) (fun _ _ _ h => h) (Or.inr ⟨by kernel_rfl, rfl⟩) HSB.out ?_
                            refine wpAnyH_take (i := 40) (v := undef) rfl (by kernel_rfl) (by kernel_rfl) (by kernel_rfl) (fun _ _ _ h => h) (Or.inr ⟨by kernel_rfl, rfl⟩) HSB.out ?_
                            refine wpAnyH_take (i := 41) (v := undef) rfl (by kernel_rfl) (by kernel_rfl) (by kernel_rfl) (fun _ _ _ h => h) (Or.inr ⟨by kernel_rfl, rfl⟩) HSB.out ?_
                            refine wpAnyH_take (i := 42) (v := undef) rfl (by kernel_rfl) (by kernel_rfl) (by kernel_rfl) (fun _ _ _ h => h) (Or.inr ⟨by kernel_rfl, rfl⟩) HSB.out ?_
                            refine wpAnyH_take (i := 43) (v := .bool true) rfl (by kernel_rfl) (by kernel_rfl) (by kernel_rfl) (fun _ _ _ h => h) (Or.inl ⟨by kernel_rfl, fun w9 h9 => ?_⟩) HSB.out ?_
                            · go_simp
                            refine wpAnyH_done (by kernel_rfl) ?_ _
                            go_simp
                            go_wp2
                            go_ret
                            exact ⟨ret_int E2.out.symm, hbb ▸ HSB.out.1.bel⟩
                        · skip
                          have E2 : Hid (bfV f c zs = 1) := HBAD.out (HEK.out.trans (by rw [HE.out]; have r0 := of_decide_eq_false q0; have r1 := of_decide_eq_false q1; have r2 := of_decide_eq_false q2; have r3 := of_decide_eq_true q3; simp; try omega))
                          clear HE HEK HBAD HS
                          go_upto_region 7 with fail
                          have y1 : (wr.alloc (.cells #[.int .i64 z.kind, .int .i64 z.port, .int .i64 z.line] 49)).cell? ⟨g, o + j * 3 + 1, none⟩ = _ := ((bx1 wr (.cells #[.int .i64 z.kind, .int .i64 z.port, .int .i64 z.line] 49)).cell (p := ⟨g, o + j * 3 + 1, none⟩) hgw).trans y0
                          have gl : g < (wr.alloc (.cells #[.int .i64 z.kind, .int .i64 z.port, .int .i64 z.line] 49)).heap.size := Nat.lt_of_lt_of_le hgw (bx1 wr (.cells #[.int .i64 z.kind, .int .i64 z.port, .int .i64 z.line] 49)).size
                          clear d0 d1 d2 c2 cl HX
                          clear y0
                          generalize (wr.alloc (.cells #[.int .i64 z.kind, .int .i64 z.port, .int .i64 z.line] 49)) = u0 at *
                          generalize wr.heap.size = b0 at *
                          have HSB : Hid ((fun w' => (LG w w' b0 #[.int .i64 z.kind, .int .i64 z.port, .int .i64 z.line] 49) ∧ (LG w w' bb #[.int .i64 f, .int .i64 c, .slice (some ⟨g, o, none⟩) zs.length cap] 29) ∧ w'.cell? ⟨g, o + j * 3 + 1, none⟩ = some (.int .i64 y.port) ∧ g < w'.heap.size) u0.drew) := ⟨HLN.out.drew, HX2.out.drew, y1, gl⟩
                          refine wp_region_held (S := fun w' => (LG w w' b0 #[.int .i64 z.kind, .int .i64 z.port, .int .i64 z.line] 49) ∧ (LG w w' bb #[.int .i64 f, .int .i64 c, .slice (some ⟨g, o, none⟩) zs.length cap] 29) ∧ w'.cell? ⟨g, o + j * 3 + 1, none⟩ = some (.int .i64 y.port) ∧ g < w'.heap.size) (by kernel_rfl) ?_
                          change wpAnyH _ _ _ _ _ _ _ _ (World.drew _)
                          refine wpAnyH_take (i := 0) (v := .pointer (some ⟨b0, 0, none⟩)) rfl (by kernel_rfl) (by kernel_rfl) (by kernel_rfl) (fun _ _ _ h => h) (Or.inl ⟨by kernel_rfl, fun w9 h9 => ?_⟩) HSB.out ?_
                          · go_simp
                          refine wpAnyH_take (i := 1) (v := .int .i64 z.kind) rfl (by kernel_rfl) (by kernel_rfl) (by kernel_rfl) (fun _ _ _ h => h) (Or.inl ⟨by kernel_rfl, fun w9 h9 => ?_⟩) HSB.out ?_
                          · obtain ⟨hlg, hbx, y2, _⟩ := h9; have k0 := hlg.cel 0 _ rfl; have k1 := hlg.cel 1 _ rfl; have k2 := hlg.cel 2 _ rfl; have x2 := hbx.cel 2 _ rfl; go_simp
                          refine wpAnyH_take (i := 2) (v := .bool false) rfl (by kernel_rfl) (by kernel_rfl) (by kernel_rfl) (fun _ _ _ h => h) (Or.inl ⟨by kernel_rfl, fun w9 h9 => ?_⟩) HSB.out ?_
                          · go_simp; all_goals omega
                          refine wpAnyH_take (i := 3) (v := .bool false) rfl (by kernel_rfl) (by kernel_rfl) (by kernel_rfl) (fun _ _ _ h => h) (Or.inl ⟨by kernel_rfl, fun w9 h9 => ?_⟩) HSB.out ?_
                          · go_simp
                          refine wpAnyH_take (i := 4) (v := .pointer (some ⟨b0, 0, none⟩)) rfl (by kernel_rfl) (by kernel_rfl) (by kernel_rfl) (fun _ _ _ h => h) (Or.inl ⟨by kernel_rfl, fun w9 h9 => ?_⟩) HSB.out ?_
                          · go_simp
                          refine wpAnyH_take (i := 5) (v := .int .i64 z.kind) rfl (by kernel_rfl) (by kernel_rfl) (by kernel_rfl) (fun _ _ _ h => h) (Or.inl ⟨by kernel_rfl, fun w9 h9 => ?_⟩) HSB.out ?_
                          · obtain ⟨hlg, hbx, y2, _⟩ := h9; have k0 := hlg.cel 0 _ rfl; have k1 := hlg.cel 1 _ rfl; have k2 := hlg.cel 2 _ rfl; have x2 := hbx.cel 2 _ rfl; go_simp
                          refine wpAnyH_take (i := 6) (v := .bool false) rfl (by kernel_rfl) (by kernel_rfl) (by kernel_rfl) (fun _ _ _ h => h) (Or.inl ⟨by kernel_rfl, fun w9 h9 => ?_⟩) HSB.out ?_
                          · go_simp; all_goals omega
                          refine wpAnyH_take (i := 7) (v := .bool false) rfl (by kernel_rfl) (by kernel_rfl) (by kernel_rfl) (fun _ _ _ h => h) (Or.inl ⟨by kernel_rfl, fun w9 h9 => ?_⟩) HSB.out ?_
                          · go_simp
                          refine wpAnyH_take (i := 8) (v := .bool false) rfl (by kernel_rfl) (by kernel_rfl) (by kernel_rfl) (fun _ _ _ h => h) (Or.inl ⟨by kernel_rfl, fun w9 h9 => ?_⟩) HSB.out ?_
                          · go_simp
                          refine wpAnyH_take (i := 9) (v := .pointer (some ⟨b0, 1, none⟩)) rfl (by kernel_rfl) (by kernel_rfl) (by kernel_rfl) (fun _ _ _ h => h) (Or.inl ⟨by kernel_rfl, fun w9 h9 => ?_⟩) HSB.out ?_
                          · go_simp
                          refine wpAnyH_take (i := 10) (v := .int .i64 z.port) rfl (by kernel_rfl) (by kernel_rfl) (by kernel_rfl) (fun _ _ _ h => h) (Or.inl ⟨by kernel_rfl, fun w9 h9 => ?_⟩) HSB.out ?_
                          · obtain ⟨hlg, hbx, y2, _⟩ := h9; have k0 := hlg.cel 0 _ rfl; have k1 := hlg.cel 1 _ rfl; have k2 := hlg.cel 2 _ rfl; have x2 := hbx.cel 2 _ rfl; go_simp
                          refine wpAnyH_take (i := 11) (v := .bool false) rfl (by kernel_rfl) (by kernel_rfl) (by kernel_rfl) (fun _ _ _ h => h) (Or.inl ⟨by kernel_rfl, fun w9 h9 => ?_⟩) HSB.out ?_
                          · go_simp; all_goals omega
                          refine wpAnyH_take (i := 12) (v := .bool false) rfl (by kernel_rfl) (by kernel_rfl) (by kernel_rfl) (fun _ _ _ h => h) (Or.inl ⟨by kernel_rfl, fun w9 h9 => ?_⟩) HSB.out ?_
                          · go_simp
                          refine wpAnyH_take (i := 13) (v := .bool false) rfl (by kernel_rfl) (by kernel_rfl) (by kernel_rfl) (fun _ _ _ h => h) (Or.inl ⟨by kernel_rfl, fun w9 h9 => ?_⟩) HSB.out ?_
                          · go_simp
                          refine wpAnyH_take (i := 14) (v := .pointer (some ⟨b0, 1, none⟩)) rfl (by kernel_rfl) (by kernel_rfl) (by kernel_rfl) (fun _ _ _ h => h) (Or.inl ⟨by kernel_rfl, fun w9 h9 => ?_⟩) HSB.out ?_
                          · go_simp
                          refine wpAnyH_take (i := 15) (v := .int .i64 z.port) rfl (by kernel_rfl) (by kernel_rfl) (by kernel_rfl) (fun _ _ _ h => h) (Or.inl ⟨by kernel_rfl, fun w9 h9 => ?_⟩) HSB.out ?_
                          · obtain ⟨hlg, hbx, y2, _⟩ := h9; have k0 := hlg.cel 0 _ rfl; have k1 := hlg.cel 1 _ rfl; have k2 := hlg.cel 2 _ rfl; have x2 := hbx.cel 2 _ rfl; go_simp
                          refine wpAnyH_take (i := 16) (v := .bool true) rfl (by kernel_rfl) (by kernel_rfl) (by kernel_rfl) (fun _ _ _ h => h) (Or.inl ⟨by kernel_rfl, fun w9 h9 => ?_⟩) HSB.out ?_
                          · go_simp; all_goals omega
                          refine wpAnyH_take (i := 17) (v := .bool true) rfl (by kernel_rfl) (by kernel_rfl) (by kernel_rfl) (fun _ _ _ h => h) (Or.inl ⟨by kernel_rfl, fun w9 h9 => ?_⟩) HSB.out ?_
                          · go_simp
                          refine wpAnyH_take (i := 18) (v := .bool true) rfl (by kernel_rfl) (by kernel_rfl) (by kernel_rfl) (fun _ _ _ h => h) (Or.inl ⟨by kernel_rfl, fun w9 h9 => ?_⟩) HSB.out ?_
                          · go_simp
                          refine wpAnyH_take (i := 19) (v := undef) rfl (by kernel_rfl) (by kernel_rfl) (by kernel_rfl) (fun _ _ _ h => h) (Or.inr ⟨by kernel_rfl, rfl⟩) HSB.out ?_
                          refine wpAnyH_take (i := 20) (v := undef) rfl (by kernel_rfl) (by kernel_rfl) (by kernel_rfl) (fun _ _ _ h => h) (Or.inr ⟨by kernel_rfl, rfl⟩) HSB.out ?_
                          refine wpAnyH_take (i := 21) (v := undef) rfl (by kernel_rfl) (by kernel_rfl) (by kernel_rfl) (fun _ _ _ h => h) (Or.inr ⟨by kernel_rfl, rfl⟩) HSB.out ?_
                          refine wpAnyH_take (i := 22) (v := .bool true) rfl (by kernel_rfl) (by kernel_rfl) (by kernel_rfl) (fun _ _ _ h => h) (Or.inl ⟨by kernel_rfl, fun w9 h9 => ?_⟩) HSB.out ?_
                          · go_simp
                          refine wpAnyH_take (i := 23) (v := .bool true) rfl (by kernel_rfl) (by kernel_rfl) (by kernel_rfl) (fun _ _ _ h => h) (Or.inl ⟨by kernel_rfl, fun w9 h9 => ?_⟩) HSB.out ?_
                          · go_simp
                          refine wpAnyH_take (i := 24) (v := undef) rfl (by kernel_rfl) (by kernel_rfl) (by kernel_rfl) (fun _ _ _ h => h) (Or.inr ⟨by kernel_rfl, rfl⟩) HSB.out ?_
                          refine wpAnyH_take (i := 25) (v := undef) rfl (by kernel_rfl) (by kernel_rfl) (by kernel_rfl) (fun _ _ _ h => h) (Or.inr ⟨by kernel_rfl, rfl⟩) HSB.out ?_
                          refine wpAnyH_take (i := 26) (v := undef) rfl (by kernel_rfl) (by kernel_rfl) (by kernel_rfl) (fun _ _ _ h => h) (Or.inr ⟨by kernel_rfl, rfl⟩) HSB.out ?_
                          refine wpAnyH_take (i := 27) (v := .bool true) rfl (by kernel_rfl) (by kernel_rfl) (by kernel_rfl) (fun _ _ _ h => h) (Or.inl ⟨by kernel_rfl, fun w9 h9 => ?_⟩) HSB.out ?_
                          · go_simp
                          refine wpAnyH_take (i := 28) (v := .bool true) rfl (by kernel_rfl) (by kernel_rfl) (by kernel_rfl) (fun _ _ _ h => h) (Or.inl ⟨by kernel_rfl, fun w9 h9 => ?_⟩) HSB.out ?_
                          · go_simp
                          refine wpAnyH_take (i := 29) (v := undef) rfl (by kernel_rfl) (by kernel_rfl) (by kernel_rfl) (fun _ _ _ h => h) (Or.inr ⟨by kernel_rfl, rfl⟩) HSB.out ?_
                          refine wpAnyH_take (i := 30) (v := undef) rfl (by kernel_rfl) (by kernel_rfl) (by kernel_rfl) (fun _ _ _ h => h) (Or.inr ⟨by kernel_rfl, rfl⟩) HSB.out ?_
                          refine wpAnyH_take (i := 31) (v := undef) rfl (by kernel_rfl) (by kernel_rfl) (by kernel_rfl) (fun _ _ _ h => h) (Or.inr ⟨by kernel_rfl, rfl⟩) HSB.out ?_
                          refine wpAnyH_take (i := 32) (v := undef) rfl (by kernel_rfl) (by kernel_rfl) (by kernel_rfl) (fun _ _ _ h => h) (Or.inr ⟨by kernel_rfl, rfl⟩) HSB.out ?_
                          refine wpAnyH_take (i := 33) (v := undef) rfl (by kernel_rfl) (by kernel_rfl) (by kernel_rfl) (fun _ _ _ h => h) (Or.inr ⟨by kernel_rfl, rfl⟩) HSB.out ?_
                          refine wpAnyH_take (i := 34) (v := undef) rfl (by kernel_rfl) (by kernel_rfl) (by kernel_rfl) (fun _ _ _ h => h) (Or.inr ⟨by kernel_rfl, rfl⟩) HSB.out ?_
                          refine wpAnyH_take (i := 35) (v := undef) rfl (by kernel_rfl) (by kernel_rfl) (by kernel_rfl) (fun _ _ _ h => h) (Or.inr ⟨by kernel_rfl, rfl⟩) HSB.out ?_
                          refine wpAnyH_take (i := 36) (v := undef) rfl (by kernel_rfl) (by kernel_rfl) (by kernel_rfl) (fun _ _ _ h => h) (Or.inr ⟨by kernel_rfl, rfl⟩) HSB.out ?_
                          refine wpAnyH_take (i := 37) (v := undef) rfl (by kernel_rfl) (by kernel_rfl) (by kernel_rfl) (fun _ _ _ h => h) (Or.inr ⟨by kernel_rfl, rfl⟩) HSB.out ?_
                          refine wpAnyH_take (i := 38) (v := undef) rfl (by kernel_rfl) (by kernel_rfl) (by kernel_rfl) (fun _ _ _ h => h) (Or.inr ⟨by kernel_rfl, rfl⟩) HSB.out ?_
                          refine wpAnyH_take (i := 39) (v := undef) rfl (by kernel_rfl) (by kernel_rfl) (by kernel_rfl) (fun _ _ _ h => h) (Or.inr ⟨by kernel_rfl, rfl⟩) HSB.out ?_
                          refine wpAnyH_take (i := 40) (v := undef) rfl (by kernel_rfl) (by kernel_rfl) (by kernel_rfl) (fun _ _ _ h => h) (Or.inr ⟨by kernel_rfl, rfl⟩) HSB.out ?_
                          refine wpAnyH_take (i := 41) (v := undef) rfl (by kernel_rfl) (by kernel_rfl) (by kernel_rfl) (fun _ _ _ h => h) (Or.inr ⟨by kernel_rfl, rfl⟩) HSB.out ?_
                          refine wpAnyH_take (i := 42) (v := undef) rfl (by kernel_rfl) (by kernel_rfl) (by kernel_rfl) (fun _ _ _ h => h) (Or.inr ⟨by kernel_rfl, rfl⟩) HSB.out ?_
                          refine wpAnyH_take (i := 43) (v := .bool true) rfl (by kernel_rfl) (by kernel_rfl) (by kernel_rfl) (fun _ _ _ h => h) (Or.inl ⟨by kernel_rfl, fun w9 h9 => ?_⟩) HSB.out ?_
                          · go_simp
                          refine wpAnyH_done (by kernel_rfl) ?_ _
                          go_simp
                          go_wp2
                          go_ret
                          exact ⟨ret_int E2.out.symm, hbb ▸ HSB.out.1.bel⟩
                      · skip
                        have E2 : Hid (bfV f c zs = 1) := HBAD.out (HEK.out.trans (by rw [HE.out]; have r0 := of_decide_eq_false q0; have r1 := of_decide_eq_false q1; have r2 := of_decide_eq_true q2; simp; try omega))
                        clear HE HEK HBAD HS
                        go_upto_region 7 with fail
                        have y1 : (wr.alloc (.cells #[.int .i64 z.kind, .int .i64 z.port, .int .i64 z.line] 49)).cell? ⟨g, o + j * 3 + 1, none⟩ = _ := ((bx1 wr (.cells #[.int .i64 z.kind, .int .i64 z.port, .int .i64 z.line] 49)).cell (p := ⟨g, o + j * 3 + 1, none⟩) hgw).trans y0
                        have gl : g < (wr.alloc (.cells #[.int .i64 z.kind, .int .i64 z.port, .int .i64 z.line] 49)).heap.size := Nat.lt_of_lt_of_le hgw (bx1 wr (.cells #[.int .i64 z.kind, .int .i64 z.port, .int .i64 z.line] 49)).size
                        clear d0 d1 d2 c2 cl HX
                        clear y0
                        generalize (wr.alloc (.cells #[.int .i64 z.kind, .int .i64 z.port, .int .i64 z.line] 49)) = u0 at *
                        generalize wr.heap.size = b0 at *
                        have HSB : Hid ((fun w' => (LG w w' b0 #[.int .i64 z.kind, .int .i64 z.port, .int .i64 z.line] 49) ∧ (LG w w' bb #[.int .i64 f, .int .i64 c, .slice (some ⟨g, o, none⟩) zs.length cap] 29) ∧ w'.cell? ⟨g, o + j * 3 + 1, none⟩ = some (.int .i64 y.port) ∧ g < w'.heap.size) u0.drew) := ⟨HLN.out.drew, HX2.out.drew, y1, gl⟩
                        refine wp_region_held (S := fun w' => (LG w w' b0 #[.int .i64 z.kind, .int .i64 z.port, .int .i64 z.line] 49) ∧ (LG w w' bb #[.int .i64 f, .int .i64 c, .slice (some ⟨g, o, none⟩) zs.length cap] 29) ∧ w'.cell? ⟨g, o + j * 3 + 1, none⟩ = some (.int .i64 y.port) ∧ g < w'.heap.size) (by kernel_rfl) ?_
                        change wpAnyH _ _ _ _ _ _ _ _ (World.drew _)
                        refine wpAnyH_take (i := 0) (v := .pointer (some ⟨b0, 0, none⟩)) rfl (by kernel_rfl) (by kernel_rfl) (by kernel_rfl) (fun _ _ _ h => h) (Or.inl ⟨by kernel_rfl, fun w9 h9 => ?_⟩) HSB.out ?_
                        · go_simp
                        refine wpAnyH_take (i := 1) (v := .int .i64 z.kind) rfl (by kernel_rfl) (by kernel_rfl) (by kernel_rfl) (fun _ _ _ h => h) (Or.inl ⟨by kernel_rfl, fun w9 h9 => ?_⟩) HSB.out ?_
                        · obtain ⟨hlg, hbx, y2, _⟩ := h9; have k0 := hlg.cel 0 _ rfl; have k1 := hlg.cel 1 _ rfl; have k2 := hlg.cel 2 _ rfl; have x2 := hbx.cel 2 _ rfl; go_simp
                        refine wpAnyH_take (i := 2) (v := .bool false) rfl (by kernel_rfl) (by kernel_rfl) (by kernel_rfl) (fun _ _ _ h => h) (Or.inl ⟨by kernel_rfl, fun w9 h9 => ?_⟩) HSB.out ?_
                        · go_simp; all_goals omega
                        refine wpAnyH_take (i := 3) (v := .bool false) rfl (by kernel_rfl) (by kernel_rfl) (by kernel_rfl) (fun _ _ _ h => h) (Or.inl ⟨by kernel_rfl, fun w9 h9 => ?_⟩) HSB.out ?_
                        · go_simp
                        refine wpAnyH_take (i := 4) (v := .pointer (some ⟨b0, 0, none⟩)) rfl (by kernel_rfl) (by kernel_rfl) (by kernel_rfl) (fun _ _ _ h => h) (Or.inl ⟨by kernel_rfl, fun w9 h9 => ?_⟩) HSB.out ?_
                        · go_simp
                        refine wpAnyH_take (i := 5) (v := .int .i64 z.kind) rfl (by kernel_rfl) (by kernel_rfl) (by kernel_rfl) (fun _ _ _ h => h) (Or.inl ⟨by kernel_rfl, fun w9 h9 => ?_⟩) HSB.out ?_
                        · obtain ⟨hlg, hbx, y2, _⟩ := h9; have k0 := hlg.cel 0 _ rfl; have k1 := hlg.cel 1 _ rfl; have k2 := hlg.cel 2 _ rfl; have x2 := hbx.cel 2 _ rfl; go_simp
                        refine wpAnyH_take (i := 6) (v := .bool false) rfl (by kernel_rfl) (by kernel_rfl) (by kernel_rfl) (fun _ _ _ h => h) (Or.inl ⟨by kernel_rfl, fun w9 h9 => ?_⟩) HSB.out ?_
                        · go_simp; all_goals omega
                        refine wpAnyH_take (i := 7) (v := .bool false) rfl (by kernel_rfl) (by kernel_rfl) (by kernel_rfl) (fun _ _ _ h => h) (Or.inl ⟨by kernel_rfl, fun w9 h9 => ?_⟩) HSB.out ?_
                        · go_simp
                        refine wpAnyH_take (i := 8) (v := .bool false) rfl (by kernel_rfl) (by kernel_rfl) (by kernel_rfl) (fun _ _ _ h => h) (Or.inl ⟨by kernel_rfl, fun w9 h9 => ?_⟩) HSB.out ?_
                        · go_simp
                        refine wpAnyH_take (i := 9) (v := .pointer (some ⟨b0, 1, none⟩)) rfl (by kernel_rfl) (by kernel_rfl) (by kernel_rfl) (fun _ _ _ h => h) (Or.inl ⟨by kernel_rfl, fun w9 h9 => ?_⟩) HSB.out ?_
                        · go_simp
                        refine wpAnyH_take (i := 10) (v := .int .i64 z.port) rfl (by kernel_rfl) (by kernel_rfl) (by kernel_rfl) (fun _ _ _ h => h) (Or.inl ⟨by kernel_rfl, fun w9 h9 => ?_⟩) HSB.out ?_
                        · obtain ⟨hlg, hbx, y2, _⟩ := h9; have k0 := hlg.cel 0 _ rfl; have k1 := hlg.cel 1 _ rfl; have k2 := hlg.cel 2 _ rfl; have x2 := hbx.cel 2 _ rfl; go_simp
                        refine wpAnyH_take (i := 11) (v := .bool true) rfl (by kernel_rfl) (by kernel_rfl) (by kernel_rfl) (fun _ _ _ h => h) (Or.inl ⟨by kernel_rfl, fun w9 h9 => ?_⟩) HSB.out ?_
                        · go_simp; all_goals omega
                        refine wpAnyH_take (i := 12) (v := .bool true) rfl (by kernel_rfl) (by kernel_rfl) (by kernel_rfl) (fun _ _ _ h => h) (Or.inl ⟨by kernel_rfl, fun w9 h9 => ?_⟩) HSB.out ?_
                        · go_simp
                        refine wpAnyH_take (i := 13) (v := .bool true) rfl (by kernel_rfl) (by kernel_rfl) (by kernel_rfl) (fun _ _ _ h => h) (Or.inl ⟨by kernel_rfl, fun w9 h9 => ?_⟩) HSB.out ?_
                        · go_simp
                        refine wpAnyH_take (i := 14) (v := undef) rfl (by kernel_rfl) (by kernel_rfl) (by kernel_rfl) (fun _ _ _ h => h) (Or.inr ⟨by kernel_rfl, rfl⟩) HSB.out ?_
                        refine wpAnyH_take (i := 15) (v := undef) rfl (by kernel_rfl) (by kernel_rfl) (by kernel_rfl) (fun _ _ _ h => h) (Or.inr ⟨by kernel_rfl, rfl⟩) HSB.out ?_
                        refine wpAnyH_take (i := 16) (v := undef) rfl (by kernel_rfl) (by kernel_rfl) (by kernel_rfl) (fun _ _ _ h => h) (Or.inr ⟨by kernel_rfl, rfl⟩) HSB.out ?_
                        refine wpAnyH_take (i := 17) (v := .bool true) rfl (by kernel_rfl) (by kernel_rfl) (by kernel_rfl) (fun _ _ _ h => h) (Or.inl ⟨by kernel_rfl, fun w9 h9 => ?_⟩) HSB.out ?_
                        · go_simp
                        refine wpAnyH_take (i := 18) (v := .bool true) rfl (by kernel_rfl) (by kernel_rfl) (by kernel_rfl) (fun _ _ _ h => h) (Or.inl ⟨by kernel_rfl, fun w9 h9 => ?_⟩) HSB.out ?_
                        · go_simp
                        refine wpAnyH_take (i := 19) (v := undef) rfl (by kernel_rfl) (by kernel_rfl) (by kernel_rfl) (fun _ _ _ h => h) (Or.inr ⟨by kernel_rfl, rfl⟩) HSB.out ?_
                        refine wpAnyH_take (i := 20) (v := undef) rfl (by kernel_rfl) (by kernel_rfl) (by kernel_rfl) (fun _ _ _ h => h) (Or.inr ⟨by kernel_rfl, rfl⟩) HSB.out ?_
                        refine wpAnyH_take (i := 21) (v := undef) rfl (by kernel_rfl) (by kernel_rfl) (by kernel_rfl) (fun _ _ _ h => h) (Or.inr ⟨by kernel_rfl, rfl⟩) HSB.out ?_
                        refine wpAnyH_take (i := 22) (v := .bool true) rfl (by kernel_rfl) (by kernel_rfl) (by kernel_rfl) (fun _ _ _ h => h) (Or.inl ⟨by kernel_rfl, fun w9 h9 => ?_⟩) HSB.out ?_
                        · go_simp
                        refine wpAnyH_take (i := 23) (v := .bool true) rfl (by kernel_rfl) (by kernel_rfl) (by kernel_rfl) (fun _ _ _ h => h) (Or.inl ⟨by kernel_rfl, fun w9 h9 => ?_⟩) HSB.out ?_
                        · go_simp
                        refine wpAnyH_take (i := 24) (v := undef) rfl (by kernel_rfl) (by kernel_rfl) (by kernel_rfl) (fun _ _ _ h => h) (Or.inr ⟨by kernel_rfl, rfl⟩) HSB.out ?_
                        refine wpAnyH_take (i := 25) (v := undef) rfl (by kernel_rfl) (by kernel_rfl) (by kernel_rfl) (fun _ _ _ h => h) (Or.inr ⟨by kernel_rfl, rfl⟩) HSB.out ?_
                        refine wpAnyH_take (i := 26) (v := undef) rfl (by kernel_rfl) (by kernel_rfl) (by kernel_rfl) (fun _ _ _ h => h) (Or.inr ⟨by kernel_rfl, rfl⟩) HSB.out ?_
                        refine wpAnyH_take (i := 27) (v := .bool true) rfl (by kernel_rfl) (by kernel_rfl) (by kernel_rfl) (fun _ _ _ h => h) (Or.inl ⟨by kernel_rfl, fun w9 h9 => ?_⟩) HSB.out ?_
                        · go_simp
                        refine wpAnyH_take (i := 28) (v := .bool true) rfl (by kernel_rfl) (by kernel_rfl) (by kernel_rfl) (fun _ _ _ h => h) (Or.inl ⟨by kernel_rfl, fun w9 h9 => ?_⟩) HSB.out ?_
                        · go_simp
                        refine wpAnyH_take (i := 29) (v := undef) rfl (by kernel_rfl) (by kernel_rfl) (by kernel_rfl) (fun _ _ _ h => h) (Or.inr ⟨by kernel_rfl, rfl⟩) HSB.out ?_
                        refine wpAnyH_take (i := 30) (v := undef) rfl (by kernel_rfl) (by kernel_rfl) (by kernel_rfl) (fun _ _ _ h => h) (Or.inr ⟨by kernel_rfl, rfl⟩) HSB.out ?_
                        refine wpAnyH_take (i := 31) (v := undef) rfl (by kernel_rfl) (by kernel_rfl) (by kernel_rfl) (fun _ _ _ h => h) (Or.inr ⟨by kernel_rfl, rfl⟩) HSB.out ?_
                        refine wpAnyH_take (i := 32) (v := undef) rfl (by kernel_rfl) (by kernel_rfl) (by kernel_rfl) (fun _ _ _ h => h) (Or.inr ⟨by kernel_rfl, rfl⟩) HSB.out ?_
                        refine wpAnyH_take (i := 33) (v := undef) rfl (by kernel_rfl) (by kernel_rfl) (by kernel_rfl) (fun _ _ _ h => h) (Or.inr ⟨by kernel_rfl, rfl⟩) HSB.out ?_
                        refine wpAnyH_take (i := 34) (v := undef) rfl (by kernel_rfl) (by kernel_rfl) (by kernel_rfl) (fun _ _ _ h => h) (Or.inr ⟨by kernel_rfl, rfl⟩) HSB.out ?_
                        refine wpAnyH_take (i := 35) (v := undef) rfl (by kernel_rfl) (by kernel_rfl) (by kernel_rfl) (fun _ _ _ h => h) (Or.inr ⟨by kernel_rfl, rfl⟩) HSB.out ?_
                        refine wpAnyH_take (i := 36) (v := undef) rfl (by kernel_rfl) (by kernel_rfl) (by kernel_rfl) (fun _ _ _ h => h) (Or.inr ⟨by kernel_rfl, rfl⟩) HSB.out ?_
                        refine wpAnyH_take (i := 37) (v := undef) rfl (by kernel_rfl) (by kernel_rfl) (by kernel_rfl) (fun _ _ _ h => h) (Or.inr ⟨by kernel_rfl, rfl⟩) HSB.out ?_
                        refine wpAnyH_take (i := 38) (v := undef) rfl (by kernel_rfl) (by kernel_rfl) (by kernel_rfl) (fun _ _ _ h => h) (Or.inr ⟨by kernel_rfl, rfl⟩) HSB.out ?_
                        refine wpAnyH_take (i := 39) (v := undef) rfl (by kernel_rfl) (by kernel_rfl) (by kernel_rfl) (fun _ _ _ h => h) (Or.inr ⟨by kernel_rfl, rfl⟩) HSB.out ?_
                        refine wpAnyH_take (i := 40) (v := undef) rfl (by kernel_rfl) (by kernel_rfl) (by kernel_rfl) (fun _ _ _ h => h) (Or.inr ⟨by kernel_rfl, rfl⟩) HSB.out ?_
                        refine wpAnyH_take (i := 41) (v := undef) rfl (by kernel_rfl) (by kernel_rfl) (by kernel_rfl) (fun _ _ _ h => h) (Or.inr ⟨by kernel_rfl, rfl⟩) HSB.out ?_
                        refine wpAnyH_take (i := 42) (v := undef) rfl (by kernel_rfl) (by kernel_rfl) (by kernel_rfl) (fun _ _ _ h => h) (Or.inr ⟨by kernel_rfl, rfl⟩) HSB.out ?_
                        refine wpAnyH_take (i := 43) (v := .bool true) rfl (by kernel_rfl) (by kernel_rfl) (by kernel_rfl) (fun _ _ _ h => h) (Or.inl ⟨by kernel_rfl, fun w9 h9 => ?_⟩) HSB.out ?_
                        · go_simp
                        refine wpAnyH_done (by kernel_rfl) ?_ _
                        go_simp
                        go_wp2
                        go_ret
                        exact ⟨ret_int E2.out.symm, hbb ▸ HSB.out.1.bel⟩
                    · skip
                      have E2 : Hid (bfV f c zs = 1) := HBAD.out (HEK.out.trans (by rw [HE.out]; have r0 := of_decide_eq_false q0; have r1 := of_decide_eq_true q1; simp; try omega))
                      clear HE HEK HBAD HS
                      go_upto_region 7 with fail
                      have y1 : (wr.alloc (.cells #[.int .i64 z.kind, .int .i64 z.port, .int .i64 z.line] 49)).cell? ⟨g, o + j * 3 + 1, none⟩ = _ := ((bx1 wr (.cells #[.int .i64 z.kind, .int .i64 z.port, .int .i64 z.line] 49)).cell (p := ⟨g, o + j * 3 + 1, none⟩) hgw).trans y0
                      have gl : g < (wr.alloc (.cells #[.int .i64 z.kind, .int .i64 z.port, .int .i64 z.line] 49)).heap.size := Nat.lt_of_lt_of_le hgw (bx1 wr (.cells #[.int .i64 z.kind, .int .i64 z.port, .int .i64 z.line] 49)).size
                      clear d0 d1 d2 c2 cl HX
                      clear y0
                      generalize (wr.alloc (.cells #[.int .i64 z.kind, .int .i64 z.port, .int .i64 z.line] 49)) = u0 at *
                      generalize wr.heap.size = b0 at *
                      have HSB : Hid ((fun w' => (LG w w' b0 #[.int .i64 z.kind, .int .i64 z.port, .int .i64 z.line] 49) ∧ (LG w w' bb #[.int .i64 f, .int .i64 c, .slice (some ⟨g, o, none⟩) zs.length cap] 29) ∧ w'.cell? ⟨g, o + j * 3 + 1, none⟩ = some (.int .i64 y.port) ∧ g < w'.heap.size) u0.drew) := ⟨HLN.out.drew, HX2.out.drew, y1, gl⟩
                      refine wp_region_held (S := fun w' => (LG w w' b0 #[.int .i64 z.kind, .int .i64 z.port, .int .i64 z.line] 49) ∧ (LG w w' bb #[.int .i64 f, .int .i64 c, .slice (some ⟨g, o, none⟩) zs.length cap] 29) ∧ w'.cell? ⟨g, o + j * 3 + 1, none⟩ = some (.int .i64 y.port) ∧ g < w'.heap.size) (by kernel_rfl) ?_
                      change wpAnyH _ _ _ _ _ _ _ _ (World.drew _)
                      refine wpAnyH_take (i := 0) (v := .pointer (some ⟨b0, 0, none⟩)) rfl (by kernel_rfl) (by kernel_rfl) (by kernel_rfl) (fun _ _ _ h => h) (Or.inl ⟨by kernel_rfl, fun w9 h9 => ?_⟩) HSB.out ?_
                      · go_simp
                      refine wpAnyH_take (i := 1) (v := .int .i64 z.kind) rfl (by kernel_rfl) (by kernel_rfl) (by kernel_rfl) (fun _ _ _ h => h) (Or.inl ⟨by kernel_rfl, fun w9 h9 => ?_⟩) HSB.out ?_
                      · obtain ⟨hlg, hbx, y2, _⟩ := h9; have k0 := hlg.cel 0 _ rfl; have k1 := hlg.cel 1 _ rfl; have k2 := hlg.cel 2 _ rfl; have x2 := hbx.cel 2 _ rfl; go_simp
                      refine wpAnyH_take (i := 2) (v := .bool false) rfl (by kernel_rfl) (by kernel_rfl) (by kernel_rfl) (fun _ _ _ h => h) (Or.inl ⟨by kernel_rfl, fun w9 h9 => ?_⟩) HSB.out ?_
                      · go_simp; all_goals omega
                      refine wpAnyH_take (i := 3) (v := .bool false) rfl (by kernel_rfl) (by kernel_rfl) (by kernel_rfl) (fun _ _ _ h => h) (Or.inl ⟨by kernel_rfl, fun w9 h9 => ?_⟩) HSB.out ?_
                      · go_simp
                      refine wpAnyH_take (i := 4) (v := .pointer (some ⟨b0, 0, none⟩)) rfl (by kernel_rfl) (by kernel_rfl) (by kernel_rfl) (fun _ _ _ h => h) (Or.inl ⟨by kernel_rfl, fun w9 h9 => ?_⟩) HSB.out ?_
                      · go_simp
                      refine wpAnyH_take (i := 5) (v := .int .i64 z.kind) rfl (by kernel_rfl) (by kernel_rfl) (by kernel_rfl) (fun _ _ _ h => h) (Or.inl ⟨by kernel_rfl, fun w9 h9 => ?_⟩) HSB.out ?_
                      · obtain ⟨hlg, hbx, y2, _⟩ := h9; have k0 := hlg.cel 0 _ rfl; have k1 := hlg.cel 1 _ rfl; have k2 := hlg.cel 2 _ rfl; have x2 := hbx.cel 2 _ rfl; go_simp
                      refine wpAnyH_take (i := 6) (v := .bool true) rfl (by kernel_rfl) (by kernel_rfl) (by kernel_rfl) (fun _ _ _ h => h) (Or.inl ⟨by kernel_rfl, fun w9 h9 => ?_⟩) HSB.out ?_
                      · go_simp; all_goals omega
                      refine wpAnyH_take (i := 7) (v := .bool true) rfl (by kernel_rfl) (by kernel_rfl) (by kernel_rfl) (fun _ _ _ h => h) (Or.inl ⟨by kernel_rfl, fun w9 h9 => ?_⟩) HSB.out ?_
                      · go_simp
                      refine wpAnyH_take (i := 8) (v := .bool true) rfl (by kernel_rfl) (by kernel_rfl) (by kernel_rfl) (fun _ _ _ h => h) (Or.inl ⟨by kernel_rfl, fun w9 h9 => ?_⟩) HSB.out ?_
                      · go_simp
                      refine wpAnyH_take (i := 9) (v := undef) rfl (by kernel_rfl) (by kernel_rfl) (by kernel_rfl) (fun _ _ _ h => h) (Or.inr ⟨by kernel_rfl, rfl⟩) HSB.out ?_
                      refine wpAnyH_take (i := 10) (v := undef) rfl (by kernel_rfl) (by kernel_rfl) (by kernel_rfl) (fun _ _ _ h => h) (Or.inr ⟨by kernel_rfl, rfl⟩) HSB.out ?_
                      refine wpAnyH_take (i := 11) (v := undef) rfl (by kernel_rfl) (by kernel_rfl) (by kernel_rfl) (fun _ _ _ h => h) (Or.inr ⟨by kernel_rfl, rfl⟩) HSB.out ?_
                      refine wpAnyH_take (i := 12) (v := .bool true) rfl (by kernel_rfl) (by kernel_rfl) (by kernel_rfl) (fun _ _ _ h => h) (Or.inl ⟨by kernel_rfl, fun w9 h9 => ?_⟩) HSB.out ?_
                      · go_simp
                      refine wpAnyH_take (i := 13) (v := .bool true) rfl (by kernel_rfl) (by kernel_rfl) (by kernel_rfl) (fun _ _ _ h => h) (Or.inl ⟨by kernel_rfl, fun w9 h9 => ?_⟩) HSB.out ?_
                      · go_simp
                      refine wpAnyH_take (i := 14) (v := undef) rfl (by kernel_rfl) (by kernel_rfl) (by kernel_rfl) (fun _ _ _ h => h) (Or.inr ⟨by kernel_rfl, rfl⟩) HSB.out ?_
                      refine wpAnyH_take (i := 15) (v := undef) rfl (by kernel_rfl) (by kernel_rfl) (by kernel_rfl) (fun _ _ _ h => h) (Or.inr ⟨by kernel_rfl, rfl⟩) HSB.out ?_
                      refine wpAnyH_take (i := 16) (v := undef) rfl (by kernel_rfl) (by kernel_rfl) (by kernel_rfl) (fun _ _ _ h => h) (Or.inr ⟨by kernel_rfl, rfl⟩) HSB.out ?_
                      refine wpAnyH_take (i := 17) (v := .bool true) rfl (by kernel_rfl) (by kernel_rfl) (by kernel_rfl) (fun _ _ _ h => h) (Or.inl ⟨by kernel_rfl, fun w9 h9 => ?_⟩) HSB.out ?_
                      · go_simp
                      refine wpAnyH_take (i := 18) (v := .bool true) rfl (by kernel_rfl) (by kernel_rfl) (by kernel_rfl) (fun _ _ _ h => h) (Or.inl ⟨by kernel_rfl, fun w9 h9 => ?_⟩) HSB.out ?_
                      · go_simp
                      refine wpAnyH_take (i := 19) (v := undef) rfl (by kernel_rfl) (by kernel_rfl) (by kernel_rfl) (fun _ _ _ h => h) (Or.inr ⟨by kernel_rfl, rfl⟩) HSB.out ?_
                      refine wpAnyH_take (i := 20) (v := undef) rfl (by kernel_rfl) (by kernel_rfl) (by kernel_rfl) (fun _ _ _ h => h) (Or.inr ⟨by kernel_rfl, rfl⟩) HSB.out ?_
                      refine wpAnyH_take (i := 21) (v := undef) rfl (by kernel_rfl) (by kernel_rfl) (by kernel_rfl) (fun _ _ _ h => h) (Or.inr ⟨by kernel_rfl, rfl⟩) HSB.out ?_
                      refine wpAnyH_take (i := 22) (v := .bool true) rfl (by kernel_rfl) (by kernel_rfl) (by kernel_rfl) (fun _ _ _ h => h) (Or.inl ⟨by kernel_rfl, fun w9 h9 => ?_⟩) HSB.out ?_
                      · go_simp
                      refine wpAnyH_take (i := 23) (v := .bool true) rfl (by kernel_rfl) (by kernel_rfl) (by kernel_rfl) (fun _ _ _ h => h) (Or.inl ⟨by kernel_rfl, fun w9 h9 => ?_⟩) HSB.out ?_
                      · go_simp
                      refine wpAnyH_take (i := 24) (v := undef) rfl (by kernel_rfl) (by kernel_rfl) (by kernel_rfl) (fun _ _ _ h => h) (Or.inr ⟨by kernel_rfl, rfl⟩) HSB.out ?_
                      refine wpAnyH_take (i := 25) (v := undef) rfl (by kernel_rfl) (by kernel_rfl) (by kernel_rfl) (fun _ _ _ h => h) (Or.inr ⟨by kernel_rfl, rfl⟩) HSB.out ?_
                      refine wpAnyH_take (i := 26) (v := undef) rfl (by kernel_rfl) (by kernel_rfl) (by kernel_rfl) (fun _ _ _ h => h) (Or.inr ⟨by kernel_rfl, rfl⟩) HSB.out ?_
                      refine wpAnyH_take (i := 27) (v := .bool true) rfl (by kernel_rfl) (by kernel_rfl) (by kernel_rfl) (fun _ _ _ h => h) (Or.inl ⟨by kernel_rfl, fun w9 h9 => ?_⟩) HSB.out ?_
                      · go_simp
                      refine wpAnyH_take (i := 28) (v := .bool true) rfl (by kernel_rfl) (by kernel_rfl) (by kernel_rfl) (fun _ _ _ h => h) (Or.inl ⟨by kernel_rfl, fun w9 h9 => ?_⟩) HSB.out ?_
                      · go_simp
                      refine wpAnyH_take (i := 29) (v := undef) rfl (by kernel_rfl) (by kernel_rfl) (by kernel_rfl) (fun _ _ _ h => h) (Or.inr ⟨by kernel_rfl, rfl⟩) HSB.out ?_
                      refine wpAnyH_take (i := 30) (v := undef) rfl (by kernel_rfl) (by kernel_rfl) (by kernel_rfl) (fun _ _ _ h => h) (Or.inr ⟨by kernel_rfl, rfl⟩) HSB.out ?_
                      refine wpAnyH_take (i := 31) (v := undef) rfl (by kernel_rfl) (by kernel_rfl) (by kernel_rfl) (fun _ _ _ h => h) (Or.inr ⟨by kernel_rfl, rfl⟩) HSB.out ?_
                      refine wpAnyH_take (i := 32) (v := undef) rfl (by kernel_rfl) (by kernel_rfl) (by kernel_rfl) (fun _ _ _ h => h) (Or.inr ⟨by kernel_rfl, rfl⟩) HSB.out ?_
                      refine wpAnyH_take (i := 33) (v := undef) rfl (by kernel_rfl) (by kernel_rfl) (by kernel_rfl) (fun _ _ _ h => h) (Or.inr ⟨by kernel_rfl, rfl⟩) HSB.out ?_
                      refine wpAnyH_take (i := 34) (v := undef) rfl (by kernel_rfl) (by kernel_rfl) (by kernel_rfl) (fun _ _ _ h => h) (Or.inr ⟨by kernel_rfl, rfl⟩) HSB.out ?_
                      refine wpAnyH_take (i := 35) (v := undef) rfl (by kernel_rfl) (by kernel_rfl) (by kernel_rfl) (fun _ _ _ h => h) (Or.inr ⟨by kernel_rfl, rfl⟩) HSB.out ?_
                      refine wpAnyH_take (i := 36) (v := undef) rfl (by kernel_rfl) (by kernel_rfl) (by kernel_rfl) (fun _ _ _ h => h) (Or.inr ⟨by kernel_rfl, rfl⟩) HSB.out ?_
                      refine wpAnyH_take (i := 37) (v := undef) rfl (by kernel_rfl) (by kernel_rfl) (by kernel_rfl) (fun _ _ _ h => h) (Or.inr ⟨by kernel_rfl, rfl⟩) HSB.out ?_
                      refine wpAnyH_take (i := 38) (v := undef) rfl (by kernel_rfl) (by kernel_rfl) (by kernel_rfl) (fun _ _ _ h => h) (Or.inr ⟨by kernel_rfl, rfl⟩) HSB.out ?_
                      refine wpAnyH_take (i := 39) (v := undef) rfl (by kernel_rfl) (by kernel_rfl) (by kernel_rfl) (fun _ _ _ h => h) (Or.inr ⟨by kernel_rfl, rfl⟩) HSB.out ?_
                      refine wpAnyH_take (i := 40) (v := undef) rfl (by kernel_rfl) (by kernel_rfl) (by kernel_rfl) (fun _ _ _ h => h) (Or.inr ⟨by kernel_rfl, rfl⟩) HSB.out ?_
                      refine wpAnyH_take (i := 41) (v := undef) rfl (by kernel_rfl) (by kernel_rfl) (by kernel_rfl) (fun _ _ _ h => h) (Or.inr ⟨by kernel_rfl, rfl⟩) HSB.out ?_
                      refine wpAnyH_take (i := 42) (v := undef) rfl (by kernel_rfl) (by kernel_rfl) (by kernel_rfl) (fun _ _ _ h => h) (Or.inr ⟨by kernel_rfl, rfl⟩) HSB.out ?_
                      refine wpAnyH_take (i := 43) (v := .bool true) rfl (by kernel_rfl) (by kernel_rfl) (by kernel_rfl) (fun _ _ _ h => h) (Or.inl ⟨by kernel_rfl, fun w9 h9 => ?_⟩) HSB.out ?_
                      · go_simp
                      refine wpAnyH_done (by kernel_rfl) ?_ _
                      go_simp
                      go_wp2
                      go_ret
                      exact ⟨ret_int E2.out.symm, hbb ▸ HSB.out.1.bel⟩
                  · skip
                    have E2 : Hid (bfV f c zs = 1) := HBAD.out (HEK.out.trans (by rw [HE.out]; have r0 := of_decide_eq_true q0; simp; try omega))
                    clear HE HEK HBAD HS
                    go_upto_region 7 with fail
                    have y1 : (wr.alloc (.cells #[.int .i64 z.kind, .int .i64 z.port, .int .i64 z.line] 49)).cell? ⟨g, o + j * 3 + 1, none⟩ = _ := ((bx1 wr (.cells #[.int .i64 z.kind, .int .i64 z.port, .int .i64 z.line] 49)).cell (p := ⟨g, o + j * 3 + 1, none⟩) hgw).trans y0
                    have gl : g < (wr.alloc (.cells #[.int .i64 z.kind, .int .i64 z.port, .int .i64 z.line] 49)).heap.size := Nat.lt_of_lt_of_le hgw (bx1 wr (.cells #[.int .i64 z.kind, .int .i64 z.port, .int .i64 z.line] 49)).size
                    clear d0 d1 d2 c2 cl HX
                    clear y0
                    generalize (wr.alloc (.cells #[.int .i64 z.kind, .int .i64 z.port, .int .i64 z.line] 49)) = u0 at *
                    generalize wr.heap.size = b0 at *
                    have HSB : Hid ((fun w' => (LG w w' b0 #[.int .i64 z.kind, .int .i64 z.port, .int .i64 z.line] 49) ∧ (LG w w' bb #[.int .i64 f, .int .i64 c, .slice (some ⟨g, o, none⟩) zs.length cap] 29) ∧ w'.cell? ⟨g, o + j * 3 + 1, none⟩ = some (.int .i64 y.port) ∧ g < w'.heap.size) u0.drew) := ⟨HLN.out.drew, HX2.out.drew, y1, gl⟩
                    refine wp_region_held (S := fun w' => (LG w w' b0 #[.int .i64 z.kind, .int .i64 z.port, .int .i64 z.line] 49) ∧ (LG w w' bb #[.int .i64 f, .int .i64 c, .slice (some ⟨g, o, none⟩) zs.length cap] 29) ∧ w'.cell? ⟨g, o + j * 3 + 1, none⟩ = some (.int .i64 y.port) ∧ g < w'.heap.size) (by kernel_rfl) ?_
                    change wpAnyH _ _ _ _ _ _ _ _ (World.drew _)
                    refine wpAnyH_take (i := 0) (v := .pointer (some ⟨b0, 0, none⟩)) rfl (by kernel_rfl) (by kernel_rfl) (by kernel_rfl) (fun _ _ _ h => h) (Or.inl ⟨by kernel_rfl, fun w9 h9 => ?_⟩) HSB.out ?_
                    · go_simp
                    refine wpAnyH_take (i := 1) (v := .int .i64 z.kind) rfl (by kernel_rfl) (by kernel_rfl) (by kernel_rfl) (fun _ _ _ h => h) (Or.inl ⟨by kernel_rfl, fun w9 h9 => ?_⟩) HSB.out ?_
                    · obtain ⟨hlg, hbx, y2, _⟩ := h9; have k0 := hlg.cel 0 _ rfl; have k1 := hlg.cel 1 _ rfl; have k2 := hlg.cel 2 _ rfl; have x2 := hbx.cel 2 _ rfl; go_simp
                    refine wpAnyH_take (i := 2) (v := .bool true) rfl (by kernel_rfl) (by kernel_rfl) (by kernel_rfl) (fun _ _ _ h => h) (Or.inl ⟨by kernel_rfl, fun w9 h9 => ?_⟩) HSB.out ?_
                    · go_simp; all_goals omega
                    refine wpAnyH_take (i := 3) (v := .bool true) rfl (by kernel_rfl) (by kernel_rfl) (by kernel_rfl) (fun _ _ _ h => h) (Or.inl ⟨by kernel_rfl, fun w9 h9 => ?_⟩) HSB.out ?_
                    · go_simp
                    refine wpAnyH_take (i := 4) (v := undef) rfl (by kernel_rfl) (by kernel_rfl) (by kernel_rfl) (fun _ _ _ h => h) (Or.inr ⟨by kernel_rfl, rfl⟩) HSB.out ?_
                    refine wpAnyH_take (i := 5) (v := undef) rfl (by kernel_rfl) (by kernel_rfl) (by kernel_rfl) (fun _ _ _ h => h) (Or.inr ⟨by kernel_rfl, rfl⟩) HSB.out ?_
                    refine wpAnyH_take (i := 6) (v := undef) rfl (by kernel_rfl) (by kernel_rfl) (by kernel_rfl) (fun _ _ _ h => h) (Or.inr ⟨by kernel_rfl, rfl⟩) HSB.out ?_
                    refine wpAnyH_take (i := 7) (v := .bool true) rfl (by kernel_rfl) (by kernel_rfl) (by kernel_rfl) (fun _ _ _ h => h) (Or.inl ⟨by kernel_rfl, fun w9 h9 => ?_⟩) HSB.out ?_
                    · go_simp
                    refine wpAnyH_take (i := 8) (v := .bool true) rfl (by kernel_rfl) (by kernel_rfl) (by kernel_rfl) (fun _ _ _ h => h) (Or.inl ⟨by kernel_rfl, fun w9 h9 => ?_⟩) HSB.out ?_
                    · go_simp
                    refine wpAnyH_take (i := 9) (v := undef) rfl (by kernel_rfl) (by kernel_rfl) (by kernel_rfl) (fun _ _ _ h => h) (Or.inr ⟨by kernel_rfl, rfl⟩) HSB.out ?_
                    refine wpAnyH_take (i := 10) (v := undef) rfl (by kernel_rfl) (by kernel_rfl) (by kernel_rfl) (fun _ _ _ h => h) (Or.inr ⟨by kernel_rfl, rfl⟩) HSB.out ?_
                    refine wpAnyH_take (i := 11) (v := undef) rfl (by kernel_rfl) (by kernel_rfl) (by kernel_rfl) (fun _ _ _ h => h) (Or.inr ⟨by kernel_rfl, rfl⟩) HSB.out ?_
                    refine wpAnyH_take (i := 12) (v := .bool true) rfl (by kernel_rfl) (by kernel_rfl) (by kernel_rfl) (fun _ _ _ h => h) (Or.inl ⟨by kernel_rfl, fun w9 h9 => ?_⟩) HSB.out ?_
                    · go_simp
                    refine wpAnyH_take (i := 13) (v := .bool true) rfl (by kernel_rfl) (by kernel_rfl) (by kernel_rfl) (fun _ _ _ h => h) (Or.inl ⟨by kernel_rfl, fun w9 h9 => ?_⟩) HSB.out ?_
                    · go_simp
                    refine wpAnyH_take (i := 14) (v := undef) rfl (by kernel_rfl) (by kernel_rfl) (by kernel_rfl) (fun _ _ _ h => h) (Or.inr ⟨by kernel_rfl, rfl⟩) HSB.out ?_
                    refine wpAnyH_take (i := 15) (v := undef) rfl (by kernel_rfl) (by kernel_rfl) (by kernel_rfl) (fun _ _ _ h => h) (Or.inr ⟨by kernel_rfl, rfl⟩) HSB.out ?_
                    refine wpAnyH_take (i := 16) (v := undef) rfl (by kernel_rfl) (by kernel_rfl) (by kernel_rfl) (fun _ _ _ h => h) (Or.inr ⟨by kernel_rfl, rfl⟩) HSB.out ?_
                    refine wpAnyH_take (i := 17) (v := .bool true) rfl (by kernel_rfl) (by kernel_rfl) (by kernel_rfl) (fun _ _ _ h => h) (Or.inl ⟨by kernel_rfl, fun w9 h9 => ?_⟩) HSB.out ?_
                    · go_simp
                    refine wpAnyH_take (i := 18) (v := .bool true) rfl (by kernel_rfl) (by kernel_rfl) (by kernel_rfl) (fun _ _ _ h => h) (Or.inl ⟨by kernel_rfl, fun w9 h9 => ?_⟩) HSB.out ?_
                    · go_simp
                    refine wpAnyH_take (i := 19) (v := undef) rfl (by kernel_rfl) (by kernel_rfl) (by kernel_rfl) (fun _ _ _ h => h) (Or.inr ⟨by kernel_rfl, rfl⟩) HSB.out ?_
                    refine wpAnyH_take (i := 20) (v := undef) rfl (by kernel_rfl) (by kernel_rfl) (by kernel_rfl) (fun _ _ _ h => h) (Or.inr ⟨by kernel_rfl, rfl⟩) HSB.out ?_
                    refine wpAnyH_take (i := 21) (v := undef) rfl (by kernel_rfl) (by kernel_rfl) (by kernel_rfl) (fun _ _ _ h => h) (Or.inr ⟨by kernel_rfl, rfl⟩) HSB.out ?_
                    refine wpAnyH_take (i := 22) (v := .bool true) rfl (by kernel_rfl) (by kernel_rfl) (by kernel_rfl) (fun _ _ _ h => h) (Or.inl ⟨by kernel_rfl, fun w9 h9 => ?_⟩) HSB.out ?_
                    · go_simp
                    refine wpAnyH_take (i := 23) (v := .bool true) rfl (by kernel_rfl) (by kernel_rfl) (by kernel_rfl) (fun _ _ _ h => h) (Or.inl ⟨by kernel_rfl, fun w9 h9 => ?_⟩) HSB.out ?_
                    · go_simp
                    refine wpAnyH_take (i := 24) (v := undef) rfl (by kernel_rfl) (by kernel_rfl) (by kernel_rfl) (fun _ _ _ h => h) (Or.inr ⟨by kernel_rfl, rfl⟩) HSB.out ?_
                    refine wpAnyH_take (i := 25) (v := undef) rfl (by kernel_rfl) (by kernel_rfl) (by kernel_rfl) (fun _ _ _ h => h) (Or.inr ⟨by kernel_rfl, rfl⟩) HSB.out ?_
                    refine wpAnyH_take (i := 26) (v := undef) rfl (by kernel_rfl) (by kernel_rfl) (by kernel_rfl) (fun _ _ _ h => h) (Or.inr ⟨by kernel_rfl, rfl⟩) HSB.out ?_
                    refine wpAnyH_take (i := 27) (v := .bool true) rfl (by kernel_rfl) (by kernel_rfl) (by kernel_rfl) (fun _ _ _ h => h) (Or.inl ⟨by kernel_rfl, fun w9 h9 => ?_⟩) HSB.out ?_
                    · go_simp
                    refine wpAnyH_take (i := 28) (v := .bool true) rfl (by kernel_rfl) (by kernel_rfl) (by kernel_rfl) (fun _ _ _ h => h) (Or.inl ⟨by kernel_rfl, fun w9 h9 => ?_⟩) HSB.out ?_
                    · go_simp
                    refine wpAnyH_take (i := 29) (v := undef) rfl (by kernel_rfl) (by kernel_rfl) (by kernel_rfl) (fun _ _ _ h => h) (Or.inr ⟨by kernel_rfl, rfl⟩) HSB.out ?_
                    refine wpAnyH_take (i := 30) (v := undef) rfl (by kernel_rfl) (by kernel_rfl) (by kernel_rfl) (fun _ _ _ h => h) (Or.inr ⟨by kernel_rfl, rfl⟩) HSB.out ?_
                    refine wpAnyH_take (i := 31) (v := undef) rfl (by kernel_rfl) (by kernel_rfl) (by kernel_rfl) (fun _ _ _ h => h) (Or.inr ⟨by kernel_rfl, rfl⟩) HSB.out ?_
                    refine wpAnyH_take (i := 32) (v := undef) rfl (by kernel_rfl) (by kernel_rfl) (by kernel_rfl) (fun _ _ _ h => h) (Or.inr ⟨by kernel_rfl, rfl⟩) HSB.out ?_
                    refine wpAnyH_take (i := 33) (v := undef) rfl (by kernel_rfl) (by kernel_rfl) (by kernel_rfl) (fun _ _ _ h => h) (Or.inr ⟨by kernel_rfl, rfl⟩) HSB.out ?_
                    refine wpAnyH_take (i := 34) (v := undef) rfl (by kernel_rfl) (by kernel_rfl) (by kernel_rfl) (fun _ _ _ h => h) (Or.inr ⟨by kernel_rfl, rfl⟩) HSB.out ?_
                    refine wpAnyH_take (i := 35) (v := undef) rfl (by kernel_rfl) (by kernel_rfl) (by kernel_rfl) (fun _ _ _ h => h) (Or.inr ⟨by kernel_rfl, rfl⟩) HSB.out ?_
                    refine wpAnyH_take (i := 36) (v := undef) rfl (by kernel_rfl) (by kernel_rfl) (by kernel_rfl) (fun _ _ _ h => h) (Or.inr ⟨by kernel_rfl, rfl⟩) HSB.out ?_
                    refine wpAnyH_take (i := 37) (v := undef) rfl (by kernel_rfl) (by kernel_rfl) (by kernel_rfl) (fun _ _ _ h => h) (Or.inr ⟨by kernel_rfl, rfl⟩) HSB.out ?_
                    refine wpAnyH_take (i := 38) (v := undef) rfl (by kernel_rfl) (by kernel_rfl) (by kernel_rfl) (fun _ _ _ h => h) (Or.inr ⟨by kernel_rfl, rfl⟩) HSB.out ?_
                    refine wpAnyH_take (i := 39) (v := undef) rfl (by kernel_rfl) (by kernel_rfl) (by kernel_rfl) (fun _ _ _ h => h) (Or.inr ⟨by kernel_rfl, rfl⟩) HSB.out ?_
                    refine wpAnyH_take (i := 40) (v := undef) rfl (by kernel_rfl) (by kernel_rfl) (by kernel_rfl) (fun _ _ _ h => h) (Or.inr ⟨by kernel_rfl, rfl⟩) HSB.out ?_
                    refine wpAnyH_take (i := 41) (v := undef) rfl (by kernel_rfl) (by kernel_rfl) (by kernel_rfl) (fun _ _ _ h => h) (Or.inr ⟨by kernel_rfl, rfl⟩) HSB.out ?_
                    refine wpAnyH_take (i := 42) (v := undef) rfl (by kernel_rfl) (by kernel_rfl) (by kernel_rfl) (fun _ _ _ h => h) (Or.inr ⟨by kernel_rfl, rfl⟩) HSB.out ?_
                    refine wpAnyH_take (i := 43) (v := .bool true) rfl (by kernel_rfl) (by kernel_rfl) (by kernel_rfl) (fun _ _ _ h => h) (Or.inl ⟨by kernel_rfl, fun w9 h9 => ?_⟩) HSB.out ?_
                    · go_simp
                    refine wpAnyH_done (by kernel_rfl) ?_ _
                    go_simp
                    go_wp2
                    go_ret
                    exact ⟨ret_int E2.out.symm, hbb ▸ HSB.out.1.bel⟩
              · have hks : k = zs.length := by omega
                subst hks
                have hnl : ¬ ((zs.length : Nat) : Int) < (zs.length : Int) := by omega
                have E2 : Hid (bfV f c zs = 0) := (show bfV f c zs = 0 by rw [E.out, E0.out, HALL.out]; rfl)
                go_wp2
                go_ret
                exact ⟨ret_int E2.out.symm, hbb ▸ HB.out⟩
          · skip
            have E2 : Hid (bfV f c zs = 1) := (show (if (decide (2 ≤ f) && decide (f ≤ 256) && decide (1 ≤ c) && decide (c ≤ 8) && dsB zs) = true then (0 : Int) else 1) = 1 by rw [dsB_long (of_decide_eq_true q4)]; (try simp only [decide_eq_true_eq] at *); (try simp only [decide_eq_false_iff_not] at *); simp [*]; try omega)
            generalize bfV f c zs = V at *
            go_enter Try.func7, Try.ntmps7
            go_upto_region 1 with fail
            generalize (w.alloc (.cells #[.int .i64 f, .int .i64 c, .slice ao zs.length cap] 29)) = u0 at *
            generalize w.heap.size = b0 at *
            have k0 := HL0.out.cel 0 _ rfl
            have k1 := HL0.out.cel 1 _ rfl
            have k2 := HL0.out.cel 2 _ rfl
            have kl := HL0.out.lt
            go_wp2
            go_ret
            exact ⟨ret_int E2.out.symm, HL0.out.bel⟩
        · skip
          have E2 : Hid (bfV f c zs = 1) := (show (if (decide (2 ≤ f) && decide (f ≤ 256) && decide (1 ≤ c) && decide (c ≤ 8) && dsB zs) = true then (0 : Int) else 1) = 1 by (try simp only [decide_eq_true_eq] at *); (try simp only [decide_eq_false_iff_not] at *); simp [*]; try omega)
          generalize bfV f c zs = V at *
          go_enter Try.func7, Try.ntmps7
          go_upto_region 1 with fail
          generalize (w.alloc (.cells #[.int .i64 f, .int .i64 c, .slice ao zs.length cap] 29)) = u0 at *
          generalize w.heap.size = b0 at *
          have k0 := HL0.out.cel 0 _ rfl
          have k1 := HL0.out.cel 1 _ rfl
          have k2 := HL0.out.cel 2 _ rfl
          have kl := HL0.out.lt
          go_wp2
          go_ret
          exact ⟨ret_int E2.out.symm, HL0.out.bel⟩
      · skip
        have E2 : Hid (bfV f c zs = 1) := (show (if (decide (2 ≤ f) && decide (f ≤ 256) && decide (1 ≤ c) && decide (c ≤ 8) && dsB zs) = true then (0 : Int) else 1) = 1 by (try simp only [decide_eq_true_eq] at *); (try simp only [decide_eq_false_iff_not] at *); simp [*]; try omega)
        generalize bfV f c zs = V at *
        go_enter Try.func7, Try.ntmps7
        go_upto_region 1 with fail
        generalize (w.alloc (.cells #[.int .i64 f, .int .i64 c, .slice ao zs.length cap] 29)) = u0 at *
        generalize w.heap.size = b0 at *
        have k0 := HL0.out.cel 0 _ rfl
        have k1 := HL0.out.cel 1 _ rfl
        have k2 := HL0.out.cel 2 _ rfl
        have kl := HL0.out.lt
        go_wp2
        go_ret
        exact ⟨ret_int E2.out.symm, HL0.out.bel⟩
    · skip
      have E2 : Hid (bfV f c zs = 1) := (show (if (decide (2 ≤ f) && decide (f ≤ 256) && decide (1 ≤ c) && decide (c ≤ 8) && dsB zs) = true then (0 : Int) else 1) = 1 by (try simp only [decide_eq_true_eq] at *); (try simp only [decide_eq_false_iff_not] at *); simp [*]; try omega)
      generalize bfV f c zs = V at *
      go_enter Try.func7, Try.ntmps7
      go_upto_region 1 with fail
      generalize (w.alloc (.cells #[.int .i64 f, .int .i64 c, .slice ao zs.length cap] 29)) = u0 at *
      generalize w.heap.size = b0 at *
      have k0 := HL0.out.cel 0 _ rfl
      have k1 := HL0.out.cel 1 _ rfl
      have k2 := HL0.out.cel 2 _ rfl
      have kl := HL0.out.lt
      go_wp2
      go_ret
      exact ⟨ret_int E2.out.symm, HL0.out.bel⟩
  · skip
    have E2 : Hid (bfV f c zs = 1) := (show (if (decide (2 ≤ f) && decide (f ≤ 256) && decide (1 ≤ c) && decide (c ≤ 8) && dsB zs) = true then (0 : Int) else 1) = 1 by (try simp only [decide_eq_true_eq] at *); (try simp only [decide_eq_false_iff_not] at *); simp [*]; try omega)
    generalize bfV f c zs = V at *
    go_enter Try.func7, Try.ntmps7
    go_upto_region 1 with fail
    generalize (w.alloc (.cells #[.int .i64 f, .int .i64 c, .slice ao zs.length cap] 29)) = u0 at *
    generalize w.heap.size = b0 at *
    have k0 := HL0.out.cel 0 _ rfl
    have k1 := HL0.out.cel 1 _ rfl
    have k2 := HL0.out.cel 2 _ rfl
    have kl := HL0.out.lt
    go_wp2
    go_ret
    exact ⟨ret_int E2.out.symm, HL0.out.bel⟩
end Go.Proofs.Ytlpkkclmcgnapaa
