import Derived.Test.YtnbohdninedjdaaEf1
import Derived.Test.YtnbohdninedjdaaHl
import Derived.Deep.CutRange
import Derived.Deep.RegionWith
namespace Go.Proofs.Ytnbohdninedjdaa
open Go.ChangeShapes Go.WideShapes Go.ChangeAt Go.RowKit

set_option maxRecDepth 100000 in
set_option maxHeartbeats 4000000 in
theorem specEF_any {w : World} {v : Value} {zs : List EV} (h : EVrow w v zs) : Calls Try.prog 8 #[v] w fun e w' => e = .returned (.int .i64 (efV zs)) ∧ Below w.heap.size w w' := by
  have HR : Hid (EVrow w v zs) := h
  obtain ⟨ao, cap, rfl⟩ := h.sl
  clear h
  cases q0 : decide (200 < (zs.length : Int))
  rotate_left
  · have E : Hid (efV zs = 1) := efV_long (of_decide_eq_true q0)
    go_enter Try.func8, Try.ntmps8
    go_wp2
    go_ret
    exact ⟨ret_int E.out.symm, Below.refl _ _⟩
  have E : Hid (efV zs = if allN (evk zs) zs.length = true then 0 else 1) := efV_short (of_decide_eq_false q0)
  have r2 : zs.length ≤ 200 := by have := of_decide_eq_false q0; omega
  go_enter Try.func8, Try.ntmps8
  go_wp2
  clear q0
  go_loopw [3] (fun i wr => ∃ k : Nat, k ≤ zs.length ∧ i = .int .i64 k ∧ allN (evk zs) k = true ∧ Below w.heap.size w wr) (fun i _ => zs.length - (intOf i).toNat)
  case atStart => exact ⟨0, Nat.zero_le _, rfl, rfl, Below.refl _ _⟩
  case round =>
    obtain ⟨k, hk, rfl, hall, hb⟩ := hrel
    have HB : Hid (Below w.heap.size w wr) := hb
    have HALL : Hid (allN (evk zs) k = true) := hall
    clear hb hall
    by_cases hlt : k < zs.length
    · obtain ⟨g, o, cap2, hv, _, hg, hc⟩ := HR.out.resolve_left (fun h => by rw [h.1] at hlt; simp at hlt)
      injection hv with hv1 hv2 hv3
      subst hv1 hv3
      have hgw : g < wr.heap.size := Nat.lt_of_lt_of_le hg HB.out.size
      have hk0 : (0 : Int) ≤ (k : Int) := by omega
      have hk1 : (k : Int) < (zs.length : Int) := by omega
      have HS : Hid (allN (evk zs) (k + 1) = (allN (evk zs) k && evk zs k)) := allN_succ _ _
      have HBAD : Hid (evk zs k = false → efV zs = 1) := fun hh => by rw [E.out, allN_bad hlt hh]; rfl
      match k, hlt, hk, hk0, hk1, HALL, HS, HBAD with
      | 0, hlt, hk, hk0, hk1, HALL, HS, HBAD =>
        obtain ⟨d0, d1, d2, d3⟩ := hc.below HB.out hg 0 hlt
        simp only [Nat.zero_mul, Nat.add_zero] at d0 d1 d2 d3
        have HEK : Hid (evk zs 0 = evB zs[0]) := evk_0 hlt
        have hj4 : decide ((0 : Int) < ((0 : Nat) : Int)) = false := rfl
        generalize zs[0] = z at *
        have HLN : Hid (LG w (wr.alloc (.cells #[.int .i64 z.t, .int .i64 z.kind, .int .i64 z.num, .int .i64 z.val] 46)) wr.heap.size #[.int .i64 z.t, .int .i64 z.kind, .int .i64 z.num, .int .i64 z.val] 46) := ⟨HB.out.trans ((bx1 wr _).mono HB.out.size), heap_new _ _, HB.out.size⟩
        clear hc
        have HW : Hid (∀ u, Calls Try.prog 23 #[.int .i64 z.val] u fun e w' => e = .returned (.bool (isW z.val)) ∧ w' = u) := fun u => specIsWord_any z.val u
        have HE : Hid (evB z = (decide (0 ≤ z.t) && decide (z.t ≤ 1099511627776) && (((z.kind == 1) && decide (0 ≤ z.num) && decide (z.num < 7) && (z.val == 0)) || ((z.kind == 2) && decide (0 ≤ z.num) && decide (z.num ≤ 2047) && isW z.val)))) := rfl
        generalize evB z = V at *
        generalize isW z.val = I at *
        cases q0 : decide (z.t < 0)
        · skip
          cases q1 : decide (1099511627776 < z.t)
          · skip
            cases q2 : (z.kind == 1)
            · skip
              cases q3 : (z.kind == 2)
              · skip
                have E2 : Hid (efV zs = 1) := HBAD.out (HEK.out.trans (by rw [HE.out]; have rq0 := of_decide_eq_false q0; have rq1 := of_decide_eq_false q1; have rq2 := beq_eq_false_iff_ne.1 q2; have rq3 := beq_eq_false_iff_ne.1 q3; simp; try omega))
                clear HE HEK HBAD HS
                go_upto_region 7 with fail
                clear d0 d1 d2 d3
                generalize (wr.alloc (.cells #[.int .i64 z.t, .int .i64 z.kind, .int .i64 z.num, .int .i64 z.val] 46)) = u0 at *
                generalize wr.heap.size = b0 at *
                have HSB : Hid ((fun w' => LG w w' b0 #[.int .i64 z.t, .int .i64 z.kind, .int .i64 z.num, .int .i64 z.val] 46) u0.drew) := HLN.out.drew
                refine wp_region_held (S := fun w' => LG w w' b0 #[.int .i64 z.t, .int .i64 z.kind, .int .i64 z.num, .int .i64 z.val] 46) (by kernel_rfl) ?_
                change wpAnyH _ _ _ _ _ _ _ _ (World.drew _)
                refine wpAnyH_take (i := 0) (v := .pointer (some ⟨b0, 0, none⟩)) rfl (by kernel_rfl) (by kernel_rfl) (by kernel_rfl) (fun _ _ _ h => h) (Or.inl ⟨by kernel_rfl, fun w9 h9 => ?_⟩) HSB.out ?_
                · go_simp
                refine wpAnyH_take (i := 1) (v := .int .i64 z.t) rfl (by kernel_rfl) (by kernel_rfl) (by kernel_rfl) (fun _ _ _ h => h) (Or.inl ⟨by kernel_rfl, fun w9 h9 => ?_⟩) HSB.out ?_
                · have hlg := h9; have k0 := hlg.cel 0 _ rfl; have k1 := hlg.cel 1 _ rfl; have k2 := hlg.cel 2 _ rfl; have k3 := hlg.cel 3 _ rfl; go_simp
                refine wpAnyH_take (i := 2) (v := .bool false) rfl (by kernel_rfl) (by kernel_rfl) (by kernel_rfl) (fun _ _ _ h => h) (Or.inl ⟨by kernel_rfl, fun w9 h9 => ?_⟩) HSB.out ?_
                · go_simp; all_goals omega
                refine wpAnyH_take (i := 3) (v := .bool false) rfl (by kernel_rfl) (by kernel_rfl) (by kernel_rfl) (fun _ _ _ h => h) (Or.inl ⟨by kernel_rfl, fun w9 h9 => ?_⟩) HSB.out ?_
                · go_simp
                refine wpAnyH_take (i := 4) (v := .pointer (some ⟨b0, 0, none⟩)) rfl (by kernel_rfl) (by kernel_rfl) (by kernel_rfl) (fun _ _ _ h => h) (Or.inl ⟨by kernel_rfl, fun w9 h9 => ?_⟩) HSB.out ?_
                · go_simp
                refine wpAnyH_take (i := 5) (v := .int .i64 z.t) rfl (by kernel_rfl) (by kernel_rfl) (by kernel_rfl) (fun _ _ _ h => h) (Or.inl ⟨by kernel_rfl, fun w9 h9 => ?_⟩) HSB.out ?_
                · have hlg := h9; have k0 := hlg.cel 0 _ rfl; have k1 := hlg.cel 1 _ rfl; have k2 := hlg.cel 2 _ rfl; have k3 := hlg.cel 3 _ rfl; go_simp
                refine wpAnyH_take (i := 6) (v := .bool false) rfl (by kernel_rfl) (by kernel_rfl) (by kernel_rfl) (fun _ _ _ h => h) (Or.inl ⟨by kernel_rfl, fun w9 h9 => ?_⟩) HSB.out ?_
                · go_simp; all_goals omega
                refine wpAnyH_take (i := 7) (v := .bool false) rfl (by kernel_rfl) (by kernel_rfl) (by kernel_rfl) (fun _ _ _ h => h) (Or.inl ⟨by kernel_rfl, fun w9 h9 => ?_⟩) HSB.out ?_
                · go_simp
                refine wpAnyH_take (i := 8) (v := .bool false) rfl (by kernel_rfl) (by kernel_rfl) (by kernel_rfl) (fun _ _ _ h => h) (Or.inl ⟨by kernel_rfl, fun w9 h9 => ?_⟩) HSB.out ?_
                · go_simp
                refine wpAnyH_take (i := 9) (v := .int .i64 ((0 : Nat) : Int)) rfl (by kernel_rfl) (by kernel_rfl) (by kernel_rfl) (fun _ _ _ h => h) (Or.inl ⟨by kernel_rfl, fun w9 h9 => ?_⟩) HSB.out ?_
                · go_simp
                refine wpAnyH_take (i := 10) (v := .bool false) rfl (by kernel_rfl) (by kernel_rfl) (by kernel_rfl) (fun _ _ _ h => h) (Or.inl ⟨by kernel_rfl, fun w9 h9 => ?_⟩) HSB.out ?_
                · go_simp; all_goals omega
                refine wpAnyH_take (i := 11) (v := .bool false) rfl (by kernel_rfl) (by kernel_rfl) (by kernel_rfl) (fun _ _ _ h => h) (Or.inl ⟨by kernel_rfl, fun w9 h9 => ?_⟩) HSB.out ?_
                · go_simp
                refine wpAnyH_take (i := 12) (v := undef) rfl (by kernel_rfl) (by kernel_rfl) (by kernel_rfl) (fun _ _ _ h => h) (Or.inr ⟨by kernel_rfl, rfl⟩) HSB.out ?_
                refine wpAnyH_take (i := 13) (v := undef) rfl (by kernel_rfl) (by kernel_rfl) (by kernel_rfl) (fun _ _ _ h => h) (Or.inr ⟨by kernel_rfl, rfl⟩) HSB.out ?_
                refine wpAnyH_take (i := 14) (v := undef) rfl (by kernel_rfl) (by kernel_rfl) (by kernel_rfl) (fun _ _ _ h => h) (Or.inr ⟨by kernel_rfl, rfl⟩) HSB.out ?_
                refine wpAnyH_take (i := 15) (v := undef) rfl (by kernel_rfl) (by kernel_rfl) (by kernel_rfl) (fun _ _ _ h => h) (Or.inr ⟨by kernel_rfl, rfl⟩) HSB.out ?_
                refine wpAnyH_take (i := 16) (v := undef) rfl (by kernel_rfl) (by kernel_rfl) (by kernel_rfl) (fun _ _ _ h => h) (Or.inr ⟨by kernel_rfl, rfl⟩) HSB.out ?_
                refine wpAnyH_take (i := 17) (v := undef) rfl (by kernel_rfl) (by kernel_rfl) (by kernel_rfl) (fun _ _ _ h => h) (Or.inr ⟨by kernel_rfl, rfl⟩) HSB.out ?_
                refine wpAnyH_take (i := 18) (v := undef) rfl (by kernel_rfl) (by kernel_rfl) (by kernel_rfl) (fun _ _ _ h => h) (Or.inr ⟨by kernel_rfl, rfl⟩) HSB.out ?_
                refine wpAnyH_take (i := 19) (v := undef) rfl (by kernel_rfl) (by kernel_rfl) (by kernel_rfl) (fun _ _ _ h => h) (Or.inr ⟨by kernel_rfl, rfl⟩) HSB.out ?_
                refine wpAnyH_take (i := 20) (v := undef) rfl (by kernel_rfl) (by kernel_rfl) (by kernel_rfl) (fun _ _ _ h => h) (Or.inr ⟨by kernel_rfl, rfl⟩) HSB.out ?_
                refine wpAnyH_take (i := 21) (v := .bool false) rfl (by kernel_rfl) (by kernel_rfl) (by kernel_rfl) (fun _ _ _ h => h) (Or.inl ⟨by kernel_rfl, fun w9 h9 => ?_⟩) HSB.out ?_
                · go_simp
                refine wpAnyH_take (i := 22) (v := .bool false) rfl (by kernel_rfl) (by kernel_rfl) (by kernel_rfl) (fun _ _ _ h => h) (Or.inl ⟨by kernel_rfl, fun w9 h9 => ?_⟩) HSB.out ?_
                · go_simp
                refine wpAnyH_done (by kernel_rfl) ?_ _
                go_simp
                have hlg : Hid (LG w u0.drew b0 #[.int .i64 z.t, .int .i64 z.kind, .int .i64 z.num, .int .i64 z.val] 46) := HLN.out.drew
                have k0 := hlg.out.cel 0 _ rfl
                have k1 := hlg.out.cel 1 _ rfl
                have k2 := hlg.out.cel 2 _ rfl
                have k3 := hlg.out.cel 3 _ rfl
                have kl := hlg.out.lt
                go_wp2_with (go_at_call 23; refine Calls.mono (HW.out _) ?_; rintro e u1 ⟨rfl, hw1⟩; rw [hw1]; clear hw1)
                go_ret
                exact ⟨ret_int E2.out.symm, hlg.out.bel⟩
              · skip
                cases q4 : decide (z.num < 0)
                · skip
                  cases q5 : decide (2047 < z.num)
                  · skip
                    cases I
                    · skip
                      have E2 : Hid (efV zs = 1) := HBAD.out (HEK.out.trans (by rw [HE.out]; have rq0 := of_decide_eq_false q0; have rq1 := of_decide_eq_false q1; have rq2 := beq_eq_false_iff_ne.1 q2; have rq3 := beq_iff_eq.1 q3; have rq4 := of_decide_eq_false q4; have rq5 := of_decide_eq_false q5; simp; try omega))
                      clear HE HEK HBAD HS
                      go_upto_region 7 with fail
                      clear d0 d1 d2 d3
                      generalize (wr.alloc (.cells #[.int .i64 z.t, .int .i64 z.kind, .int .i64 z.num, .int .i64 z.val] 46)) = u0 at *
                      generalize wr.heap.size = b0 at *
                      have HSB : Hid ((fun w' => LG w w' b0 #[.int .i64 z.t, .int .i64 z.kind, .int .i64 z.num, .int .i64 z.val] 46) u0.drew) := HLN.out.drew
                      refine wp_region_held (S := fun w' => LG w w' b0 #[.int .i64 z.t, .int .i64 z.kind, .int .i64 z.num, .int .i64 z.val] 46) (by kernel_rfl) ?_
                      change wpAnyH _ _ _ _ _ _ _ _ (World.drew _)
                      refine wpAnyH_take (i := 0) (v := .pointer (some ⟨b0, 0, none⟩)) rfl (by kernel_rfl) (by kernel_rfl) (by kernel_rfl) (fun _ _ _ h => h) (Or.inl ⟨by kernel_rfl, fun w9 h9 => ?_⟩) HSB.out ?_
                      · go_simp
                      refine wpAnyH_take (i := 1) (v := .int .i64 z.t) rfl (by kernel_rfl) (by kernel_rfl) (by kernel_rfl) (fun _ _ _ h => h) (Or.inl ⟨by kernel_rfl, fun w9 h9 => ?_⟩) HSB.out ?_
                      · have hlg := h9; have k0 := hlg.cel 0 _ rfl; have k1 := hlg.cel 1 _ rfl; have k2 := hlg.cel 2 _ rfl; have k3 := hlg.cel 3 _ rfl; go_simp
                      refine wpAnyH_take (i := 2) (v := .bool false) rfl (by kernel_rfl) (by kernel_rfl) (by kernel_rfl) (fun _ _ _ h => h) (Or.inl ⟨by kernel_rfl, fun w9 h9 => ?_⟩) HSB.out ?_
                      · go_simp; all_goals omega
                      refine wpAnyH_take (i := 3) (v := .bool false) rfl (by kernel_rfl) (by kernel_rfl) (by kernel_rfl) (fun _ _ _ h => h) (Or.inl ⟨by kernel_rfl, fun w9 h9 => ?_⟩) HSB.out ?_
                      · go_simp
                      refine wpAnyH_take (i := 4) (v := .pointer (some ⟨b0, 0, none⟩)) rfl (by kernel_rfl) (by kernel_rfl) (by kernel_rfl) (fun _ _ _ h => h) (Or.inl ⟨by kernel_rfl, fun w9 h9 => ?_⟩) HSB.out ?_
                      · go_simp
                      refine wpAnyH_take (i := 5) (v := .int .i64 z.t) rfl (by kernel_rfl) (by kernel_rfl) (by kernel_rfl) (fun _ _ _ h => h) (Or.inl ⟨by kernel_rfl, fun w9 h9 => ?_⟩) HSB.out ?_
                      · have hlg := h9; have k0 := hlg.cel 0 _ rfl; have k1 := hlg.cel 1 _ rfl; have k2 := hlg.cel 2 _ rfl; have k3 := hlg.cel 3 _ rfl; go_simp
                      refine wpAnyH_take (i := 6) (v := .bool false) rfl (by kernel_rfl) (by kernel_rfl) (by kernel_rfl) (fun _ _ _ h => h) (Or.inl ⟨by kernel_rfl, fun w9 h9 => ?_⟩) HSB.out ?_
                      · go_simp; all_goals omega
                      refine wpAnyH_take (i := 7) (v := .bool false) rfl (by kernel_rfl) (by kernel_rfl) (by kernel_rfl) (fun _ _ _ h => h) (Or.inl ⟨by kernel_rfl, fun w9 h9 => ?_⟩) HSB.out ?_
                      · go_simp
                      refine wpAnyH_take (i := 8) (v := .bool false) rfl (by kernel_rfl) (by kernel_rfl) (by kernel_rfl) (fun _ _ _ h => h) (Or.inl ⟨by kernel_rfl, fun w9 h9 => ?_⟩) HSB.out ?_
                      · go_simp
                      refine wpAnyH_take (i := 9) (v := .int .i64 ((0 : Nat) : Int)) rfl (by kernel_rfl) (by kernel_rfl) (by kernel_rfl) (fun _ _ _ h => h) (Or.inl ⟨by kernel_rfl, fun w9 h9 => ?_⟩) HSB.out ?_
                      · go_simp
                      refine wpAnyH_take (i := 10) (v := .bool false) rfl (by kernel_rfl) (by kernel_rfl) (by kernel_rfl) (fun _ _ _ h => h) (Or.inl ⟨by kernel_rfl, fun w9 h9 => ?_⟩) HSB.out ?_
                      · go_simp; all_goals omega
                      refine wpAnyH_take (i := 11) (v := .bool false) rfl (by kernel_rfl) (by kernel_rfl) (by kernel_rfl) (fun _ _ _ h => h) (Or.inl ⟨by kernel_rfl, fun w9 h9 => ?_⟩) HSB.out ?_
                      · go_simp
                      refine wpAnyH_take (i := 12) (v := undef) rfl (by kernel_rfl) (by kernel_rfl) (by kernel_rfl) (fun _ _ _ h => h) (Or.inr ⟨by kernel_rfl, rfl⟩) HSB.out ?_
                      refine wpAnyH_take (i := 13) (v := undef) rfl (by kernel_rfl) (by kernel_rfl) (by kernel_rfl) (fun _ _ _ h => h) (Or.inr ⟨by kernel_rfl, rfl⟩) HSB.out ?_
                      refine wpAnyH_take (i := 14) (v := undef) rfl (by kernel_rfl) (by kernel_rfl) (by kernel_rfl) (fun _ _ _ h => h) (Or.inr ⟨by kernel_rfl, rfl⟩) HSB.out ?_
                      refine wpAnyH_take (i := 15) (v := undef) rfl (by kernel_rfl) (by kernel_rfl) (by kernel_rfl) (fun _ _ _ h => h) (Or.inr ⟨by kernel_rfl, rfl⟩) HSB.out ?_
                      refine wpAnyH_take (i := 16) (v := undef) rfl (by kernel_rfl) (by kernel_rfl) (by kernel_rfl) (fun _ _ _ h => h) (Or.inr ⟨by kernel_rfl, rfl⟩) HSB.out ?_
                      refine wpAnyH_take (i := 17) (v := undef) rfl (by kernel_rfl) (by kernel_rfl) (by kernel_rfl) (fun _ _ _ h => h) (Or.inr ⟨by kernel_rfl, rfl⟩) HSB.out ?_
                      refine wpAnyH_take (i := 18) (v := undef) rfl (by kernel_rfl) (by kernel_rfl) (by kernel_rfl) (fun _ _ _ h => h) (Or.inr ⟨by kernel_rfl, rfl⟩) HSB.out ?_
                      refine wpAnyH_take (i := 19) (v := undef) rfl (by kernel_rfl) (by kernel_rfl) (by kernel_rfl) (fun _ _ _ h => h) (Or.inr ⟨by kernel_rfl, rfl⟩) HSB.out ?_
                      refine wpAnyH_take (i := 20) (v := undef) rfl (by kernel_rfl) (by kernel_rfl) (by kernel_rfl) (fun _ _ _ h => h) (Or.inr ⟨by kernel_rfl, rfl⟩) HSB.out ?_
                      refine wpAnyH_take (i := 21) (v := .bool false) rfl (by kernel_rfl) (by kernel_rfl) (by kernel_rfl) (fun _ _ _ h => h) (Or.inl ⟨by kernel_rfl, fun w9 h9 => ?_⟩) HSB.out ?_
                      · go_simp
                      refine wpAnyH_take (i := 22) (v := .bool false) rfl (by kernel_rfl) (by kernel_rfl) (by kernel_rfl) (fun _ _ _ h => h) (Or.inl ⟨by kernel_rfl, fun w9 h9 => ?_⟩) HSB.out ?_
                      · go_simp
                      refine wpAnyH_done (by kernel_rfl) ?_ _
                      go_simp
                      have hlg : Hid (LG w u0.drew b0 #[.int .i64 z.t, .int .i64 z.kind, .int .i64 z.num, .int .i64 z.val] 46) := HLN.out.drew
                      have k0 := hlg.out.cel 0 _ rfl
                      have k1 := hlg.out.cel 1 _ rfl
                      have k2 := hlg.out.cel 2 _ rfl
                      have k3 := hlg.out.cel 3 _ rfl
                      have kl := hlg.out.lt
                      go_wp2_with (go_at_call 23; refine Calls.mono (HW.out _) ?_; rintro e u1 ⟨rfl, hw1⟩; rw [hw1]; clear hw1)
                      go_ret
                      exact ⟨ret_int E2.out.symm, hlg.out.bel⟩
                    · skip
                      have E2 : Hid (allN (evk zs) (1) = true) := (show allN (evk zs) (0 + 1) = true by rw [HS.out, HALL.out, HEK.out, HE.out]; have rq0 := of_decide_eq_false q0; have rq1 := of_decide_eq_false q1; have rq2 := beq_eq_false_iff_ne.1 q2; have rq3 := beq_iff_eq.1 q3; have rq4 := of_decide_eq_false q4; have rq5 := of_decide_eq_false q5; simp; try omega)
                      clear HE HEK HBAD HS
                      go_upto_region 7 with fail
                      clear d0 d1 d2 d3
                      generalize (wr.alloc (.cells #[.int .i64 z.t, .int .i64 z.kind, .int .i64 z.num, .int .i64 z.val] 46)) = u0 at *
                      generalize wr.heap.size = b0 at *
                      have HSB : Hid ((fun w' => LG w w' b0 #[.int .i64 z.t, .int .i64 z.kind, .int .i64 z.num, .int .i64 z.val] 46) u0.drew) := HLN.out.drew
                      refine wp_region_held (S := fun w' => LG w w' b0 #[.int .i64 z.t, .int .i64 z.kind, .int .i64 z.num, .int .i64 z.val] 46) (by kernel_rfl) ?_
                      change wpAnyH _ _ _ _ _ _ _ _ (World.drew _)
                      refine wpAnyH_take (i := 0) (v := .pointer (some ⟨b0, 0, none⟩)) rfl (by kernel_rfl) (by kernel_rfl) (by kernel_rfl) (fun _ _ _ h => h) (Or.inl ⟨by kernel_rfl, fun w9 h9 => ?_⟩) HSB.out ?_
                      · go_simp
                      refine wpAnyH_take (i := 1) (v := .int .i64 z.t) rfl (by kernel_rfl) (by kernel_rfl) (by kernel_rfl) (fun _ _ _ h => h) (Or.inl ⟨by kernel_rfl, fun w9 h9 => ?_⟩) HSB.out ?_
                      · have hlg := h9; have k0 := hlg.cel 0 _ rfl; have k1 := hlg.cel 1 _ rfl; have k2 := hlg.cel 2 _ rfl; have k3 := hlg.cel 3 _ rfl; go_simp
                      refine wpAnyH_take (i := 2) (v := .bool false) rfl (by kernel_rfl) (by kernel_rfl) (by kernel_rfl) (fun _ _ _ h => h) (Or.inl ⟨by kernel_rfl, fun w9 h9 => ?_⟩) HSB.out ?_
                      · go_simp; all_goals omega
                      refine wpAnyH_take (i := 3) (v := .bool false) rfl (by kernel_rfl) (by kernel_rfl) (by kernel_rfl) (fun _ _ _ h => h) (Or.inl ⟨by kernel_rfl, fun w9 h9 => ?_⟩) HSB.out ?_
                      · go_simp
                      refine wpAnyH_take (i := 4) (v := .pointer (some ⟨b0, 0, none⟩)) rfl (by kernel_rfl) (by kernel_rfl) (by kernel_rfl) (fun _ _ _ h => h) (Or.inl ⟨by kernel_rfl, fun w9 h9 => ?_⟩) HSB.out ?_
                      · go_simp
                      refine wpAnyH_take (i := 5) (v := .int .i64 z.t) rfl (by kernel_rfl) (by kernel_rfl) (by kernel_rfl) (fun _ _ _ h => h) (Or.inl ⟨by kernel_rfl, fun w9 h9 => ?_⟩) HSB.out ?_
                      · have hlg := h9; have k0 := hlg.cel 0 _ rfl; have k1 := hlg.cel 1 _ rfl; have k2 := hlg.cel 2 _ rfl; have k3 := hlg.cel 3 _ rfl; go_simp
                      refine wpAnyH_take (i := 6) (v := .bool false) rfl (by kernel_rfl) (by kernel_rfl) (by kernel_rfl) (fun _ _ _ h => h) (Or.inl ⟨by kernel_rfl, fun w9 h9 => ?_⟩) HSB.out ?_
                      · go_simp; all_goals omega
                      refine wpAnyH_take (i := 7) (v := .bool false) rfl (by kernel_rfl) (by kernel_rfl) (by kernel_rfl) (fun _ _ _ h => h) (Or.inl ⟨by kernel_rfl, fun w9 h9 => ?_⟩) HSB.out ?_
                      · go_simp
                      refine wpAnyH_take (i := 8) (v := .bool false) rfl (by kernel_rfl) (by kernel_rfl) (by kernel_rfl) (fun _ _ _ h => h) (Or.inl ⟨by kernel_rfl, fun w9 h9 => ?_⟩) HSB.out ?_
                      · go_simp
                      refine wpAnyH_take (i := 9) (v := .int .i64 ((0 : Nat) : Int)) rfl (by kernel_rfl) (by kernel_rfl) (by kernel_rfl) (fun _ _ _ h => h) (Or.inl ⟨by kernel_rfl, fun w9 h9 => ?_⟩) HSB.out ?_
                      · go_simp
                      refine wpAnyH_take (i := 10) (v := .bool false) rfl (by kernel_rfl) (by kernel_rfl) (by kernel_rfl) (fun _ _ _ h => h) (Or.inl ⟨by kernel_rfl, fun w9 h9 => ?_⟩) HSB.out ?_
                      · go_simp; all_goals omega
                      refine wpAnyH_take (i := 11) (v := .bool false) rfl (by kernel_rfl) (by kernel_rfl) (by kernel_rfl) (fun _ _ _ h => h) (Or.inl ⟨by kernel_rfl, fun w9 h9 => ?_⟩) HSB.out ?_
                      · go_simp
                      refine wpAnyH_take (i := 12) (v := undef) rfl (by kernel_rfl) (by kernel_rfl) (by kernel_rfl) (fun _ _ _ h => h) (Or.inr ⟨by kernel_rfl, rfl⟩) HSB.out ?_
                      refine wpAnyH_take (i := 13) (v := undef) rfl (by kernel_rfl) (by kernel_rfl) (by kernel_rfl) (fun _ _ _ h => h) (Or.inr ⟨by kernel_rfl, rfl⟩) HSB.out ?_
                      refine wpAnyH_take (i := 14) (v := undef) rfl (by kernel_rfl) (by kernel_rfl) (by kernel_rfl) (fun _ _ _ h => h) (Or.inr ⟨by kernel_rfl, rfl⟩) HSB.out ?_
                      refine wpAnyH_take (i := 15) (v := undef) rfl (by kernel_rfl) (by kernel_rfl) (by kernel_rfl) (fun _ _ _ h => h) (Or.inr ⟨by kernel_rfl, rfl⟩) HSB.out ?_
                      refine wpAnyH_take (i := 16) (v := undef) rfl (by kernel_rfl) (by kernel_rfl) (by kernel_rfl) (fun _ _ _ h => h) (Or.inr ⟨by kernel_rfl, rfl⟩) HSB.out ?_
                      refine wpAnyH_take (i := 17) (v := undef) rfl (by kernel_rfl) (by kernel_rfl) (by kernel_rfl) (fun _ _ _ h => h) (Or.inr ⟨by kernel_rfl, rfl⟩) HSB.out ?_
                      refine wpAnyH_take (i := 18) (v := undef) rfl (by kernel_rfl) (by kernel_rfl) (by kernel_rfl) (fun _ _ _ h => h) (Or.inr ⟨by kernel_rfl, rfl⟩) HSB.out ?_
                      refine wpAnyH_take (i := 19) (v := undef) rfl (by kernel_rfl) (by kernel_rfl) (by kernel_rfl) (fun _ _ _ h => h) (Or.inr ⟨by kernel_rfl, rfl⟩) HSB.out ?_
                      refine wpAnyH_take (i := 20) (v := undef) rfl (by kernel_rfl) (by kernel_rfl) (by kernel_rfl) (fun _ _ _ h => h) (Or.inr ⟨by kernel_rfl, rfl⟩) HSB.out ?_
                      refine wpAnyH_take (i := 21) (v := .bool false) rfl (by kernel_rfl) (by kernel_rfl) (by kernel_rfl) (fun _ _ _ h => h) (Or.inl ⟨by kernel_rfl, fun w9 h9 => ?_⟩) HSB.out ?_
                      · go_simp
                      refine wpAnyH_take (i := 22) (v := .bool false) rfl (by kernel_rfl) (by kernel_rfl) (by kernel_rfl) (fun _ _ _ h => h) (Or.inl ⟨by kernel_rfl, fun w9 h9 => ?_⟩) HSB.out ?_
                      · go_simp
                      refine wpAnyH_done (by kernel_rfl) ?_ _
                      go_simp
                      have hlg : Hid (LG w u0.drew b0 #[.int .i64 z.t, .int .i64 z.kind, .int .i64 z.num, .int .i64 z.val] 46) := HLN.out.drew
                      have k0 := hlg.out.cel 0 _ rfl
                      have k1 := hlg.out.cel 1 _ rfl
                      have k2 := hlg.out.cel 2 _ rfl
                      have k3 := hlg.out.cel 3 _ rfl
                      have kl := hlg.out.lt
                      go_wp2_with (go_at_call 23; refine Calls.mono (HW.out _) ?_; rintro e u1 ⟨rfl, hw1⟩; rw [hw1]; clear hw1)
                      exact ⟨⟨1, hlt, by go_num, E2.out, hlg.out.bel⟩, by simp [intOf]; omega⟩
                  · skip
                    have E2 : Hid (efV zs = 1) := HBAD.out (HEK.out.trans (by rw [HE.out]; have rq0 := of_decide_eq_false q0; have rq1 := of_decide_eq_false q1; have rq2 := beq_eq_false_iff_ne.1 q2; have rq3 := beq_iff_eq.1 q3; have rq4 := of_decide_eq_false q4; have rq5 := of_decide_eq_true q5; simp; try omega))
                    clear HE HEK HBAD HS
                    go_upto_region 7 with fail
                    clear d0 d1 d2 d3
                    generalize (wr.alloc (.cells #[.int .i64 z.t, .int .i64 z.kind, .int .i64 z.num, .int .i64 z.val] 46)) = u0 at *
                    generalize wr.heap.size = b0 at *
                    have HSB : Hid ((fun w' => LG w w' b0 #[.int .i64 z.t, .int .i64 z.kind, .int .i64 z.num, .int .i64 z.val] 46) u0.drew) := HLN.out.drew
                    refine wp_region_held (S := fun w' => LG w w' b0 #[.int .i64 z.t, .int .i64 z.kind, .int .i64 z.num, .int .i64 z.val] 46) (by kernel_rfl) ?_
                    change wpAnyH _ _ _ _ _ _ _ _ (World.drew _)
                    refine wpAnyH_take (i := 0) (v := .pointer (some ⟨b0, 0, none⟩)) rfl (by kernel_rfl) (by kernel_rfl) (by kernel_rfl) (fun _ _ _ h => h) (Or.inl ⟨by kernel_rfl, fun w9 h9 => ?_⟩) HSB.out ?_
                    · go_simp
                    refine wpAnyH_take (i := 1) (v := .int .i64 z.t) rfl (by kernel_rfl) (by kernel_rfl) (by kernel_rfl) (fun _ _ _ h => h) (Or.inl ⟨by kernel_rfl, fun w9 h9 => ?_⟩) HSB.out ?_
                    · have hlg := h9; have k0 := hlg.cel 0 _ rfl; have k1 := hlg.cel 1 _ rfl; have k2 := hlg.cel 2 _ rfl; have k3 := hlg.cel 3 _ rfl; go_simp
                    refine wpAnyH_take (i := 2) (v := .bool false) rfl (by kernel_rfl) (by kernel_rfl) (by kernel_rfl) (fun _ _ _ h => h) (Or.inl ⟨by kernel_rfl, fun w9 h9 => ?_⟩) HSB.out ?_
                    · go_simp; all_goals omega
                    refine wpAnyH_take (i := 3) (v := .bool false) rfl (by kernel_rfl) (by kernel_rfl) (by kernel_rfl) (fun _ _ _ h => h) (Or.inl ⟨by kernel_rfl, fun w9 h9 => ?_⟩) HSB.out ?_
                    · go_simp
                    refine wpAnyH_take (i := 4) (v := .pointer (some ⟨b0, 0, none⟩)) rfl (by kernel_rfl) (by kernel_rfl) (by kernel_rfl) (fun _ _ _ h => h) (Or.inl ⟨by kernel_rfl, fun w9 h9 => ?_⟩) HSB.out ?_
                    · go_simp
                    refine wpAnyH_take (i := 5) (v := .int .i64 z.t) rfl (by kernel_rfl) (by kernel_rfl) (by kernel_rfl) (fun _ _ _ h => h) (Or.inl ⟨by kernel_rfl, fun w9 h9 => ?_⟩) HSB.out ?_
                    · have hlg := h9; have k0 := hlg.cel 0 _ rfl; have k1 := hlg.cel 1 _ rfl; have k2 := hlg.cel 2 _ rfl; have k3 := hlg.cel 3 _ rfl; go_simp
                    refine wpAnyH_take (i := 6) (v := .bool false) rfl (by kernel_rfl) (by kernel_rfl) (by kernel_rfl) (fun _ _ _ h => h) (Or.inl ⟨by kernel_rfl, fun w9 h9 => ?_⟩) HSB.out ?_
                    · go_simp; all_goals omega
                    refine wpAnyH_take (i := 7) (v := .bool false) rfl (by kernel_rfl) (by kernel_rfl) (by kernel_rfl) (fun _ _ _ h => h) (Or.inl ⟨by kernel_rfl, fun w9 h9 => ?_⟩) HSB.out ?_
                    · go_simp
                    refine wpAnyH_take (i := 8) (v := .bool false) rfl (by kernel_rfl) (by kernel_rfl) (by kernel_rfl) (fun _ _ _ h => h) (Or.inl ⟨by kernel_rfl, fun w9 h9 => ?_⟩) HSB.out ?_
                    · go_simp
                    refine wpAnyH_take (i := 9) (v := .int .i64 ((0 : Nat) : Int)) rfl (by kernel_rfl) (by kernel_rfl) (by kernel_rfl) (fun _ _ _ h => h) (Or.inl ⟨by kernel_rfl, fun w9 h9 => ?_⟩) HSB.out ?_
                    · go_simp
                    refine wpAnyH_take (i := 10) (v := .bool false) rfl (by kernel_rfl) (by kernel_rfl) (by kernel_rfl) (fun _ _ _ h => h) (Or.inl ⟨by kernel_rfl, fun w9 h9 => ?_⟩) HSB.out ?_
                    · go_simp; all_goals omega
                    refine wpAnyH_take (i := 11) (v := .bool false) rfl (by kernel_rfl) (by kernel_rfl) (by kernel_rfl) (fun _ _ _ h => h) (Or.inl ⟨by kernel_rfl, fun w9 h9 => ?_⟩) HSB.out ?_
                    · go_simp
                    refine wpAnyH_take (i := 12) (v := undef) rfl (by kernel_rfl) (by kernel_rfl) (by kernel_rfl) (fun _ _ _ h => h) (Or.inr ⟨by kernel_rfl, rfl⟩) HSB.out ?_
                    refine wpAnyH_take (i := 13) (v := undef) rfl (by kernel_rfl) (by kernel_rfl) (by kernel_rfl) (fun _ _ _ h => h) (Or.inr ⟨by kernel_rfl, rfl⟩) HSB.out ?_
                    refine wpAnyH_take (i := 14) (v := undef) rfl (by kernel_rfl) (by kernel_rfl) (by kernel_rfl) (fun _ _ _ h => h) (Or.inr ⟨by kernel_rfl, rfl⟩) HSB.out ?_
                    refine wpAnyH_take (i := 15) (v := undef) rfl (by kernel_rfl) (by kernel_rfl) (by kernel_rfl) (fun _ _ _ h => h) (Or.inr ⟨by kernel_rfl, rfl⟩) HSB.out ?_
                    refine wpAnyH_take (i := 16) (v := undef) rfl (by kernel_rfl) (by kernel_rfl) (by kernel_rfl) (fun _ _ _ h => h) (Or.inr ⟨by kernel_rfl, rfl⟩) HSB.out ?_
                    refine wpAnyH_take (i := 17) (v := undef) rfl (by kernel_rfl) (by kernel_rfl) (by kernel_rfl) (fun _ _ _ h => h) (Or.inr ⟨by kernel_rfl, rfl⟩) HSB.out ?_
                    refine wpAnyH_take (i := 18) (v := undef) rfl (by kernel_rfl) (by kernel_rfl) (by kernel_rfl) (fun _ _ _ h => h) (Or.inr ⟨by kernel_rfl, rfl⟩) HSB.out ?_
                    refine wpAnyH_take (i := 19) (v := undef) rfl (by kernel_rfl) (by kernel_rfl) (by kernel_rfl) (fun _ _ _ h => h) (Or.inr ⟨by kernel_rfl, rfl⟩) HSB.out ?_
                    refine wpAnyH_take (i := 20) (v := undef) rfl (by kernel_rfl) (by kernel_rfl) (by kernel_rfl) (fun _ _ _ h => h) (Or.inr ⟨by kernel_rfl, rfl⟩) HSB.out ?_
                    refine wpAnyH_take (i := 21) (v := .bool false) rfl (by kernel_rfl) (by kernel_rfl) (by kernel_rfl) (fun _ _ _ h => h) (Or.inl ⟨by kernel_rfl, fun w9 h9 => ?_⟩) HSB.out ?_
                    · go_simp
                    refine wpAnyH_take (i := 22) (v := .bool false) rfl (by kernel_rfl) (by kernel_rfl) (by kernel_rfl) (fun _ _ _ h => h) (Or.inl ⟨by kernel_rfl, fun w9 h9 => ?_⟩) HSB.out ?_
                    · go_simp
                    refine wpAnyH_done (by kernel_rfl) ?_ _
                    go_simp
                    have hlg : Hid (LG w u0.drew b0 #[.int .i64 z.t, .int .i64 z.kind, .int .i64 z.num, .int .i64 z.val] 46) := HLN.out.drew
                    have k0 := hlg.out.cel 0 _ rfl
                    have k1 := hlg.out.cel 1 _ rfl
                    have k2 := hlg.out.cel 2 _ rfl
                    have k3 := hlg.out.cel 3 _ rfl
                    have kl := hlg.out.lt
                    go_wp2_with (go_at_call 23; refine Calls.mono (HW.out _) ?_; rintro e u1 ⟨rfl, hw1⟩; rw [hw1]; clear hw1)
                    go_ret
                    exact ⟨ret_int E2.out.symm, hlg.out.bel⟩
                · skip
                  have E2 : Hid (efV zs = 1) := HBAD.out (HEK.out.trans (by rw [HE.out]; have rq0 := of_decide_eq_false q0; have rq1 := of_decide_eq_false q1; have rq2 := beq_eq_false_iff_ne.1 q2; have rq3 := beq_iff_eq.1 q3; have rq4 := of_decide_eq_true q4; simp; try omega))
                  clear HE HEK HBAD HS
                  go_upto_region 7 with fail
                  clear d0 d1 d2 d3
                  generalize (wr.alloc (.cells #[.int .i64 z.t, .int .i64 z.kind, .int .i64 z.num, .int .i64 z.val] 46)) = u0 at *
                  generalize wr.heap.size = b0 at *
                  have HSB : Hid ((fun w' => LG w w' b0 #[.int .i64 z.t, .int .i64 z.kind, .int .i64 z.num, .int .i64 z.val] 46) u0.drew) := HLN.out.drew
                  refine wp_region_held (S := fun w' => LG w w' b0 #[.int .i64 z.t, .int .i64 z.kind, .int .i64 z.num, .int .i64 z.val] 46) (by kernel_rfl) ?_
                  change wpAnyH _ _ _ _ _ _ _ _ (World.drew _)
                  refine wpAnyH_take (i := 0) (v := .pointer (some ⟨b0, 0, none⟩)) rfl (by kernel_rfl) (by kernel_rfl) (by kernel_rfl) (fun _ _ _ h => h) (Or.inl ⟨by kernel_rfl, fun w9 h9 => ?_⟩) HSB.out ?_
                  · go_simp
                  refine wpAnyH_take (i := 1) (v := .int .i64 z.t) rfl (by kernel_rfl) (by kernel_rfl) (by kernel_rfl) (fun _ _ _ h => h) (Or.inl ⟨by kernel_rfl, fun w9 h9 => ?_⟩) HSB.out ?_
                  · have hlg := h9; have k0 := hlg.cel 0 _ rfl; have k1 := hlg.cel 1 _ rfl; have k2 := hlg.cel 2 _ rfl; have k3 := hlg.cel 3 _ rfl; go_simp
                  refine wpAnyH_take (i := 2) (v := .bool false) rfl (by kernel_rfl) (by kernel_rfl) (by kernel_rfl) (fun _ _ _ h => h) (Or.inl ⟨by kernel_rfl, fun w9 h9 => ?_⟩) HSB.out ?_
                  · go_simp; all_goals omega
                  refine wpAnyH_take (i := 3) (v := .bool false) rfl (by kernel_rfl) (by kernel_rfl) (by kernel_rfl) (fun _ _ _ h => h) (Or.inl ⟨by kernel_rfl, fun w9 h9 => ?_⟩) HSB.out ?_
                  · go_simp
                  refine wpAnyH_take (i := 4) (v := .pointer (some ⟨b0, 0, none⟩)) rfl (by kernel_rfl) (by kernel_rfl) (by kernel_rfl) (fun _ _ _ h => h) (Or.inl ⟨by kernel_rfl, fun w9 h9 => ?_⟩) HSB.out ?_
                  · go_simp
                  refine wpAnyH_take (i := 5) (v := .int .i64 z.t) rfl (by kernel_rfl) (by kernel_rfl) (by kernel_rfl) (fun _ _ _ h => h) (Or.inl ⟨by kernel_rfl, fun w9 h9 => ?_⟩) HSB.out ?_
                  · have hlg := h9; have k0 := hlg.cel 0 _ rfl; have k1 := hlg.cel 1 _ rfl; have k2 := hlg.cel 2 _ rfl; have k3 := hlg.cel 3 _ rfl; go_simp
                  refine wpAnyH_take (i := 6) (v := .bool false) rfl (by kernel_rfl) (by kernel_rfl) (by kernel_rfl) (fun _ _ _ h => h) (Or.inl ⟨by kernel_rfl, fun w9 h9 => ?_⟩) HSB.out ?_
                  · go_simp; all_goals omega
                  refine wpAnyH_take (i := 7) (v := .bool false) rfl (by kernel_rfl) (by kernel_rfl) (by kernel_rfl) (fun _ _ _ h => h) (Or.inl ⟨by kernel_rfl, fun w9 h9 => ?_⟩) HSB.out ?_
                  · go_simp
                  refine wpAnyH_take (i := 8) (v := .bool false) rfl (by kernel_rfl) (by kernel_rfl) (by kernel_rfl) (fun _ _ _ h => h) (Or.inl ⟨by kernel_rfl, fun w9 h9 => ?_⟩) HSB.out ?_
                  · go_simp
                  refine wpAnyH_take (i := 9) (v := .int .i64 ((0 : Nat) : Int)) rfl (by kernel_rfl) (by kernel_rfl) (by kernel_rfl) (fun _ _ _ h => h) (Or.inl ⟨by kernel_rfl, fun w9 h9 => ?_⟩) HSB.out ?_
                  · go_simp
                  refine wpAnyH_take (i := 10) (v := .bool false) rfl (by kernel_rfl) (by kernel_rfl) (by kernel_rfl) (fun _ _ _ h => h) (Or.inl ⟨by kernel_rfl, fun w9 h9 => ?_⟩) HSB.out ?_
                  · go_simp; all_goals omega
                  refine wpAnyH_take (i := 11) (v := .bool false) rfl (by kernel_rfl) (by kernel_rfl) (by kernel_rfl) (fun _ _ _ h => h) (Or.inl ⟨by kernel_rfl, fun w9 h9 => ?_⟩) HSB.out ?_
                  · go_simp
                  refine wpAnyH_take (i := 12) (v := undef) rfl (by kernel_rfl) (by kernel_rfl) (by kernel_rfl) (fun _ _ _ h => h) (Or.inr ⟨by kernel_rfl, rfl⟩) HSB.out ?_
                  refine wpAnyH_take (i := 13) (v := undef) rfl (by kernel_rfl) (by kernel_rfl) (by kernel_rfl) (fun _ _ _ h => h) (Or.inr ⟨by kernel_rfl, rfl⟩) HSB.out ?_
                  refine wpAnyH_take (i := 14) (v := undef) rfl (by kernel_rfl) (by kernel_rfl) (by kernel_rfl) (fun _ _ _ h => h) (Or.inr ⟨by kernel_rfl, rfl⟩) HSB.out ?_
                  refine wpAnyH_take (i := 15) (v := undef) rfl (by kernel_rfl) (by kernel_rfl) (by kernel_rfl) (fun _ _ _ h => h) (Or.inr ⟨by kernel_rfl, rfl⟩) HSB.out ?_
                  refine wpAnyH_take (i := 16) (v := undef) rfl (by kernel_rfl) (by kernel_rfl) (by kernel_rfl) (fun _ _ _ h => h) (Or.inr ⟨by kernel_rfl, rfl⟩) HSB.out ?_
                  refine wpAnyH_take (i := 17) (v := undef) rfl (by kernel_rfl) (by kernel_rfl) (by kernel_rfl) (fun _ _ _ h => h) (Or.inr ⟨by kernel_rfl, rfl⟩) HSB.out ?_
                  refine wpAnyH_take (i := 18) (v := undef) rfl (by kernel_rfl) (by kernel_rfl) (by kernel_rfl) (fun _ _ _ h => h) (Or.inr ⟨by kernel_rfl, rfl⟩) HSB.out ?_
                  refine wpAnyH_take (i := 19) (v := undef) rfl (by kernel_rfl) (by kernel_rfl) (by kernel_rfl) (fun _ _ _ h => h) (Or.inr ⟨by kernel_rfl, rfl⟩) HSB.out ?_
                  refine wpAnyH_take (i := 20) (v := undef) rfl (by kernel_rfl) (by kernel_rfl) (by kernel_rfl) (fun _ _ _ h => h) (Or.inr ⟨by kernel_rfl, rfl⟩) HSB.out ?_
                  refine wpAnyH_take (i := 21) (v := .bool false) rfl (by kernel_rfl) (by kernel_rfl) (by kernel_rfl) (fun _ _ _ h => h) (Or.inl ⟨by kernel_rfl, fun w9 h9 => ?_⟩) HSB.out ?_
                  · go_simp
                  refine wpAnyH_take (i := 22) (v := .bool false) rfl (by kernel_rfl) (by kernel_rfl) (by kernel_rfl) (fun _ _ _ h => h) (Or.inl ⟨by kernel_rfl, fun w9 h9 => ?_⟩) HSB.out ?_
                  · go_simp
                  refine wpAnyH_done (by kernel_rfl) ?_ _
                  go_simp
                  have hlg : Hid (LG w u0.drew b0 #[.int .i64 z.t, .int .i64 z.kind, .int .i64 z.num, .int .i64 z.val] 46) := HLN.out.drew
                  have k0 := hlg.out.cel 0 _ rfl
                  have k1 := hlg.out.cel 1 _ rfl
                  have k2 := hlg.out.cel 2 _ rfl
                  have k3 := hlg.out.cel 3 _ rfl
                  have kl := hlg.out.lt
                  go_wp2_with (go_at_call 23; refine Calls.mono (HW.out _) ?_; rintro e u1 ⟨rfl, hw1⟩; rw [hw1]; clear hw1)
                  go_ret
                  exact ⟨ret_int E2.out.symm, hlg.out.bel⟩
            · skip
              cases q3 : decide (z.num < 0)
              · skip
                cases q4 : decide (6 < z.num)
                · skip
                  cases q5 : (z.val != 0)
                  · skip
                    have E2 : Hid (allN (evk zs) (1) = true) := (show allN (evk zs) (0 + 1) = true by rw [HS.out, HALL.out, HEK.out, HE.out]; have rq0 := of_decide_eq_false q0; have rq1 := of_decide_eq_false q1; have rq2 := beq_iff_eq.1 q2; have rq3 := of_decide_eq_false q3; have rq4 := of_decide_eq_false q4; have rq5 := bne_eq_false_iff_eq.1 q5; simp; try omega)
                    clear HE HEK HBAD HS
                    go_upto_region 7 with fail
                    clear d0 d1 d2 d3
                    generalize (wr.alloc (.cells #[.int .i64 z.t, .int .i64 z.kind, .int .i64 z.num, .int .i64 z.val] 46)) = u0 at *
                    generalize wr.heap.size = b0 at *
                    have HSB : Hid ((fun w' => LG w w' b0 #[.int .i64 z.t, .int .i64 z.kind, .int .i64 z.num, .int .i64 z.val] 46) u0.drew) := HLN.out.drew
                    refine wp_region_held (S := fun w' => LG w w' b0 #[.int .i64 z.t, .int .i64 z.kind, .int .i64 z.num, .int .i64 z.val] 46) (by kernel_rfl) ?_
                    change wpAnyH _ _ _ _ _ _ _ _ (World.drew _)
                    refine wpAnyH_take (i := 0) (v := .pointer (some ⟨b0, 0, none⟩)) rfl (by kernel_rfl) (by kernel_rfl) (by kernel_rfl) (fun _ _ _ h => h) (Or.inl ⟨by kernel_rfl, fun w9 h9 => ?_⟩) HSB.out ?_
                    · go_simp
                    refine wpAnyH_take (i := 1) (v := .int .i64 z.t) rfl (by kernel_rfl) (by kernel_rfl) (by kernel_rfl) (fun _ _ _ h => h) (Or.inl ⟨by kernel_rfl, fun w9 h9 => ?_⟩) HSB.out ?_
                    · have hlg := h9; have k0 := hlg.cel 0 _ rfl; have k1 := hlg.cel 1 _ rfl; have k2 := hlg.cel 2 _ rfl; have k3 := hlg.cel 3 _ rfl; go_simp
                    refine wpAnyH_take (i := 2) (v := .bool false) rfl (by kernel_rfl) (by kernel_rfl) (by kernel_rfl) (fun _ _ _ h => h) (Or.inl ⟨by kernel_rfl, fun w9 h9 => ?_⟩) HSB.out ?_
                    · go_simp; all_goals omega
                    refine wpAnyH_take (i := 3) (v := .bool false) rfl (by kernel_rfl) (by kernel_rfl) (by kernel_rfl) (fun _ _ _ h => h) (Or.inl ⟨by kernel_rfl, fun w9 h9 => ?_⟩) HSB.out ?_
                    · go_simp
                    refine wpAnyH_take (i := 4) (v := .pointer (some ⟨b0, 0, none⟩)) rfl (by kernel_rfl) (by kernel_rfl) (by kernel_rfl) (fun _ _ _ h => h) (Or.inl ⟨by kernel_rfl, fun w9 h9 => ?_⟩) HSB.out ?_
                    · go_simp
                    refine wpAnyH_take (i := 5) (v := .int .i64 z.t) rfl (by kernel_rfl) (by kernel_rfl) (by kernel_rfl) (fun _ _ _ h => h) (Or.inl ⟨by kernel_rfl, fun w9 h9 => ?_⟩) HSB.out ?_
                    · have hlg := h9; have k0 := hlg.cel 0 _ rfl; have k1 := hlg.cel 1 _ rfl; have k2 := hlg.cel 2 _ rfl; have k3 := hlg.cel 3 _ rfl; go_simp
                    refine wpAnyH_take (i := 6) (v := .bool false) rfl (by kernel_rfl) (by kernel_rfl) (by kernel_rfl) (fun _ _ _ h => h) (Or.inl ⟨by kernel_rfl, fun w9 h9 => ?_⟩) HSB.out ?_
                    · go_simp; all_goals omega
                    refine wpAnyH_take (i := 7) (v := .bool false) rfl (by kernel_rfl) (by kernel_rfl) (by kernel_rfl) (fun _ _ _ h => h) (Or.inl ⟨by kernel_rfl, fun w9 h9 => ?_⟩) HSB.out ?_
                    · go_simp
                    refine wpAnyH_take (i := 8) (v := .bool false) rfl (by kernel_rfl) (by kernel_rfl) (by kernel_rfl) (fun _ _ _ h => h) (Or.inl ⟨by kernel_rfl, fun w9 h9 => ?_⟩) HSB.out ?_
                    · go_simp
                    refine wpAnyH_take (i := 9) (v := .int .i64 ((0 : Nat) : Int)) rfl (by kernel_rfl) (by kernel_rfl) (by kernel_rfl) (fun _ _ _ h => h) (Or.inl ⟨by kernel_rfl, fun w9 h9 => ?_⟩) HSB.out ?_
                    · go_simp
                    refine wpAnyH_take (i := 10) (v := .bool false) rfl (by kernel_rfl) (by kernel_rfl) (by kernel_rfl) (fun _ _ _ h => h) (Or.inl ⟨by kernel_rfl, fun w9 h9 => ?_⟩) HSB.out ?_
                    · go_simp; all_goals omega
                    refine wpAnyH_take (i := 11) (v := .bool false) rfl (by kernel_rfl) (by kernel_rfl) (by kernel_rfl) (fun _ _ _ h => h) (Or.inl ⟨by kernel_rfl, fun w9 h9 => ?_⟩) HSB.out ?_
                    · go_simp
                    refine wpAnyH_take (i := 12) (v := undef) rfl (by kernel_rfl) (by kernel_rfl) (by kernel_rfl) (fun _ _ _ h => h) (Or.inr ⟨by kernel_rfl, rfl⟩) HSB.out ?_
                    refine wpAnyH_take (i := 13) (v := undef) rfl (by kernel_rfl) (by kernel_rfl) (by kernel_rfl) (fun _ _ _ h => h) (Or.inr ⟨by kernel_rfl, rfl⟩) HSB.out ?_
                    refine wpAnyH_take (i := 14) (v := undef) rfl (by kernel_rfl) (by kernel_rfl) (by kernel_rfl) (fun _ _ _ h => h) (Or.inr ⟨by kernel_rfl, rfl⟩) HSB.out ?_
                    refine wpAnyH_take (i := 15) (v := undef) rfl (by kernel_rfl) (by kernel_rfl) (by kernel_rfl) (fun _ _ _ h => h) (Or.inr ⟨by kernel_rfl, rfl⟩) HSB.out ?_
                    refine wpAnyH_take (i := 16) (v := undef) rfl (by kernel_rfl) (by kernel_rfl) (by kernel_rfl) (fun _ _ _ h => h) (Or.inr ⟨by kernel_rfl, rfl⟩) HSB.out ?_
                    refine wpAnyH_take (i := 17) (v := undef) rfl (by kernel_rfl) (by kernel_rfl) (by kernel_rfl) (fun _ _ _ h => h) (Or.inr ⟨by kernel_rfl, rfl⟩) HSB.out ?_
                    refine wpAnyH_take (i := 18) (v := undef) rfl (by kernel_rfl) (by kernel_rfl) (by kernel_rfl) (fun _ _ _ h => h) (Or.inr ⟨by kernel_rfl, rfl⟩) HSB.out ?_
                    refine wpAnyH_take (i := 19) (v := undef) rfl (by kernel_rfl) (by kernel_rfl) (by kernel_rfl) (fun _ _ _ h => h) (Or.inr ⟨by kernel_rfl, rfl⟩) HSB.out ?_
                    refine wpAnyH_take (i := 20) (v := undef) rfl (by kernel_rfl) (by kernel_rfl) (by kernel_rfl) (fun _ _ _ h => h) (Or.inr ⟨by kernel_rfl, rfl⟩) HSB.out ?_
                    refine wpAnyH_take (i := 21) (v := .bool false) rfl (by kernel_rfl) (by kernel_rfl) (by kernel_rfl) (fun _ _ _ h => h) (Or.inl ⟨by kernel_rfl, fun w9 h9 => ?_⟩) HSB.out ?_
                    · go_simp
                    refine wpAnyH_take (i := 22) (v := .bool false) rfl (by kernel_rfl) (by kernel_rfl) (by kernel_rfl) (fun _ _ _ h => h) (Or.inl ⟨by kernel_rfl, fun w9 h9 => ?_⟩) HSB.out ?_
                    · go_simp
                    refine wpAnyH_done (by kernel_rfl) ?_ _
                    go_simp
                    have hlg : Hid (LG w u0.drew b0 #[.int .i64 z.t, .int .i64 z.kind, .int .i64 z.num, .int .i64 z.val] 46) := HLN.out.drew
                    have k0 := hlg.out.cel 0 _ rfl
                    have k1 := hlg.out.cel 1 _ rfl
                    have k2 := hlg.out.cel 2 _ rfl
                    have k3 := hlg.out.cel 3 _ rfl
                    have kl := hlg.out.lt
                    go_wp2_with (go_at_call 23; refine Calls.mono (HW.out _) ?_; rintro e u1 ⟨rfl, hw1⟩; rw [hw1]; clear hw1)
                    exact ⟨⟨1, hlt, by go_num, E2.out, hlg.out.bel⟩, by simp [intOf]; omega⟩
                  · skip
                    have E2 : Hid (efV zs = 1) := HBAD.out (HEK.out.trans (by rw [HE.out]; have rq0 := of_decide_eq_false q0; have rq1 := of_decide_eq_false q1; have rq2 := beq_iff_eq.1 q2; have rq3 := of_decide_eq_false q3; have rq4 := of_decide_eq_false q4; have rq5 := bne_iff_ne.1 q5; simp; try omega))
                    clear HE HEK HBAD HS
                    go_upto_region 7 with fail
                    clear d0 d1 d2 d3
                    generalize (wr.alloc (.cells #[.int .i64 z.t, .int .i64 z.kind, .int .i64 z.num, .int .i64 z.val] 46)) = u0 at *
                    generalize wr.heap.size = b0 at *
                    have HSB : Hid ((fun w' => LG w w' b0 #[.int .i64 z.t, .int .i64 z.kind, .int .i64 z.num, .int .i64 z.val] 46) u0.drew) := HLN.out.drew
                    refine wp_region_held (S := fun w' => LG w w' b0 #[.int .i64 z.t, .int .i64 z.kind, .int .i64 z.num, .int .i64 z.val] 46) (by kernel_rfl) ?_
                    change wpAnyH _ _ _ _ _ _ _ _ (World.drew _)
                    refine wpAnyH_take (i := 0) (v := .pointer (some ⟨b0, 0, none⟩)) rfl (by kernel_rfl) (by kernel_rfl) (by kernel_rfl) (fun _ _ _ h => h) (Or.inl ⟨by kernel_rfl, fun w9 h9 => ?_⟩) HSB.out ?_
                    · go_simp
                    refine wpAnyH_take (i := 1) (v := .int .i64 z.t) rfl (by kernel_rfl) (by kernel_rfl) (by kernel_rfl) (fun _ _ _ h => h) (Or.inl ⟨by kernel_rfl, fun w9 h9 => ?_⟩) HSB.out ?_
                    · have hlg := h9; have k0 := hlg.cel 0 _ rfl; have k1 := hlg.cel 1 _ rfl; have k2 := hlg.cel 2 _ rfl; have k3 := hlg.cel 3 _ rfl; go_simp
                    refine wpAnyH_take (i := 2) (v := .bool false) rfl (by kernel_rfl) (by kernel_rfl) (by kernel_rfl) (fun _ _ _ h => h) (Or.inl ⟨by kernel_rfl, fun w9 h9 => ?_⟩) HSB.out ?_
                    · go_simp; all_goals omega
                    refine wpAnyH_take (i := 3) (v := .bool false) rfl (by kernel_rfl) (by kernel_rfl) (by kernel_rfl) (fun _ _ _ h => h) (Or.inl ⟨by kernel_rfl, fun w9 h9 => ?_⟩) HSB.out ?_
                    · go_simp
                    refine wpAnyH_take (i := 4) (v := .pointer (some ⟨b0, 0, none⟩)) rfl (by kernel_rfl) (by kernel_rfl) (by kernel_rfl) (fun _ _ _ h => h) (Or.inl ⟨by kernel_rfl, fun w9 h9 => ?_⟩) HSB.out ?_
                    · go_simp
                    refine wpAnyH_take (i := 5) (v := .int .i64 z.t) rfl (by kernel_rfl) (by kernel_rfl) (by kernel_rfl) (fun _ _ _ h => h) (Or.inl ⟨by kernel_rfl, fun w9 h9 => ?_⟩) HSB.out ?_
                    · have hlg := h9; have k0 := hlg.cel 0 _ rfl; have k1 := hlg.cel 1 _ rfl; have k2 := hlg.cel 2 _ rfl; have k3 := hlg.cel 3 _ rfl; go_simp
                    refine wpAnyH_take (i := 6) (v := .bool false) rfl (by kernel_rfl) (by kernel_rfl) (by kernel_rfl) (fun _ _ _ h => h) (Or.inl ⟨by kernel_rfl, fun w9 h9 => ?_⟩) HSB.out ?_
                    · go_simp; all_goals omega
                    refine wpAnyH_take (i := 7) (v := .bool false) rfl (by kernel_rfl) (by kernel_rfl) (by kernel_rfl) (fun _ _ _ h => h) (Or.inl ⟨by kernel_rfl, fun w9 h9 => ?_⟩) HSB.out ?_
                    · go_simp
                    refine wpAnyH_take (i := 8) (v := .bool false) rfl (by kernel_rfl) (by kernel_rfl) (by kernel_rfl) (fun _ _ _ h => h) (Or.inl ⟨by kernel_rfl, fun w9 h9 => ?_⟩) HSB.out ?_
                    · go_simp
                    refine wpAnyH_take (i := 9) (v := .int .i64 ((0 : Nat) : Int)) rfl (by kernel_rfl) (by kernel_rfl) (by kernel_rfl) (fun _ _ _ h => h) (Or.inl ⟨by kernel_rfl, fun w9 h9 => ?_⟩) HSB.out ?_
                    · go_simp
                    refine wpAnyH_take (i := 10) (v := .bool false) rfl (by kernel_rfl) (by kernel_rfl) (by kernel_rfl) (fun _ _ _ h => h) (Or.inl ⟨by kernel_rfl, fun w9 h9 => ?_⟩) HSB.out ?_
                    · go_simp; all_goals omega
                    refine wpAnyH_take (i := 11) (v := .bool false) rfl (by kernel_rfl) (by kernel_rfl) (by kernel_rfl) (fun _ _ _ h => h) (Or.inl ⟨by kernel_rfl, fun w9 h9 => ?_⟩) HSB.out ?_
                    · go_simp
                    refine wpAnyH_take (i := 12) (v := undef) rfl (by kernel_rfl) (by kernel_rfl) (by kernel_rfl) (fun _ _ _ h => h) (Or.inr ⟨by kernel_rfl, rfl⟩) HSB.out ?_
                    refine wpAnyH_take (i := 13) (v := undef) rfl (by kernel_rfl) (by kernel_rfl) (by kernel_rfl) (fun _ _ _ h => h) (Or.inr ⟨by kernel_rfl, rfl⟩) HSB.out ?_
                    refine wpAnyH_take (i := 14) (v := undef) rfl (by kernel_rfl) (by kernel_rfl) (by kernel_rfl) (fun _ _ _ h => h) (Or.inr ⟨by kernel_rfl, rfl⟩) HSB.out ?_
                    refine wpAnyH_take (i := 15) (v := undef) rfl (by kernel_rfl) (by kernel_rfl) (by kernel_rfl) (fun _ _ _ h => h) (Or.inr ⟨by kernel_rfl, rfl⟩) HSB.out ?_
                    refine wpAnyH_take (i := 16) (v := undef) rfl (by kernel_rfl) (by kernel_rfl) (by kernel_rfl) (fun _ _ _ h => h) (Or.inr ⟨by kernel_rfl, rfl⟩) HSB.out ?_
                    refine wpAnyH_take (i := 17) (v := undef) rfl (by kernel_rfl) (by kernel_rfl) (by kernel_rfl) (fun _ _ _ h => h) (Or.inr ⟨by kernel_rfl, rfl⟩) HSB.out ?_
                    refine wpAnyH_take (i := 18) (v := undef) rfl (by kernel_rfl) (by kernel_rfl) (by kernel_rfl) (fun _ _ _ h => h) (Or.inr ⟨by kernel_rfl, rfl⟩) HSB.out ?_
                    refine wpAnyH_take (i := 19) (v := undef) rfl (by kernel_rfl) (by kernel_rfl) (by kernel_rfl) (fun _ _ _ h => h) (Or.inr ⟨by kernel_rfl, rfl⟩) HSB.out ?_
                    refine wpAnyH_take (i := 20) (v := undef) rfl (by kernel_rfl) (by kernel_rfl) (by kernel_rfl) (fun _ _ _ h => h) (Or.inr ⟨by kernel_rfl, rfl⟩) HSB.out ?_
                    refine wpAnyH_take (i := 21) (v := .bool false) rfl (by kernel_rfl) (by kernel_rfl) (by kernel_rfl) (fun _ _ _ h => h) (Or.inl ⟨by kernel_rfl, fun w9 h9 => ?_⟩) HSB.out ?_
                    · go_simp
                    refine wpAnyH_take (i := 22) (v := .bool false) rfl (by kernel_rfl) (by kernel_rfl) (by kernel_rfl) (fun _ _ _ h => h) (Or.inl ⟨by kernel_rfl, fun w9 h9 => ?_⟩) HSB.out ?_
                    · go_simp
                    refine wpAnyH_done (by kernel_rfl) ?_ _
                    go_simp
                    have hlg : Hid (LG w u0.drew b0 #[.int .i64 z.t, .int .i64 z.kind, .int .i64 z.num, .int .i64 z.val] 46) := HLN.out.drew
                    have k0 := hlg.out.cel 0 _ rfl
                    have k1 := hlg.out.cel 1 _ rfl
                    have k2 := hlg.out.cel 2 _ rfl
                    have k3 := hlg.out.cel 3 _ rfl
                    have kl := hlg.out.lt
                    go_wp2_with (go_at_call 23; refine Calls.mono (HW.out _) ?_; rintro e u1 ⟨rfl, hw1⟩; rw [hw1]; clear hw1)
                    go_ret
                    exact ⟨ret_int E2.out.symm, hlg.out.bel⟩
                · skip
                  have E2 : Hid (efV zs = 1) := HBAD.out (HEK.out.trans (by rw [HE.out]; have rq0 := of_decide_eq_false q0; have rq1 := of_decide_eq_false q1; have rq2 := beq_iff_eq.1 q2; have rq3 := of_decide_eq_false q3; have rq4 := of_decide_eq_true q4; simp; try omega))
                  clear HE HEK HBAD HS
                  go_upto_region 7 with fail
                  clear d0 d1 d2 d3
                  generalize (wr.alloc (.cells #[.int .i64 z.t, .int .i64 z.kind, .int .i64 z.num, .int .i64 z.val] 46)) = u0 at *
                  generalize wr.heap.size = b0 at *
                  have HSB : Hid ((fun w' => LG w w' b0 #[.int .i64 z.t, .int .i64 z.kind, .int .i64 z.num, .int .i64 z.val] 46) u0.drew) := HLN.out.drew
                  refine wp_region_held (S := fun w' => LG w w' b0 #[.int .i64 z.t, .int .i64 z.kind, .int .i64 z.num, .int .i64 z.val] 46) (by kernel_rfl) ?_
                  change wpAnyH _ _ _ _ _ _ _ _ (World.drew _)
                  refine wpAnyH_take (i := 0) (v := .pointer (some ⟨b0, 0, none⟩)) rfl (by kernel_rfl) (by kernel_rfl) (by kernel_rfl) (fun _ _ _ h => h) (Or.inl ⟨by kernel_rfl, fun w9 h9 => ?_⟩) HSB.out ?_
                  · go_simp
                  refine wpAnyH_take (i := 1) (v := .int .i64 z.t) rfl (by kernel_rfl) (by kernel_rfl) (by kernel_rfl) (fun _ _ _ h => h) (Or.inl ⟨by kernel_rfl, fun w9 h9 => ?_⟩) HSB.out ?_
                  · have hlg := h9; have k0 := hlg.cel 0 _ rfl; have k1 := hlg.cel 1 _ rfl; have k2 := hlg.cel 2 _ rfl; have k3 := hlg.cel 3 _ rfl; go_simp
                  refine wpAnyH_take (i := 2) (v := .bool false) rfl (by kernel_rfl) (by kernel_rfl) (by kernel_rfl) (fun _ _ _ h => h) (Or.inl ⟨by kernel_rfl, fun w9 h9 => ?_⟩) HSB.out ?_
                  · go_simp; all_goals omega
                  refine wpAnyH_take (i := 3) (v := .bool false) rfl (by kernel_rfl) (by kernel_rfl) (by kernel_rfl) (fun _ _ _ h => h) (Or.inl ⟨by kernel_rfl, fun w9 h9 => ?_⟩) HSB.out ?_
                  · go_simp
                  refine wpAnyH_take (i := 4) (v := .pointer (some ⟨b0, 0, none⟩)) rfl (by kernel_rfl) (by kernel_rfl) (by kernel_rfl) (fun _ _ _ h => h) (Or.inl ⟨by kernel_rfl, fun w9 h9 => ?_⟩) HSB.out ?_
                  · go_simp
                  refine wpAnyH_take (i := 5) (v := .int .i64 z.t) rfl (by kernel_rfl) (by kernel_rfl) (by kernel_rfl) (fun _ _ _ h => h) (Or.inl ⟨by kernel_rfl, fun w9 h9 => ?_⟩) HSB.out ?_
                  · have hlg := h9; have k0 := hlg.cel 0 _ rfl; have k1 := hlg.cel 1 _ rfl; have k2 := hlg.cel 2 _ rfl; have k3 := hlg.cel 3 _ rfl; go_simp
                  refine wpAnyH_take (i := 6) (v := .bool false) rfl (by kernel_rfl) (by kernel_rfl) (by kernel_rfl) (fun _ _ _ h => h) (Or.inl ⟨by kernel_rfl, fun w9 h9 => ?_⟩) HSB.out ?_
                  · go_simp; all_goals omega
                  refine wpAnyH_take (i := 7) (v := .bool false) rfl (by kernel_rfl) (by kernel_rfl) (by kernel_rfl) (fun _ _ _ h => h) (Or.inl ⟨by kernel_rfl, fun w9 h9 => ?_⟩) HSB.out ?_
                  · go_simp
                  refine wpAnyH_take (i := 8) (v := .bool false) rfl (by kernel_rfl) (by kernel_rfl) (by kernel_rfl) (fun _ _ _ h => h) (Or.inl ⟨by kernel_rfl, fun w9 h9 => ?_⟩) HSB.out ?_
                  · go_simp
                  refine wpAnyH_take (i := 9) (v := .int .i64 ((0 : Nat) : Int)) rfl (by kernel_rfl) (by kernel_rfl) (by kernel_rfl) (fun _ _ _ h => h) (Or.inl ⟨by kernel_rfl, fun w9 h9 => ?_⟩) HSB.out ?_
                  · go_simp
                  refine wpAnyH_take (i := 10) (v := .bool false) rfl (by kernel_rfl) (by kernel_rfl) (by kernel_rfl) (fun _ _ _ h => h) (Or.inl ⟨by kernel_rfl, fun w9 h9 => ?_⟩) HSB.out ?_
                  · go_simp; all_goals omega
                  refine wpAnyH_take (i := 11) (v := .bool false) rfl (by kernel_rfl) (by kernel_rfl) (by kernel_rfl) (fun _ _ _ h => h) (Or.inl ⟨by kernel_rfl, fun w9 h9 => ?_⟩) HSB.out ?_
                  · go_simp
                  refine wpAnyH_take (i := 12) (v := undef) rfl (by kernel_rfl) (by kernel_rfl) (by kernel_rfl) (fun _ _ _ h => h) (Or.inr ⟨by kernel_rfl, rfl⟩) HSB.out ?_
                  refine wpAnyH_take (i := 13) (v := undef) rfl (by kernel_rfl) (by kernel_rfl) (by kernel_rfl) (fun _ _ _ h => h) (Or.inr ⟨by kernel_rfl, rfl⟩) HSB.out ?_
                  refine wpAnyH_take (i := 14) (v := undef) rfl (by kernel_rfl) (by kernel_rfl) (by kernel_rfl) (fun _ _ _ h => h) (Or.inr ⟨by kernel_rfl, rfl⟩) HSB.out ?_
                  refine wpAnyH_take (i := 15) (v := undef) rfl (by kernel_rfl) (by kernel_rfl) (by kernel_rfl) (fun _ _ _ h => h) (Or.inr ⟨by kernel_rfl, rfl⟩) HSB.out ?_
                  refine wpAnyH_take (i := 16) (v := undef) rfl (by kernel_rfl) (by kernel_rfl) (by kernel_rfl) (fun _ _ _ h => h) (Or.inr ⟨by kernel_rfl, rfl⟩) HSB.out ?_
                  refine wpAnyH_take (i := 17) (v := undef) rfl (by kernel_rfl) (by kernel_rfl) (by kernel_rfl) (fun _ _ _ h => h) (Or.inr ⟨by kernel_rfl, rfl⟩) HSB.out ?_
                  refine wpAnyH_take (i := 18) (v := undef) rfl (by kernel_rfl) (by kernel_rfl) (by kernel_rfl) (fun _ _ _ h => h) (Or.inr ⟨by kernel_rfl, rfl⟩) HSB.out ?_
                  refine wpAnyH_take (i := 19) (v := undef) rfl (by kernel_rfl) (by kernel_rfl) (by kernel_rfl) (fun _ _ _ h => h) (Or.inr ⟨by kernel_rfl, rfl⟩) HSB.out ?_
                  refine wpAnyH_take (i := 20) (v := undef) rfl (by kernel_rfl) (by kernel_rfl) (by kernel_rfl) (fun _ _ _ h => h) (Or.inr ⟨by kernel_rfl, rfl⟩) HSB.out ?_
                  refine wpAnyH_take (i := 21) (v := .bool false) rfl (by kernel_rfl) (by kernel_rfl) (by kernel_rfl) (fun _ _ _ h => h) (Or.inl ⟨by kernel_rfl, fun w9 h9 => ?_⟩) HSB.out ?_
                  · go_simp
                  refine wpAnyH_take (i := 22) (v := .bool false) rfl (by kernel_rfl) (by kernel_rfl) (by kernel_rfl) (fun _ _ _ h => h) (Or.inl ⟨by kernel_rfl, fun w9 h9 => ?_⟩) HSB.out ?_
                  · go_simp
                  refine wpAnyH_done (by kernel_rfl) ?_ _
                  go_simp
                  have hlg : Hid (LG w u0.drew b0 #[.int .i64 z.t, .int .i64 z.kind, .int .i64 z.num, .int .i64 z.val] 46) := HLN.out.drew
                  have k0 := hlg.out.cel 0 _ rfl
                  have k1 := hlg.out.cel 1 _ rfl
                  have k2 := hlg.out.cel 2 _ rfl
                  have k3 := hlg.out.cel 3 _ rfl
                  have kl := hlg.out.lt
                  go_wp2_with (go_at_call 23; refine Calls.mono (HW.out _) ?_; rintro e u1 ⟨rfl, hw1⟩; rw [hw1]; clear hw1)
                  go_ret
                  exact ⟨ret_int E2.out.symm, hlg.out.bel⟩
              · skip
                have E2 : Hid (efV zs = 1) := HBAD.out (HEK.out.trans (by rw [HE.out]; have rq0 := of_decide_eq_false q0; have rq1 := of_decide_eq_false q1; have rq2 := beq_iff_eq.1 q2; have rq3 := of_decide_eq_true q3; simp; try omega))
                clear HE HEK HBAD HS
                go_upto_region 7 with fail
                clear d0 d1 d2 d3
                generalize (wr.alloc (.cells #[.int .i64 z.t, .int .i64 z.kind, .int .i64 z.num, .int .i64 z.val] 46)) = u0 at *
                generalize wr.heap.size = b0 at *
                have HSB : Hid ((fun w' => LG w w' b0 #[.int .i64 z.t, .int .i64 z.kind, .int .i64 z.num, .int .i64 z.val] 46) u0.drew) := HLN.out.drew
                refine wp_region_held (S := fun w' => LG w w' b0 #[.int .i64 z.t, .int .i64 z.kind, .int .i64 z.num, .int .i64 z.val] 46) (by kernel_rfl) ?_
                change wpAnyH _ _ _ _ _ _ _ _ (World.drew _)
                refine wpAnyH_take (i := 0) (v := .pointer (some ⟨b0, 0, none⟩)) rfl (by kernel_rfl) (by kernel_rfl) (by kernel_rfl) (fun _ _ _ h => h) (Or.inl ⟨by kernel_rfl, fun w9 h9 => ?_⟩) HSB.out ?_
                · go_simp
                refine wpAnyH_take (i := 1) (v := .int .i64 z.t) rfl (by kernel_rfl) (by kernel_rfl) (by kernel_rfl) (fun _ _ _ h => h) (Or.inl ⟨by kernel_rfl, fun w9 h9 => ?_⟩) HSB.out ?_
                · have hlg := h9; have k0 := hlg.cel 0 _ rfl; have k1 := hlg.cel 1 _ rfl; have k2 := hlg.cel 2 _ rfl; have k3 := hlg.cel 3 _ rfl; go_simp
                refine wpAnyH_take (i := 2) (v := .bool false) rfl (by kernel_rfl) (by kernel_rfl) (by kernel_rfl) (fun _ _ _ h => h) (Or.inl ⟨by kernel_rfl, fun w9 h9 => ?_⟩) HSB.out ?_
                · go_simp; all_goals omega
                refine wpAnyH_take (i := 3) (v := .bool false) rfl (by kernel_rfl) (by kernel_rfl) (by kernel_rfl) (fun _ _ _ h => h) (Or.inl ⟨by kernel_rfl, fun w9 h9 => ?_⟩) HSB.out ?_
                · go_simp
                refine wpAnyH_take (i := 4) (v := .pointer (some ⟨b0, 0, none⟩)) rfl (by kernel_rfl) (by kernel_rfl) (by kernel_rfl) (fun _ _ _ h => h) (Or.inl ⟨by kernel_rfl, fun w9 h9 => ?_⟩) HSB.out ?_
                · go_simp
                refine wpAnyH_take (i := 5) (v := .int .i64 z.t) rfl (by kernel_rfl) (by kernel_rfl) (by kernel_rfl) (fun _ _ _ h => h) (Or.inl ⟨by kernel_rfl, fun w9 h9 => ?_⟩) HSB.out ?_
                · have hlg := h9; have k0 := hlg.cel 0 _ rfl; have k1 := hlg.cel 1 _ rfl; have k2 := hlg.cel 2 _ rfl; have k3 := hlg.cel 3 _ rfl; go_simp
                refine wpAnyH_take (i := 6) (v := .bool false) rfl (by kernel_rfl) (by kernel_rfl) (by kernel_rfl) (fun _ _ _ h => h) (Or.inl ⟨by kernel_rfl, fun w9 h9 => ?_⟩) HSB.out ?_
                · go_simp; all_goals omega
                refine wpAnyH_take (i := 7) (v := .bool false) rfl (by kernel_rfl) (by kernel_rfl) (by kernel_rfl) (fun _ _ _ h => h) (Or.inl ⟨by kernel_rfl, fun w9 h9 => ?_⟩) HSB.out ?_
                · go_simp
                refine wpAnyH_take (i := 8) (v := .bool false) rfl (by kernel_rfl) (by kernel_rfl) (by kernel_rfl) (fun _ _ _ h => h) (Or.inl ⟨by kernel_rfl, fun w9 h9 => ?_⟩) HSB.out ?_
                · go_simp
                refine wpAnyH_take (i := 9) (v := .int .i64 ((0 : Nat) : Int)) rfl (by kernel_rfl) (by kernel_rfl) (by kernel_rfl) (fun _ _ _ h => h) (Or.inl ⟨by kernel_rfl, fun w9 h9 => ?_⟩) HSB.out ?_
                · go_simp
                refine wpAnyH_take (i := 10) (v := .bool false) rfl (by kernel_rfl) (by kernel_rfl) (by kernel_rfl) (fun _ _ _ h => h) (Or.inl ⟨by kernel_rfl, fun w9 h9 => ?_⟩) HSB.out ?_
                · go_simp; all_goals omega
                refine wpAnyH_take (i := 11) (v := .bool false) rfl (by kernel_rfl) (by kernel_rfl) (by kernel_rfl) (fun _ _ _ h => h) (Or.inl ⟨by kernel_rfl, fun w9 h9 => ?_⟩) HSB.out ?_
                · go_simp
                refine wpAnyH_take (i := 12) (v := undef) rfl (by kernel_rfl) (by kernel_rfl) (by kernel_rfl) (fun _ _ _ h => h) (Or.inr ⟨by kernel_rfl, rfl⟩) HSB.out ?_
                refine wpAnyH_take (i := 13) (v := undef) rfl (by kernel_rfl) (by kernel_rfl) (by kernel_rfl) (fun _ _ _ h => h) (Or.inr ⟨by kernel_rfl, rfl⟩) HSB.out ?_
                refine wpAnyH_take (i := 14) (v := undef) rfl (by kernel_rfl) (by kernel_rfl) (by kernel_rfl) (fun _ _ _ h => h) (Or.inr ⟨by kernel_rfl, rfl⟩) HSB.out ?_
                refine wpAnyH_take (i := 15) (v := undef) rfl (by kernel_rfl) (by kernel_rfl) (by kernel_rfl) (fun _ _ _ h => h) (Or.inr ⟨by kernel_rfl, rfl⟩) HSB.out ?_
                refine wpAnyH_take (i := 16) (v := undef) rfl (by kernel_rfl) (by kernel_rfl) (by kernel_rfl) (fun _ _ _ h => h) (Or.inr ⟨by kernel_rfl, rfl⟩) HSB.out ?_
                refine wpAnyH_take (i := 17) (v := undef) rfl (by kernel_rfl) (by kernel_rfl) (by kernel_rfl) (fun _ _ _ h => h) (Or.inr ⟨by kernel_rfl, rfl⟩) HSB.out ?_
                refine wpAnyH_take (i := 18) (v := undef) rfl (by kernel_rfl) (by kernel_rfl) (by kernel_rfl) (fun _ _ _ h => h) (Or.inr ⟨by kernel_rfl, rfl⟩) HSB.out ?_
                refine wpAnyH_take (i := 19) (v := undef) rfl (by kernel_rfl) (by kernel_rfl) (by kernel_rfl) (fun _ _ _ h => h) (Or.inr ⟨by kernel_rfl, rfl⟩) HSB.out ?_
                refine wpAnyH_take (i := 20) (v := undef) rfl (by kernel_rfl) (by kernel_rfl) (by kernel_rfl) (fun _ _ _ h => h) (Or.inr ⟨by kernel_rfl, rfl⟩) HSB.out ?_
                refine wpAnyH_take (i := 21) (v := .bool false) rfl (by kernel_rfl) (by kernel_rfl) (by kernel_rfl) (fun _ _ _ h => h) (Or.inl ⟨by kernel_rfl, fun w9 h9 => ?_⟩) HSB.out ?_
                · go_simp
                refine wpAnyH_take (i := 22) (v := .bool false) rfl (by kernel_rfl) (by kernel_rfl) (by kernel_rfl) (fun _ _ _ h => h) (Or.inl ⟨by kernel_rfl, fun w9 h9 => ?_⟩) HSB.out ?_
                · go_simp
                refine wpAnyH_done (by kernel_rfl) ?_ _
                go_simp
                have hlg : Hid (LG w u0.drew b0 #[.int .i64 z.t, .int .i64 z.kind, .int .i64 z.num, .int .i64 z.val] 46) := HLN.out.drew
                have k0 := hlg.out.cel 0 _ rfl
                have k1 := hlg.out.cel 1 _ rfl
                have k2 := hlg.out.cel 2 _ rfl
                have k3 := hlg.out.cel 3 _ rfl
                have kl := hlg.out.lt
                go_wp2_with (go_at_call 23; refine Calls.mono (HW.out _) ?_; rintro e u1 ⟨rfl, hw1⟩; rw [hw1]; clear hw1)
                go_ret
                exact ⟨ret_int E2.out.symm, hlg.out.bel⟩
          · skip
            have E2 : Hid (efV zs = 1) := HBAD.out (HEK.out.trans (by rw [HE.out]; have rq0 := of_decide_eq_false q0; have rq1 := of_decide_eq_true q1; simp; try omega))
            clear HE HEK HBAD HS
            go_upto_region 7 with fail
            clear d0 d1 d2 d3
            generalize (wr.alloc (.cells #[.int .i64 z.t, .int .i64 z.kind, .int .i64 z.num, .int .i64 z.val] 46)) = u0 at *
            generalize wr.heap.size = b0 at *
            have HSB : Hid ((fun w' => LG w w' b0 #[.int .i64 z.t, .int .i64 z.kind, .int .i64 z.num, .int .i64 z.val] 46) u0.drew) := HLN.out.drew
            refine wp_region_held (S := fun w' => LG w w' b0 #[.int .i64 z.t, .int .i64 z.kind, .int .i64 z.num, .int .i64 z.val] 46) (by kernel_rfl) ?_
            change wpAnyH _ _ _ _ _ _ _ _ (World.drew _)
            refine wpAnyH_take (i := 0) (v := .pointer (some ⟨b0, 0, none⟩)) rfl (by kernel_rfl) (by kernel_rfl) (by kernel_rfl) (fun _ _ _ h => h) (Or.inl ⟨by kernel_rfl, fun w9 h9 => ?_⟩) HSB.out ?_
            · go_simp
            refine wpAnyH_take (i := 1) (v := .int .i64 z.t) rfl (by kernel_rfl) (by kernel_rfl) (by kernel_rfl) (fun _ _ _ h => h) (Or.inl ⟨by kernel_rfl, fun w9 h9 => ?_⟩) HSB.out ?_
            · have hlg := h9; have k0 := hlg.cel 0 _ rfl; have k1 := hlg.cel 1 _ rfl; have k2 := hlg.cel 2 _ rfl; have k3 := hlg.cel 3 _ rfl; go_simp
            refine wpAnyH_take (i := 2) (v := .bool false) rfl (by kernel_rfl) (by kernel_rfl) (by kernel_rfl) (fun _ _ _ h => h) (Or.inl ⟨by kernel_rfl, fun w9 h9 => ?_⟩) HSB.out ?_
            · go_simp; all_goals omega
            refine wpAnyH_take (i := 3) (v := .bool false) rfl (by kernel_rfl) (by kernel_rfl) (by kernel_rfl) (fun _ _ _ h => h) (Or.inl ⟨by kernel_rfl, fun w9 h9 => ?_⟩) HSB.out ?_
            · go_simp
            refine wpAnyH_take (i := 4) (v := .pointer (some ⟨b0, 0, none⟩)) rfl (by kernel_rfl) (by kernel_rfl) (by kernel_rfl) (fun _ _ _ h => h) (Or.inl ⟨by kernel_rfl, fun w9 h9 => ?_⟩) HSB.out ?_
            · go_simp
            refine wpAnyH_take (i := 5) (v := .int .i64 z.t) rfl (by kernel_rfl) (by kernel_rfl) (by kernel_rfl) (fun _ _ _ h => h) (Or.inl ⟨by kernel_rfl, fun w9 h9 => ?_⟩) HSB.out ?_
            · have hlg := h9; have k0 := hlg.cel 0 _ rfl; have k1 := hlg.cel 1 _ rfl; have k2 := hlg.cel 2 _ rfl; have k3 := hlg.cel 3 _ rfl; go_simp
            refine wpAnyH_take (i := 6) (v := .bool true) rfl (by kernel_rfl) (by kernel_rfl) (by kernel_rfl) (fun _ _ _ h => h) (Or.inl ⟨by kernel_rfl, fun w9 h9 => ?_⟩) HSB.out ?_
            · go_simp; all_goals omega
            refine wpAnyH_take (i := 7) (v := .bool true) rfl (by kernel_rfl) (by kernel_rfl) (by kernel_rfl) (fun _ _ _ h => h) (Or.inl ⟨by kernel_rfl, fun w9 h9 => ?_⟩) HSB.out ?_
            · go_simp
            refine wpAnyH_take (i := 8) (v := .bool true) rfl (by kernel_rfl) (by kernel_rfl) (by kernel_rfl) (fun _ _ _ h => h) (Or.inl ⟨by kernel_rfl, fun w9 h9 => ?_⟩) HSB.out ?_
            · go_simp
            refine wpAnyH_take (i := 9) (v := undef) rfl (by kernel_rfl) (by kernel_rfl) (by kernel_rfl) (fun _ _ _ h => h) (Or.inr ⟨by kernel_rfl, rfl⟩) HSB.out ?_
            refine wpAnyH_take (i := 10) (v := undef) rfl (by kernel_rfl) (by kernel_rfl) (by kernel_rfl) (fun _ _ _ h => h) (Or.inr ⟨by kernel_rfl, rfl⟩) HSB.out ?_
            refine wpAnyH_take (i := 11) (v := undef) rfl (by kernel_rfl) (by kernel_rfl) (by kernel_rfl) (fun _ _ _ h => h) (Or.inr ⟨by kernel_rfl, rfl⟩) HSB.out ?_
            refine wpAnyH_take (i := 12) (v := undef) rfl (by kernel_rfl) (by kernel_rfl) (by kernel_rfl) (fun _ _ _ h => h) (Or.inr ⟨by kernel_rfl, rfl⟩) HSB.out ?_
            refine wpAnyH_take (i := 13) (v := undef) rfl (by kernel_rfl) (by kernel_rfl) (by kernel_rfl) (fun _ _ _ h => h) (Or.inr ⟨by kernel_rfl, rfl⟩) HSB.out ?_
            refine wpAnyH_take (i := 14) (v := undef) rfl (by kernel_rfl) (by kernel_rfl) (by kernel_rfl) (fun _ _ _ h => h) (Or.inr ⟨by kernel_rfl, rfl⟩) HSB.out ?_
            refine wpAnyH_take (i := 15) (v := undef) rfl (by kernel_rfl) (by kernel_rfl) (by kernel_rfl) (fun _ _ _ h => h) (Or.inr ⟨by kernel_rfl, rfl⟩) HSB.out ?_
            refine wpAnyH_take (i := 16) (v := undef) rfl (by kernel_rfl) (by kernel_rfl) (by kernel_rfl) (fun _ _ _ h => h) (Or.inr ⟨by kernel_rfl, rfl⟩) HSB.out ?_
            refine wpAnyH_take (i := 17) (v := undef) rfl (by kernel_rfl) (by kernel_rfl) (by kernel_rfl) (fun _ _ _ h => h) (Or.inr ⟨by kernel_rfl, rfl⟩) HSB.out ?_
            refine wpAnyH_take (i := 18) (v := undef) rfl (by kernel_rfl) (by kernel_rfl) (by kernel_rfl) (fun _ _ _ h => h) (Or.inr ⟨by kernel_rfl, rfl⟩) HSB.out ?_
            refine wpAnyH_take (i := 19) (v := undef) rfl (by kernel_rfl) (by kernel_rfl) (by kernel_rfl) (fun _ _ _ h => h) (Or.inr ⟨by kernel_rfl, rfl⟩) HSB.out ?_
            refine wpAnyH_take (i := 20) (v := undef) rfl (by kernel_rfl) (by kernel_rfl) (by kernel_rfl) (fun _ _ _ h => h) (Or.inr ⟨by kernel_rfl, rfl⟩) HSB.out ?_
            refine wpAnyH_take (i := 21) (v := undef) rfl (by kernel_rfl) (by kernel_rfl) (by kernel_rfl) (fun _ _ _ h => h) (Or.inr ⟨by kernel_rfl, rfl⟩) HSB.out ?_
            refine wpAnyH_take (i := 22) (v := .bool true) rfl (by kernel_rfl) (by kernel_rfl) (by kernel_rfl) (fun _ _ _ h => h) (Or.inl ⟨by kernel_rfl, fun w9 h9 => ?_⟩) HSB.out ?_
            · go_simp
            refine wpAnyH_done (by kernel_rfl) ?_ _
            go_simp
            have hlg : Hid (LG w u0.drew b0 #[.int .i64 z.t, .int .i64 z.kind, .int .i64 z.num, .int .i64 z.val] 46) := HLN.out.drew
            have k0 := hlg.out.cel 0 _ rfl
            have k1 := hlg.out.cel 1 _ rfl
            have k2 := hlg.out.cel 2 _ rfl
            have k3 := hlg.out.cel 3 _ rfl
            have kl := hlg.out.lt
            go_wp2_with (go_at_call 23; refine Calls.mono (HW.out _) ?_; rintro e u1 ⟨rfl, hw1⟩; rw [hw1]; clear hw1)
            go_ret
            exact ⟨ret_int E2.out.symm, hlg.out.bel⟩
        · skip
          have E2 : Hid (efV zs = 1) := HBAD.out (HEK.out.trans (by rw [HE.out]; have rq0 := of_decide_eq_true q0; simp; try omega))
          clear HE HEK HBAD HS
          go_upto_region 7 with fail
          clear d0 d1 d2 d3
          generalize (wr.alloc (.cells #[.int .i64 z.t, .int .i64 z.kind, .int .i64 z.num, .int .i64 z.val] 46)) = u0 at *
          generalize wr.heap.size = b0 at *
          have HSB : Hid ((fun w' => LG w w' b0 #[.int .i64 z.t, .int .i64 z.kind, .int .i64 z.num, .int .i64 z.val] 46) u0.drew) := HLN.out.drew
          refine wp_region_held (S := fun w' => LG w w' b0 #[.int .i64 z.t, .int .i64 z.kind, .int .i64 z.num, .int .i64 z.val] 46) (by kernel_rfl) ?_
          change wpAnyH _ _ _ _ _ _ _ _ (World.drew _)
          refine wpAnyH_take (i := 0) (v := .pointer (some ⟨b0, 0, none⟩)) rfl (by kernel_rfl) (by kernel_rfl) (by kernel_rfl) (fun _ _ _ h => h) (Or.inl ⟨by kernel_rfl, fun w9 h9 => ?_⟩) HSB.out ?_
          · go_simp
          refine wpAnyH_take (i := 1) (v := .int .i64 z.t) rfl (by kernel_rfl) (by kernel_rfl) (by kernel_rfl) (fun _ _ _ h => h) (Or.inl ⟨by kernel_rfl, fun w9 h9 => ?_⟩) HSB.out ?_
          · have hlg := h9; have k0 := hlg.cel 0 _ rfl; have k1 := hlg.cel 1 _ rfl; have k2 := hlg.cel 2 _ rfl; have k3 := hlg.cel 3 _ rfl; go_simp
          refine wpAnyH_take (i := 2) (v := .bool true) rfl (by kernel_rfl) (by kernel_rfl) (by kernel_rfl) (fun _ _ _ h => h) (Or.inl ⟨by kernel_rfl, fun w9 h9 => ?_⟩) HSB.out ?_
          · go_simp; all_goals omega
          refine wpAnyH_take (i := 3) (v := .bool true) rfl (by kernel_rfl) (by kernel_rfl) (by kernel_rfl) (fun _ _ _ h => h) (Or.inl ⟨by kernel_rfl, fun w9 h9 => ?_⟩) HSB.out ?_
          · go_simp
          refine wpAnyH_take (i := 4) (v := undef) rfl (by kernel_rfl) (by kernel_rfl) (by kernel_rfl) (fun _ _ _ h => h) (Or.inr ⟨by kernel_rfl, rfl⟩) HSB.out ?_
          refine wpAnyH_take (i := 5) (v := undef) rfl (by kernel_rfl) (by kernel_rfl) (by kernel_rfl) (fun _ _ _ h => h) (Or.inr ⟨by kernel_rfl, rfl⟩) HSB.out ?_
          refine wpAnyH_take (i := 6) (v := undef) rfl (by kernel_rfl) (by kernel_rfl) (by kernel_rfl) (fun _ _ _ h => h) (Or.inr ⟨by kernel_rfl, rfl⟩) HSB.out ?_
          refine wpAnyH_take (i := 7) (v := .bool true) rfl (by kernel_rfl) (by kernel_rfl) (by kernel_rfl) (fun _ _ _ h => h) (Or.inl ⟨by kernel_rfl, fun w9 h9 => ?_⟩) HSB.out ?_
          · go_simp
          refine wpAnyH_take (i := 8) (v := .bool true) rfl (by kernel_rfl) (by kernel_rfl) (by kernel_rfl) (fun _ _ _ h => h) (Or.inl ⟨by kernel_rfl, fun w9 h9 => ?_⟩) HSB.out ?_
          · go_simp
          refine wpAnyH_take (i := 9) (v := undef) rfl (by kernel_rfl) (by kernel_rfl) (by kernel_rfl) (fun _ _ _ h => h) (Or.inr ⟨by kernel_rfl, rfl⟩) HSB.out ?_
          refine wpAnyH_take (i := 10) (v := undef) rfl (by kernel_rfl) (by kernel_rfl) (by kernel_rfl) (fun _ _ _ h => h) (Or.inr ⟨by kernel_rfl, rfl⟩) HSB.out ?_
          refine wpAnyH_take (i := 11) (v := undef) rfl (by kernel_rfl) (by kernel_rfl) (by kernel_rfl) (fun _ _ _ h => h) (Or.inr ⟨by kernel_rfl, rfl⟩) HSB.out ?_
          refine wpAnyH_take (i := 12) (v := undef) rfl (by kernel_rfl) (by kernel_rfl) (by kernel_rfl) (fun _ _ _ h => h) (Or.inr ⟨by kernel_rfl, rfl⟩) HSB.out ?_
          refine wpAnyH_take (i := 13) (v := undef) rfl (by kernel_rfl) (by kernel_rfl) (by kernel_rfl) (fun _ _ _ h => h) (Or.inr ⟨by kernel_rfl, rfl⟩) HSB.out ?_
          refine wpAnyH_take (i := 14) (v := undef) rfl (by kernel_rfl) (by kernel_rfl) (by kernel_rfl) (fun _ _ _ h => h) (Or.inr ⟨by kernel_rfl, rfl⟩) HSB.out ?_
          refine wpAnyH_take (i := 15) (v := undef) rfl (by kernel_rfl) (by kernel_rfl) (by kernel_rfl) (fun _ _ _ h => h) (Or.inr ⟨by kernel_rfl, rfl⟩) HSB.out ?_
          refine wpAnyH_take (i := 16) (v := undef) rfl (by kernel_rfl) (by kernel_rfl) (by kernel_rfl) (fun _ _ _ h => h) (Or.inr ⟨by kernel_rfl, rfl⟩) HSB.out ?_
          refine wpAnyH_take (i := 17) (v := undef) rfl (by kernel_rfl) (by kernel_rfl) (by kernel_rfl) (fun _ _ _ h => h) (Or.inr ⟨by kernel_rfl, rfl⟩) HSB.out ?_
          refine wpAnyH_take (i := 18) (v := undef) rfl (by kernel_rfl) (by kernel_rfl) (by kernel_rfl) (fun _ _ _ h => h) (Or.inr ⟨by kernel_rfl, rfl⟩) HSB.out ?_
          refine wpAnyH_take (i := 19) (v := undef) rfl (by kernel_rfl) (by kernel_rfl) (by kernel_rfl) (fun _ _ _ h => h) (Or.inr ⟨by kernel_rfl, rfl⟩) HSB.out ?_
          refine wpAnyH_take (i := 20) (v := undef) rfl (by kernel_rfl) (by kernel_rfl) (by kernel_rfl) (fun _ _ _ h => h) (Or.inr ⟨by kernel_rfl, rfl⟩) HSB.out ?_
          refine wpAnyH_take (i := 21) (v := undef) rfl (by kernel_rfl) (by kernel_rfl) (by kernel_rfl) (fun _ _ _ h => h) (Or.inr ⟨by kernel_rfl, rfl⟩) HSB.out ?_
          refine wpAnyH_take (i := 22) (v := .bool true) rfl (by kernel_rfl) (by kernel_rfl) (by kernel_rfl) (fun _ _ _ h => h) (Or.inl ⟨by kernel_rfl, fun w9 h9 => ?_⟩) HSB.out ?_
          · go_simp
          refine wpAnyH_done (by kernel_rfl) ?_ _
          go_simp
          have hlg : Hid (LG w u0.drew b0 #[.int .i64 z.t, .int .i64 z.kind, .int .i64 z.num, .int .i64 z.val] 46) := HLN.out.drew
          have k0 := hlg.out.cel 0 _ rfl
          have k1 := hlg.out.cel 1 _ rfl
          have k2 := hlg.out.cel 2 _ rfl
          have k3 := hlg.out.cel 3 _ rfl
          have kl := hlg.out.lt
          go_wp2_with (go_at_call 23; refine Calls.mono (HW.out _) ?_; rintro e u1 ⟨rfl, hw1⟩; rw [hw1]; clear hw1)
          go_ret
          exact ⟨ret_int E2.out.symm, hlg.out.bel⟩
      | j + 1, hlt, hk, hk0, hk1, HALL, HS, HBAD =>
        obtain ⟨d0, d1, d2, d3⟩ := hc.below HB.out hg (j + 1) hlt
        obtain ⟨y0, _, _, _⟩ := hc.below HB.out hg j (by omega)
        have HEK : Hid (evk zs (j + 1) = (evB zs[j + 1] && decide (zs[j].t ≤ zs[j + 1].t))) := evk_s hlt
        generalize zs[j] = y at *
        have hj1 : ((j + 1 : Nat) : Int) - 1 = (j : Int) := by omega
        have hj2 : (j : Int) < (zs.length : Int) := by omega
        have hj3 : (0 : Int) ≤ (j : Int) := by omega
        have hj4 : decide ((0 : Int) < ((j + 1 : Nat) : Int)) = true := decide_eq_true (by omega)
        have hj5 : IntKind.i64.wrap (j : Int) = (j : Int) := by rw [IntKind.wrap_i64]; omega
        generalize zs[(j + 1)] = z at *
        have HLN : Hid (LG w (wr.alloc (.cells #[.int .i64 z.t, .int .i64 z.kind, .int .i64 z.num, .int .i64 z.val] 46)) wr.heap.size #[.int .i64 z.t, .int .i64 z.kind, .int .i64 z.num, .int .i64 z.val] 46) := ⟨HB.out.trans ((bx1 wr _).mono HB.out.size), heap_new _ _, HB.out.size⟩
        clear hc
        have HW : Hid (∀ u, Calls Try.prog 23 #[.int .i64 z.val] u fun e w' => e = .returned (.bool (isW z.val)) ∧ w' = u) := fun u => specIsWord_any z.val u
        have HE : Hid (evB z = (decide (0 ≤ z.t) && decide (z.t ≤ 1099511627776) && (((z.kind == 1) && decide (0 ≤ z.num) && decide (z.num < 7) && (z.val == 0)) || ((z.kind == 2) && decide (0 ≤ z.num) && decide (z.num ≤ 2047) && isW z.val)))) := rfl
        generalize evB z = V at *
        generalize isW z.val = I at *
        cases q0 : decide (z.t < 0)
        · skip
          cases q1 : decide (1099511627776 < z.t)
          · skip
            cases q2 : decide (z.t < y.t)
            · skip
              cases q3 : (z.kind == 1)
              · skip
                cases q4 : (z.kind == 2)
                · skip
                  have E2 : Hid (efV zs = 1) := HBAD.out (HEK.out.trans (by rw [HE.out]; have rq0 := of_decide_eq_false q0; have rq1 := of_decide_eq_false q1; have rq2 := of_decide_eq_false q2; have rq3 := beq_eq_false_iff_ne.1 q3; have rq4 := beq_eq_false_iff_ne.1 q4; simp; try omega))
                  clear HE HEK HBAD HS
                  go_upto_region 7 with fail
                  have y1 : (wr.alloc (.cells #[.int .i64 z.t, .int .i64 z.kind, .int .i64 z.num, .int .i64 z.val] 46)).cell? ⟨g, o + j * 4, none⟩ = _ := ((bx1 wr (.cells #[.int .i64 z.t, .int .i64 z.kind, .int .i64 z.num, .int .i64 z.val] 46)).cell (p := ⟨g, o + j * 4, none⟩) hgw).trans y0
                  have gl : g < (wr.alloc (.cells #[.int .i64 z.t, .int .i64 z.kind, .int .i64 z.num, .int .i64 z.val] 46)).heap.size := Nat.lt_of_lt_of_le hgw (bx1 wr (.cells #[.int .i64 z.t, .int .i64 z.kind, .int .i64 z.num, .int .i64 z.val] 46)).size
                  clear d0 d1 d2 d3
                  clear y0
                  generalize (wr.alloc (.cells #[.int .i64 z.t, .int .i64 z.kind, .int .i64 z.num, .int .i64 z.val] 46)) = u0 at *
                  generalize wr.heap.size = b0 at *
                  have HSB : Hid ((fun w' => (LG w w' b0 #[.int .i64 z.t, .int .i64 z.kind, .int .i64 z.num, .int .i64 z.val] 46) ∧ w'.cell? ⟨g, o + j * 4, none⟩ = some (.int .i64 y.t) ∧ g < w'.heap.size) u0.drew) := ⟨HLN.out.drew, y1, gl⟩
                  refine wp_region_held (S := fun w' => (LG w w' b0 #[.int .i64 z.t, .int .i64 z.kind, .int .i64 z.num, .int .i64 z.val] 46) ∧ w'.cell? ⟨g, o + j * 4, none⟩ = some (.int .i64 y.t) ∧ g < w'.heap.size) (by kernel_rfl) ?_
                  change wpAnyH _ _ _ _ _ _ _ _ (World.drew _)
                  refine wpAnyH_take (i := 0) (v := .pointer (some ⟨b0, 0, none⟩)) rfl (by kernel_rfl) (by kernel_rfl) (by kernel_rfl) (fun _ _ _ h => h) (Or.inl ⟨by kernel_rfl, fun w9 h9 => ?_⟩) HSB.out ?_
                  · go_simp
                  refine wpAnyH_take (i := 1) (v := .int .i64 z.t) rfl (by kernel_rfl) (by kernel_rfl) (by kernel_rfl) (fun _ _ _ h => h) (Or.inl ⟨by kernel_rfl, fun w9 h9 => ?_⟩) HSB.out ?_
                  · obtain ⟨hlg, y2, _⟩ := h9; have k0 := hlg.cel 0 _ rfl; have k1 := hlg.cel 1 _ rfl; have k2 := hlg.cel 2 _ rfl; have k3 := hlg.cel 3 _ rfl; go_simp
                  refine wpAnyH_take (i := 2) (v := .bool false) rfl (by kernel_rfl) (by kernel_rfl) (by kernel_rfl) (fun _ _ _ h => h) (Or.inl ⟨by kernel_rfl, fun w9 h9 => ?_⟩) HSB.out ?_
                  · go_simp; all_goals omega
                  refine wpAnyH_take (i := 3) (v := .bool false) rfl (by kernel_rfl) (by kernel_rfl) (by kernel_rfl) (fun _ _ _ h => h) (Or.inl ⟨by kernel_rfl, fun w9 h9 => ?_⟩) HSB.out ?_
                  · go_simp
                  refine wpAnyH_take (i := 4) (v := .pointer (some ⟨b0, 0, none⟩)) rfl (by kernel_rfl) (by kernel_rfl) (by kernel_rfl) (fun _ _ _ h => h) (Or.inl ⟨by kernel_rfl, fun w9 h9 => ?_⟩) HSB.out ?_
                  · go_simp
                  refine wpAnyH_take (i := 5) (v := .int .i64 z.t) rfl (by kernel_rfl) (by kernel_rfl) (by kernel_rfl) (fun _ _ _ h => h) (Or.inl ⟨by kernel_rfl, fun w9 h9 => ?_⟩) HSB.out ?_
                  · obtain ⟨hlg, y2, _⟩ := h9; have k0 := hlg.cel 0 _ rfl; have k1 := hlg.cel 1 _ rfl; have k2 := hlg.cel 2 _ rfl; have k3 := hlg.cel 3 _ rfl; go_simp
                  refine wpAnyH_take (i := 6) (v := .bool false) rfl (by kernel_rfl) (by kernel_rfl) (by kernel_rfl) (fun _ _ _ h => h) (Or.inl ⟨by kernel_rfl, fun w9 h9 => ?_⟩) HSB.out ?_
                  · go_simp; all_goals omega
                  refine wpAnyH_take (i := 7) (v := .bool false) rfl (by kernel_rfl) (by kernel_rfl) (by kernel_rfl) (fun _ _ _ h => h) (Or.inl ⟨by kernel_rfl, fun w9 h9 => ?_⟩) HSB.out ?_
                  · go_simp
                  refine wpAnyH_take (i := 8) (v := .bool false) rfl (by kernel_rfl) (by kernel_rfl) (by kernel_rfl) (fun _ _ _ h => h) (Or.inl ⟨by kernel_rfl, fun w9 h9 => ?_⟩) HSB.out ?_
                  · go_simp
                  refine wpAnyH_take (i := 9) (v := .int .i64 ((j + 1 : Nat) : Int)) rfl (by kernel_rfl) (by kernel_rfl) (by kernel_rfl) (fun _ _ _ h => h) (Or.inl ⟨by kernel_rfl, fun w9 h9 => ?_⟩) HSB.out ?_
                  · go_simp
                  refine wpAnyH_take (i := 10) (v := .bool true) rfl (by kernel_rfl) (by kernel_rfl) (by kernel_rfl) (fun _ _ _ h => h) (Or.inl ⟨by kernel_rfl, fun w9 h9 => ?_⟩) HSB.out ?_
                  · go_simp; all_goals omega
                  refine wpAnyH_take (i := 11) (v := .bool true) rfl (by kernel_rfl) (by kernel_rfl) (by kernel_rfl) (fun _ _ _ h => h) (Or.inl ⟨by kernel_rfl, fun w9 h9 => ?_⟩) HSB.out ?_
                  · go_simp
                  refine wpAnyH_take (i := 12) (v := .pointer (some ⟨b0, 0, none⟩)) rfl (by kernel_rfl) (by kernel_rfl) (by kernel_rfl) (fun _ _ _ h => h) (Or.inl ⟨by kernel_rfl, fun w9 h9 => ?_⟩) HSB.out ?_
                  · go_simp
                  refine wpAnyH_take (i := 13) (v := .int .i64 z.t) rfl (by kernel_rfl) (by kernel_rfl) (by kernel_rfl) (fun _ _ _ h => h) (Or.inl ⟨by kernel_rfl, fun w9 h9 => ?_⟩) HSB.out ?_
                  · obtain ⟨hlg, y2, _⟩ := h9; have k0 := hlg.cel 0 _ rfl; have k1 := hlg.cel 1 _ rfl; have k2 := hlg.cel 2 _ rfl; have k3 := hlg.cel 3 _ rfl; go_simp
                  refine wpAnyH_take (i := 14) (v := .slice (some ⟨g, o, none⟩) zs.length cap) rfl (by kernel_rfl) (by kernel_rfl) (by kernel_rfl) (fun _ _ _ h => h) (Or.inl ⟨by kernel_rfl, fun w9 h9 => ?_⟩) HSB.out ?_
                  · go_simp
                  refine wpAnyH_take (i := 15) (v := .int .i64 ((j + 1 : Nat) : Int)) rfl (by kernel_rfl) (by kernel_rfl) (by kernel_rfl) (fun _ _ _ h => h) (Or.inl ⟨by kernel_rfl, fun w9 h9 => ?_⟩) HSB.out ?_
                  · go_simp
                  refine wpAnyH_take (i := 16) (v := .int .i64 (j : Int)) rfl (by kernel_rfl) (by kernel_rfl) (by kernel_rfl) (fun _ _ _ h => h) (Or.inl ⟨by kernel_rfl, fun w9 h9 => ?_⟩) HSB.out ?_
                  · go_simp
                  refine wpAnyH_take (i := 17) (v := .pointer (some ⟨g, o + j * 4, none⟩)) rfl (by kernel_rfl) (by kernel_rfl) (by kernel_rfl) (fun _ _ _ h => h) (Or.inl ⟨by kernel_rfl, fun w9 h9 => ?_⟩) HSB.out ?_
                  · go_simp
                  refine wpAnyH_take (i := 18) (v := .pointer (some ⟨g, o + j * 4, none⟩)) rfl (by kernel_rfl) (by kernel_rfl) (by kernel_rfl) (fun _ _ _ h => h) (Or.inl ⟨by kernel_rfl, fun w9 h9 => ?_⟩) HSB.out ?_
                  · go_simp
                  refine wpAnyH_take (i := 19) (v := .int .i64 y.t) rfl (by kernel_rfl) (by kernel_rfl) (by kernel_rfl) (fun _ _ _ h => h) (Or.inl ⟨by kernel_rfl, fun w9 h9 => ?_⟩) HSB.out ?_
                  · obtain ⟨hlg, y2, _⟩ := h9; have k0 := hlg.cel 0 _ rfl; have k1 := hlg.cel 1 _ rfl; have k2 := hlg.cel 2 _ rfl; have k3 := hlg.cel 3 _ rfl; go_simp
                  refine wpAnyH_take (i := 20) (v := .bool false) rfl (by kernel_rfl) (by kernel_rfl) (by kernel_rfl) (fun _ _ _ h => h) (Or.inl ⟨by kernel_rfl, fun w9 h9 => ?_⟩) HSB.out ?_
                  · go_simp; all_goals omega
                  refine wpAnyH_take (i := 21) (v := .bool false) rfl (by kernel_rfl) (by kernel_rfl) (by kernel_rfl) (fun _ _ _ h => h) (Or.inl ⟨by kernel_rfl, fun w9 h9 => ?_⟩) HSB.out ?_
                  · go_simp
                  refine wpAnyH_take (i := 22) (v := .bool false) rfl (by kernel_rfl) (by kernel_rfl) (by kernel_rfl) (fun _ _ _ h => h) (Or.inl ⟨by kernel_rfl, fun w9 h9 => ?_⟩) HSB.out ?_
                  · go_simp
                  refine wpAnyH_done (by kernel_rfl) ?_ _
                  go_simp
                  have hlg : Hid (LG w u0.drew b0 #[.int .i64 z.t, .int .i64 z.kind, .int .i64 z.num, .int .i64 z.val] 46) := HLN.out.drew
                  have k0 := hlg.out.cel 0 _ rfl
                  have k1 := hlg.out.cel 1 _ rfl
                  have k2 := hlg.out.cel 2 _ rfl
                  have k3 := hlg.out.cel 3 _ rfl
                  have kl := hlg.out.lt
                  go_wp2_with (go_at_call 23; refine Calls.mono (HW.out _) ?_; rintro e u1 ⟨rfl, hw1⟩; rw [hw1]; clear hw1)
                  go_ret
                  exact ⟨ret_int E2.out.symm, hlg.out.bel⟩
                · skip
                  cases q5 : decide (z.num < 0)
                  · skip
                    cases q6 : decide (2047 < z.num)
                    · skip
                      cases I
                      · skip
                        have E2 : Hid (efV zs = 1) := HBAD.out (HEK.out.trans (by rw [HE.out]; have rq0 := of_decide_eq_false q0; have rq1 := of_decide_eq_false q1; have rq2 := of_decide_eq_false q2; have rq3 := beq_eq_false_iff_ne.1 q3; have rq4 := beq_iff_eq.1 q4; have rq5 := of_decide_eq_false q5; have rq6 := of_decide_eq_false q6; simp; try omega))
                        clear HE HEK HBAD HS
                        go_upto_region 7 with fail
                        have y1 : (wr.alloc (.cells #[.int .i64 z.t, .int .i64 z.kind, .int .i64 z.num, .int .i64 z.val] 46)).cell? ⟨g, o + j * 4, none⟩ = _ := ((bx1 wr (.cells #[.int .i64 z.t, .int .i64 z.kind, .int .i64 z.num, .int .i64 z.val] 46)).cell (p := ⟨g, o + j * 4, none⟩) hgw).trans y0
                        have gl : g < (wr.alloc (.cells #[.int .i64 z.t, .int .i64 z.kind, .int .i64 z.num, .int .i64 z.val] 46)).heap.size := Nat.lt_of_lt_of_le hgw (bx1 wr (.cells #[.int .i64 z.t, .int .i64 z.kind, .int .i64 z.num, .int .i64 z.val] 46)).size
                        clear d0 d1 d2 d3
                        clear y0
                        generalize (wr.alloc (.cells #[.int .i64 z.t, .int .i64 z.kind, .int .i64 z.num, .int .i64 z.val] 46)) = u0 at *
                        generalize wr.heap.size = b0 at *
                        have HSB : Hid ((fun w' => (LG w w' b0 #[.int .i64 z.t, .int .i64 z.kind, .int .i64 z.num, .int .i64 z.val] 46) ∧ w'.cell? ⟨g, o + j * 4, none⟩ = some (.int .i64 y.t) ∧ g < w'.heap.size) u0.drew) := ⟨HLN.out.drew, y1, gl⟩
                        refine wp_region_held (S := fun w' => (LG w w' b0 #[.int .i64 z.t, .int .i64 z.kind, .int .i64 z.num, .int .i64 z.val] 46) ∧ w'.cell? ⟨g, o + j * 4, none⟩ = some (.int .i64 y.t) ∧ g < w'.heap.size) (by kernel_rfl) ?_
                        change wpAnyH _ _ _ _ _ _ _ _ (World.drew _)
                        refine wpAnyH_take (i := 0) (v := .pointer (some ⟨b0, 0, none⟩)) rfl (by kernel_rfl) (by kernel_rfl) (by kernel_rfl) (fun _ _ _ h => h) (Or.inl ⟨by kernel_rfl, fun w9 h9 => ?_⟩) HSB.out ?_
                        · go_simp
                        refine wpAnyH_take (i := 1) (v := .int .i64 z.t) rfl (by kernel_rfl) (by kernel_rfl) (by kernel_rfl) (fun _ _ _ h => h) (Or.inl ⟨by kernel_rfl, fun w9 h9 => ?_⟩) HSB.out ?_
                        · obtain ⟨hlg, y2, _⟩ := h9; have k0 := hlg.cel 0 _ rfl; have k1 := hlg.cel 1 _ rfl; have k2 := hlg.cel 2 _ rfl; have k3 := hlg.cel 3 _ rfl; go_simp
                        refine wpAnyH_take (i := 2) (v := .bool false) rfl (by kernel_rfl) (by kernel_rfl) (by kernel_rfl) (fun _ _ _ h => h) (Or.inl ⟨by kernel_rfl, fun w9 h9 => ?_⟩) HSB.out ?_
                        · go_simp; all_goals omega
                        refine wpAnyH_take (i := 3) (v := .bool false) rfl (by kernel_rfl) (by kernel_rfl) (by kernel_rfl) (fun _ _ _ h => h) (Or.inl ⟨by kernel_rfl, fun w9 h9 => ?_⟩) HSB.out ?_
                        · go_simp
                        refine wpAnyH_take (i := 4) (v := .pointer (some ⟨b0, 0, none⟩)) rfl (by kernel_rfl) (by kernel_rfl) (by kernel_rfl) (fun _ _ _ h => h) (Or.inl ⟨by kernel_rfl, fun w9 h9 => ?_⟩) HSB.out ?_
                        · go_simp
                        refine wpAnyH_take (i := 5) (v := .int .i64 z.t) rfl (by kernel_rfl) (by kernel_rfl) (by kernel_rfl) (fun _ _ _ h => h) (Or.inl ⟨by kernel_rfl, fun w9 h9 => ?_⟩) HSB.out ?_
                        · obtain ⟨hlg, y2, _⟩ := h9; have k0 := hlg.cel 0 _ rfl; have k1 := hlg.cel 1 _ rfl; have k2 := hlg.cel 2 _ rfl; have k3 := hlg.cel 3 _ rfl; go_simp
                        refine wpAnyH_take (i := 6) (v := .bool false) rfl (by kernel_rfl) (by kernel_rfl) (by kernel_rfl) (fun _ _ _ h => h) (Or.inl ⟨by kernel_rfl, fun w9 h9 => ?_⟩) HSB.out ?_
                        · go_simp; all_goals omega
                        refine wpAnyH_take (i := 7) (v := .bool false) rfl (by kernel_rfl) (by kernel_rfl) (by kernel_rfl) (fun _ _ _ h => h) (Or.inl ⟨by kernel_rfl, fun w9 h9 => ?_⟩) HSB.out ?_
                        · go_simp
                        refine wpAnyH_take (i := 8) (v := .bool false) rfl (by kernel_rfl) (by kernel_rfl) (by kernel_rfl) (fun _ _ _ h => h) (Or.inl ⟨by kernel_rfl, fun w9 h9 => ?_⟩) HSB.out ?_
                        · go_simp
                        refine wpAnyH_take (i := 9) (v := .int .i64 ((j + 1 : Nat) : Int)) rfl (by kernel_rfl) (by kernel_rfl) (by kernel_rfl) (fun _ _ _ h => h) (Or.inl ⟨by kernel_rfl, fun w9 h9 => ?_⟩) HSB.out ?_
                        · go_simp
                        refine wpAnyH_take (i := 10) (v := .bool true) rfl (by kernel_rfl) (by kernel_rfl) (by kernel_rfl) (fun _ _ _ h => h) (Or.inl ⟨by kernel_rfl, fun w9 h9 => ?_⟩) HSB.out ?_
                        · go_simp; all_goals omega
                        refine wpAnyH_take (i := 11) (v := .bool true) rfl (by kernel_rfl) (by kernel_rfl) (by kernel_rfl) (fun _ _ _ h => h) (Or.inl ⟨by kernel_rfl, fun w9 h9 => ?_⟩) HSB.out ?_
                        · go_simp
                        refine wpAnyH_take (i := 12) (v := .pointer (some ⟨b0, 0, none⟩)) rfl (by kernel_rfl) (by kernel_rfl) (by kernel_rfl) (fun _ _ _ h => h) (Or.inl ⟨by kernel_rfl, fun w9 h9 => ?_⟩) HSB.out ?_
                        · go_simp
                        refine wpAnyH_take (i := 13) (v := .int .i64 z.t) rfl (by kernel_rfl) (by kernel_rfl) (by kernel_rfl) (fun _ _ _ h => h) (Or.inl ⟨by kernel_rfl, fun w9 h9 => ?_⟩) HSB.out ?_
                        · obtain ⟨hlg, y2, _⟩ := h9; have k0 := hlg.cel 0 _ rfl; have k1 := hlg.cel 1 _ rfl; have k2 := hlg.cel 2 _ rfl; have k3 := hlg.cel 3 _ rfl; go_simp
                        refine wpAnyH_take (i := 14) (v := .slice (some ⟨g, o, none⟩) zs.length cap) rfl (by kernel_rfl) (by kernel_rfl) (by kernel_rfl) (fun _ _ _ h => h) (Or.inl ⟨by kernel_rfl, fun w9 h9 => ?_⟩) HSB.out ?_
                        · go_simp
                        refine wpAnyH_take (i := 15) (v := .int .i64 ((j + 1 : Nat) : Int)) rfl (by kernel_rfl) (by kernel_rfl) (by kernel_rfl) (fun _ _ _ h => h) (Or.inl ⟨by kernel_rfl, fun w9 h9 => ?_⟩) HSB.out ?_
                        · go_simp
                        refine wpAnyH_take (i := 16) (v := .int .i64 (j : Int)) rfl (by kernel_rfl) (by kernel_rfl) (by kernel_rfl) (fun _ _ _ h => h) (Or.inl ⟨by kernel_rfl, fun w9 h9 => ?_⟩) HSB.out ?_
                        · go_simp
                        refine wpAnyH_take (i := 17) (v := .pointer (some ⟨g, o + j * 4, none⟩)) rfl (by kernel_rfl) (by kernel_rfl) (by kernel_rfl) (fun _ _ _ h => h) (Or.inl ⟨by kernel_rfl, fun w9 h9 => ?_⟩) HSB.out ?_
                        · go_simp
                        refine wpAnyH_take (i := 18) (v := .pointer (some ⟨g, o + j * 4, none⟩)) rfl (by kernel_rfl) (by kernel_rfl) (by kernel_rfl) (fun _ _ _ h => h) (Or.inl ⟨by kernel_rfl, fun w9 h9 => ?_⟩) HSB.out ?_
                        · go_simp
                        refine wpAnyH_take (i := 19) (v := .int .i64 y.t) rfl (by kernel_rfl) (by kernel_rfl) (by kernel_rfl) (fun _ _ _ h => h) (Or.inl ⟨by kernel_rfl, fun w9 h9 => ?_⟩) HSB.out ?_
                        · obtain ⟨hlg, y2, _⟩ := h9; have k0 := hlg.cel 0 _ rfl; have k1 := hlg.cel 1 _ rfl; have k2 := hlg.cel 2 _ rfl; have k3 := hlg.cel 3 _ rfl; go_simp
                        refine wpAnyH_take (i := 20) (v := .bool false) rfl (by kernel_rfl) (by kernel_rfl) (by kernel_rfl) (fun _ _ _ h => h) (Or.inl ⟨by kernel_rfl, fun w9 h9 => ?_⟩) HSB.out ?_
                        · go_simp; all_goals omega
                        refine wpAnyH_take (i := 21) (v := .bool false) rfl (by kernel_rfl) (by kernel_rfl) (by kernel_rfl) (fun _ _ _ h => h) (Or.inl ⟨by kernel_rfl, fun w9 h9 => ?_⟩) HSB.out ?_
                        · go_simp
                        refine wpAnyH_take (i := 22) (v := .bool false) rfl (by kernel_rfl) (by kernel_rfl) (by kernel_rfl) (fun _ _ _ h => h) (Or.inl ⟨by kernel_rfl, fun w9 h9 => ?_⟩) HSB.out ?_
                        · go_simp
                        refine wpAnyH_done (by kernel_rfl) ?_ _
                        go_simp
                        have hlg : Hid (LG w u0.drew b0 #[.int .i64 z.t, .int .i64 z.kind, .int .i64 z.num, .int .i64 z.val] 46) := HLN.out.drew
                        have k0 := hlg.out.cel 0 _ rfl
                        have k1 := hlg.out.cel 1 _ rfl
                        have k2 := hlg.out.cel 2 _ rfl
                        have k3 := hlg.out.cel 3 _ rfl
                        have kl := hlg.out.lt
                        go_wp2_with (go_at_call 23; refine Calls.mono (HW.out _) ?_; rintro e u1 ⟨rfl, hw1⟩; rw [hw1]; clear hw1)
                        go_ret
                        exact ⟨ret_int E2.out.symm, hlg.out.bel⟩
                      · skip
                        have E2 : Hid (allN (evk zs) (j + 1 + 1) = true) := (show allN (evk zs) (j + 1 + 1) = true by rw [HS.out, HALL.out, HEK.out, HE.out]; have rq0 := of_decide_eq_false q0; have rq1 := of_decide_eq_false q1; have rq2 := of_decide_eq_false q2; have rq3 := beq_eq_false_iff_ne.1 q3; have rq4 := beq_iff_eq.1 q4; have rq5 := of_decide_eq_false q5; have rq6 := of_decide_eq_false q6; simp; try omega)
                        clear HE HEK HBAD HS
                        go_upto_region 7 with fail
                        have y1 : (wr.alloc (.cells #[.int .i64 z.t, .int .i64 z.kind, .int .i64 z.num, .int .i64 z.val] 46)).cell? ⟨g, o + j * 4, none⟩ = _ := ((bx1 wr (.cells #[.int .i64 z.t, .int .i64 z.kind, .int .i64 z.num, .int .i64 z.val] 46)).cell (p := ⟨g, o + j * 4, none⟩) hgw).trans y0
                        have gl : g < (wr.alloc (.cells #[.int .i64 z.t, .int .i64 z.kind, .int .i64 z.num, .int .i64 z.val] 46)).heap.size := Nat.lt_of_lt_of_le hgw (bx1 wr (.cells #[.int .i64 z.t, .int .i64 z.kind, .int .i64 z.num, .int .i64 z.val] 46)).size
                        clear d0 d1 d2 d3
                        clear y0
                        generalize (wr.alloc (.cells #[.int .i64 z.t, .int .i64 z.kind, .int .i64 z.num, .int .i64 z.val] 46)) = u0 at *
                        generalize wr.heap.size = b0 at *
                        have HSB : Hid ((fun w' => (LG w w' b0 #[.int .i64 z.t, .int .i64 z.kind, .int .i64 z.num, .int .i64 z.val] 46) ∧ w'.cell? ⟨g, o + j * 4, none⟩ = some (.int .i64 y.t) ∧ g < w'.heap.size) u0.drew) := ⟨HLN.out.drew, y1, gl⟩
                        refine wp_region_held (S := fun w' => (LG w w' b0 #[.int .i64 z.t, .int .i64 z.kind, .int .i64 z.num, .int .i64 z.val] 46) ∧ w'.cell? ⟨g, o + j * 4, none⟩ = some (.int .i64 y.t) ∧ g < w'.heap.size) (by kernel_rfl) ?_
                        change wpAnyH _ _ _ _ _ _ _ _ (World.drew _)
                        refine wpAnyH_take (i := 0) (v := .pointer (some ⟨b0, 0, none⟩)) rfl (by kernel_rfl) (by kernel_rfl) (by kernel_rfl) (fun _ _ _ h => h) (Or.inl ⟨by kernel_rfl, fun w9 h9 => ?_⟩) HSB.out ?_
                        · go_simp
                        refine wpAnyH_take (i := 1) (v := .int .i64 z.t) rfl (by kernel_rfl) (by kernel_rfl) (by kernel_rfl) (fun _ _ _ h => h) (Or.inl ⟨by kernel_rfl, fun w9 h9 => ?_⟩) HSB.out ?_
                        · obtain ⟨hlg, y2, _⟩ := h9; have k0 := hlg.cel 0 _ rfl; have k1 := hlg.cel 1 _ rfl; have k2 := hlg.cel 2 _ rfl; have k3 := hlg.cel 3 _ rfl; go_simp
                        refine wpAnyH_take (i := 2) (v := .bool false) rfl (by kernel_rfl) (by kernel_rfl) (by kernel_rfl) (fun _ _ _ h => h) (Or.inl ⟨by kernel_rfl, fun w9 h9 => ?_⟩) HSB.out ?_
                        · go_simp; all_goals omega
                        refine wpAnyH_take (i := 3) (v := .bool false) rfl (by kernel_rfl) (by kernel_rfl) (by kernel_rfl) (fun _ _ _ h => h) (Or.inl ⟨by kernel_rfl, fun w9 h9 => ?_⟩) HSB.out ?_
                        · go_simp
                        refine wpAnyH_take (i := 4) (v := .pointer (some ⟨b0, 0, none⟩)) rfl (by kernel_rfl) (by kernel_rfl) (by kernel_rfl) (fun _ _ _ h => h) (Or.inl ⟨by kernel_rfl, fun w9 h9 => ?_⟩) HSB.out ?_
                        · go_simp
                        refine wpAnyH_take (i := 5) (v := .int .i64 z.t) rfl (by kernel_rfl) (by kernel_rfl) (by kernel_rfl) (fun _ _ _ h => h) (Or.inl ⟨by kernel_rfl, fun w9 h9 => ?_⟩) HSB.out ?_
                        · obtain ⟨hlg, y2, _⟩ := h9; have k0 := hlg.cel 0 _ rfl; have k1 := hlg.cel 1 _ rfl; have k2 := hlg.cel 2 _ rfl; have k3 := hlg.cel 3 _ rfl; go_simp
                        refine wpAnyH_take (i := 6) (v := .bool false) rfl (by kernel_rfl) (by kernel_rfl) (by kernel_rfl) (fun _ _ _ h => h) (Or.inl ⟨by kernel_rfl, fun w9 h9 => ?_⟩) HSB.out ?_
                        · go_simp; all_goals omega
                        refine wpAnyH_take (i := 7) (v := .bool false) rfl (by kernel_rfl) (by kernel_rfl) (by kernel_rfl) (fun _ _ _ h => h) (Or.inl ⟨by kernel_rfl, fun w9 h9 => ?_⟩) HSB.out ?_
                        · go_simp
                        refine wpAnyH_take (i := 8) (v := .bool false) rfl (by kernel_rfl) (by kernel_rfl) (by kernel_rfl) (fun _ _ _ h => h) (Or.inl ⟨by kernel_rfl, fun w9 h9 => ?_⟩) HSB.out ?_
                        · go_simp
                        refine wpAnyH_take (i := 9) (v := .int .i64 ((j + 1 : Nat) : Int)) rfl (by kernel_rfl) (by kernel_rfl) (by kernel_rfl) (fun _ _ _ h => h) (Or.inl ⟨by kernel_rfl, fun w9 h9 => ?_⟩) HSB.out ?_
                        · go_simp
                        refine wpAnyH_take (i := 10) (v := .bool true) rfl (by kernel_rfl) (by kernel_rfl) (by kernel_rfl) (fun _ _ _ h => h) (Or.inl ⟨by kernel_rfl, fun w9 h9 => ?_⟩) HSB.out ?_
                        · go_simp; all_goals omega
                        refine wpAnyH_take (i := 11) (v := .bool true) rfl (by kernel_rfl) (by kernel_rfl) (by kernel_rfl) (fun _ _ _ h => h) (Or.inl ⟨by kernel_rfl, fun w9 h9 => ?_⟩) HSB.out ?_
                        · go_simp
                        refine wpAnyH_take (i := 12) (v := .pointer (some ⟨b0, 0, none⟩)) rfl (by kernel_rfl) (by kernel_rfl) (by kernel_rfl) (fun _ _ _ h => h) (Or.inl ⟨by kernel_rfl, fun w9 h9 => ?_⟩) HSB.out ?_
                        · go_simp
                        refine wpAnyH_take (i := 13) (v := .int .i64 z.t) rfl (by kernel_rfl) (by kernel_rfl) (by kernel_rfl) (fun _ _ _ h => h) (Or.inl ⟨by kernel_rfl, fun w9 h9 => ?_⟩) HSB.out ?_
                        · obtain ⟨hlg, y2, _⟩ := h9; have k0 := hlg.cel 0 _ rfl; have k1 := hlg.cel 1 _ rfl; have k2 := hlg.cel 2 _ rfl; have k3 := hlg.cel 3 _ rfl; go_simp
                        refine wpAnyH_take (i := 14) (v := .slice (some ⟨g, o, none⟩) zs.length cap) rfl (by kernel_rfl) (by kernel_rfl) (by kernel_rfl) (fun _ _ _ h => h) (Or.inl ⟨by kernel_rfl, fun w9 h9 => ?_⟩) HSB.out ?_
                        · go_simp
                        refine wpAnyH_take (i := 15) (v := .int .i64 ((j + 1 : Nat) : Int)) rfl (by kernel_rfl) (by kernel_rfl) (by kernel_rfl) (fun _ _ _ h => h) (Or.inl ⟨by kernel_rfl, fun w9 h9 => ?_⟩) HSB.out ?_
                        · go_simp
                        refine wpAnyH_take (i := 16) (v := .int .i64 (j : Int)) rfl (by kernel_rfl) (by kernel_rfl) (by kernel_rfl) (fun _ _ _ h => h) (Or.inl ⟨by kernel_rfl, fun w9 h9 => ?_⟩) HSB.out ?_
                        · go_simp
                        refine wpAnyH_take (i := 17) (v := .pointer (some ⟨g, o + j * 4, none⟩)) rfl (by kernel_rfl) (by kernel_rfl) (by kernel_rfl) (fun _ _ _ h => h) (Or.inl ⟨by kernel_rfl, fun w9 h9 => ?_⟩) HSB.out ?_
                        · go_simp
                        refine wpAnyH_take (i := 18) (v := .pointer (some ⟨g, o + j * 4, none⟩)) rfl (by kernel_rfl) (by kernel_rfl) (by kernel_rfl) (fun _ _ _ h => h) (Or.inl ⟨by kernel_rfl, fun w9 h9 => ?_⟩) HSB.out ?_
                        · go_simp
                        refine wpAnyH_take (i := 19) (v := .int .i64 y.t) rfl (by kernel_rfl) (by kernel_rfl) (by kernel_rfl) (fun _ _ _ h => h) (Or.inl ⟨by kernel_rfl, fun w9 h9 => ?_⟩) HSB.out ?_
                        · obtain ⟨hlg, y2, _⟩ := h9; have k0 := hlg.cel 0 _ rfl; have k1 := hlg.cel 1 _ rfl; have k2 := hlg.cel 2 _ rfl; have k3 := hlg.cel 3 _ rfl; go_simp
                        refine wpAnyH_take (i := 20) (v := .bool false) rfl (by kernel_rfl) (by kernel_rfl) (by kernel_rfl) (fun _ _ _ h => h) (Or.inl ⟨by kernel_rfl, fun w9 h9 => ?_⟩) HSB.out ?_
                        · go_simp; all_goals omega
                        refine wpAnyH_take (i := 21) (v := .bool false) rfl (by kernel_rfl) (by kernel_rfl) (by kernel_rfl) (fun _ _ _ h => h) (Or.inl ⟨by kernel_rfl, fun w9 h9 => ?_⟩) HSB.out ?_
                        · go_simp
                        refine wpAnyH_take (i := 22) (v := .bool false) rfl (by kernel_rfl) (by kernel_rfl) (by kernel_rfl) (fun _ _ _ h => h) (Or.inl ⟨by kernel_rfl, fun w9 h9 => ?_⟩) HSB.out ?_
                        · go_simp
                        refine wpAnyH_done (by kernel_rfl) ?_ _
                        go_simp
                        have hlg : Hid (LG w u0.drew b0 #[.int .i64 z.t, .int .i64 z.kind, .int .i64 z.num, .int .i64 z.val] 46) := HLN.out.drew
                        have k0 := hlg.out.cel 0 _ rfl
                        have k1 := hlg.out.cel 1 _ rfl
                        have k2 := hlg.out.cel 2 _ rfl
                        have k3 := hlg.out.cel 3 _ rfl
                        have kl := hlg.out.lt
                        go_wp2_with (go_at_call 23; refine Calls.mono (HW.out _) ?_; rintro e u1 ⟨rfl, hw1⟩; rw [hw1]; clear hw1)
                        exact ⟨⟨j + 1 + 1, hlt, by go_num, E2.out, hlg.out.bel⟩, by simp [intOf]; omega⟩
                    · skip
                      have E2 : Hid (efV zs = 1) := HBAD.out (HEK.out.trans (by rw [HE.out]; have rq0 := of_decide_eq_false q0; have rq1 := of_decide_eq_false q1; have rq2 := of_decide_eq_false q2; have rq3 := beq_eq_false_iff_ne.1 q3; have rq4 := beq_iff_eq.1 q4; have rq5 := of_decide_eq_false q5; have rq6 := of_decide_eq_true q6; simp; try omega))
                      clear HE HEK HBAD HS
                      go_upto_region 7 with fail
                      have y1 : (wr.alloc (.cells #[.int .i64 z.t, .int .i64 z.kind, .int .i64 z.num, .int .i64 z.val] 46)).cell? ⟨g, o + j * 4, none⟩ = _ := ((bx1 wr (.cells #[.int .i64 z.t, .int .i64 z.kind, .int .i64 z.num, .int .i64 z.val] 46)).cell (p := ⟨g, o + j * 4, none⟩) hgw).trans y0
                      have gl : g < (wr.alloc (.cells #[.int .i64 z.t, .int .i64 z.kind, .int .i64 z.num, .int .i64 z.val] 46)).heap.size := Nat.lt_of_lt_of_le hgw (bx1 wr (.cells #[.int .i64 z.t, .int .i64 z.kind, .int .i64 z.num, .int .i64 z.val] 46)).size
                      clear d0 d1 d2 d3
                      clear y0
                      generalize (wr.alloc (.cells #[.int .i64 z.t, .int .i64 z.kind, .int .i64 z.num, .int .i64 z.val] 46)) = u0 at *
                      generalize wr.heap.size = b0 at *
                      have HSB : Hid ((fun w' => (LG w w' b0 #[.int .i64 z.t, .int .i64 z.kind, .int .i64 z.num, .int .i64 z.val] 46) ∧ w'.cell? ⟨g, o + j * 4, none⟩ = some (.int .i64 y.t) ∧ g < w'.heap.size) u0.drew) := ⟨HLN.out.drew, y1, gl⟩
                      refine wp_region_held (S := fun w' => (LG w w' b0 #[.int .i64 z.t, .int .i64 z.kind, .int .i64 z.num, .int .i64 z.val] 46) ∧ w'.cell? ⟨g, o + j * 4, none⟩ = some (.int .i64 y.t) ∧ g < w'.heap.size) (by kernel_rfl) ?_
                      change wpAnyH _ _ _ _ _ _ _ _ (World.drew _)
                      refine wpAnyH_take (i := 0) (v := .pointer (some ⟨b0, 0, none⟩)) rfl (by kernel_rfl) (by kernel_rfl) (by kernel_rfl) (fun _ _ _ h => h) (Or.inl ⟨by kernel_rfl, fun w9 h9 => ?_⟩) HSB.out ?_
                      · go_simp
                      refine wpAnyH_take (i := 1) (v := .int .i64 z.t) rfl (by kernel_rfl) (by kernel_rfl) (by kernel_rfl) (fun _ _ _ h => h) (Or.inl ⟨by kernel_rfl, fun w9 h9 => ?_⟩) HSB.out ?_
                      · obtain ⟨hlg, y2, _⟩ := h9; have k0 := hlg.cel 0 _ rfl; have k1 := hlg.cel 1 _ rfl; have k2 := hlg.cel 2 _ rfl; have k3 := hlg.cel 3 _ rfl; go_simp
                      refine wpAnyH_take (i := 2) (v := .bool false) rfl (by kernel_rfl) (by kernel_rfl) (by kernel_rfl) (fun _ _ _ h => h) (Or.inl ⟨by kernel_rfl, fun w9 h9 => ?_⟩) HSB.out ?_
                      · go_simp; all_goals omega
                      refine wpAnyH_take (i := 3) (v := .bool false) rfl (by kernel_rfl) (by kernel_rfl) (by kernel_rfl) (fun _ _ _ h => h) (Or.inl ⟨by kernel_rfl, fun w9 h9 => ?_⟩) HSB.out ?_
                      · go_simp
                      refine wpAnyH_take (i := 4) (v := .pointer (some ⟨b0, 0, none⟩)) rfl (by kernel_rfl) (by kernel_rfl) (by kernel_rfl) (fun _ _ _ h => h) (Or.inl ⟨by kernel_rfl, fun w9 h9 => ?_⟩) HSB.out ?_
                      · go_simp
                      refine wpAnyH_take (i := 5) (v := .int .i64 z.t) rfl (by kernel_rfl) (by kernel_rfl) (by kernel_rfl) (fun _ _ _ h => h) (Or.inl ⟨by kernel_rfl, fun w9 h9 => ?_⟩) HSB.out ?_
                      · obtain ⟨hlg, y2, _⟩ := h9; have k0 := hlg.cel 0 _ rfl; have k1 := hlg.cel 1 _ rfl; have k2 := hlg.cel 2 _ rfl; have k3 := hlg.cel 3 _ rfl; go_simp
                      refine wpAnyH_take (i := 6) (v := .bool false) rfl (by kernel_rfl) (by kernel_rfl) (by kernel_rfl) (fun _ _ _ h => h) (Or.inl ⟨by kernel_rfl, fun w9 h9 => ?_⟩) HSB.out ?_
                      · go_simp; all_goals omega
                      refine wpAnyH_take (i := 7) (v := .bool false) rfl (by kernel_rfl) (by kernel_rfl) (by kernel_rfl) (fun _ _ _ h => h) (Or.inl ⟨by kernel_rfl, fun w9 h9 => ?_⟩) HSB.out ?_
                      · go_simp
                      refine wpAnyH_take (i := 8) (v := .bool false) rfl (by kernel_rfl) (by kernel_rfl) (by kernel_rfl) (fun _ _ _ h => h) (Or.inl ⟨by kernel_rfl, fun w9 h9 => ?_⟩) HSB.out ?_
                      · go_simp
                      refine wpAnyH_take (i := 9) (v := .int .i64 ((j + 1 : Nat) : Int)) rfl (by kernel_rfl) (by kernel_rfl) (by kernel_rfl) (fun _ _ _ h => h) (Or.inl ⟨by kernel_rfl, fun w9 h9 => ?_⟩) HSB.out ?_
                      · go_simp
                      refine wpAnyH_take (i := 10) (v := .bool true) rfl (by kernel_rfl) (by kernel_rfl) (by kernel_rfl) (fun _ _ _ h => h) (Or.inl ⟨by kernel_rfl, fun w9 h9 => ?_⟩) HSB.out ?_
                      · go_simp; all_goals omega
                      refine wpAnyH_take (i := 11) (v := .bool true) rfl (by kernel_rfl) (by kernel_rfl) (by kernel_rfl) (fun _ _ _ h => h) (Or.inl ⟨by kernel_rfl, fun w9 h9 => ?_⟩) HSB.out ?_
                      · go_simp
                      refine wpAnyH_take (i := 12) (v := .pointer (some ⟨b0, 0, none⟩)) rfl (by kernel_rfl) (by kernel_rfl) (by kernel_rfl) (fun _ _ _ h => h) (Or.inl ⟨by kernel_rfl, fun w9 h9 => ?_⟩) HSB.out ?_
                      · go_simp
                      refine wpAnyH_take (i := 13) (v := .int .i64 z.t) rfl (by kernel_rfl) (by kernel_rfl) (by kernel_rfl) (fun _ _ _ h => h) (Or.inl ⟨by kernel_rfl, fun w9 h9 => ?_⟩) HSB.out ?_
                      · obtain ⟨hlg, y2, _⟩ := h9; have k0 := hlg.cel 0 _ rfl; have k1 := hlg.cel 1 _ rfl; have k2 := hlg.cel 2 _ rfl; have k3 := hlg.cel 3 _ rfl; go_simp
                      refine wpAnyH_take (i := 14) (v := .slice (some ⟨g, o, none⟩) zs.length cap) rfl (by kernel_rfl) (by kernel_rfl) (by kernel_rfl) (fun _ _ _ h => h) (Or.inl ⟨by kernel_rfl, fun w9 h9 => ?_⟩) HSB.out ?_
                      · go_simp
                      refine wpAnyH_take (i := 15) (v := .int .i64 ((j + 1 : Nat) : Int)) rfl (by kernel_rfl) (by kernel_rfl) (by kernel_rfl) (fun _ _ _ h => h) (Or.inl ⟨by kernel_rfl, fun w9 h9 => ?_⟩) HSB.out ?_
                      · go_simp
                      refine wpAnyH_take (i := 16) (v := .int .i64 (j : Int)) rfl (by kernel_rfl) (by kernel_rfl) (by kernel_rfl) (fun _ _ _ h => h) (Or.inl ⟨by kernel_rfl, fun w9 h9 => ?_⟩) HSB.out ?_
                      · go_simp
                      refine wpAnyH_take (i := 17) (v := .pointer (some ⟨g, o + j * 4, none⟩)) rfl (by kernel_rfl) (by kernel_rfl) (by kernel_rfl) (fun _ _ _ h => h) (Or.inl ⟨by kernel_rfl, fun w9 h9 => ?_⟩) HSB.out ?_
                      · go_simp
                      refine wpAnyH_take (i := 18) (v := .pointer (some ⟨g, o + j * 4, none⟩)) rfl (by kernel_rfl) (by kernel_rfl) (by kernel_rfl) (fun _ _ _ h => h) (Or.inl ⟨by kernel_rfl, fun w9 h9 => ?_⟩) HSB.out ?_
                      · go_simp
                      refine wpAnyH_take (i := 19) (v := .int .i64 y.t) rfl (by kernel_rfl) (by kernel_rfl) (by kernel_rfl) (fun _ _ _ h => h) (Or.inl ⟨by kernel_rfl, fun w9 h9 => ?_⟩) HSB.out ?_
                      · obtain ⟨hlg, y2, _⟩ := h9; have k0 := hlg.cel 0 _ rfl; have k1 := hlg.cel 1 _ rfl; have k2 := hlg.cel 2 _ rfl; have k3 := hlg.cel 3 _ rfl; go_simp
                      refine wpAnyH_take (i := 20) (v := .bool false) rfl (by kernel_rfl) (by kernel_rfl) (by kernel_rfl) (fun _ _ _ h => h) (Or.inl ⟨by kernel_rfl, fun w9 h9 => ?_⟩) HSB.out ?_
                      · go_simp; all_goals omega
                      refine wpAnyH_take (i := 21) (v := .bool false) rfl (by kernel_rfl) (by kernel_rfl) (by kernel_rfl) (fun _ _ _ h => h) (Or.inl ⟨by kernel_rfl, fun w9 h9 => ?_⟩) HSB.out ?_
                      · go_simp
                      refine wpAnyH_take (i := 22) (v := .bool false) rfl (by kernel_rfl) (by kernel_rfl) (by kernel_rfl) (fun _ _ _ h => h) (Or.inl ⟨by kernel_rfl, fun w9 h9 => ?_⟩) HSB.out ?_
                      · go_simp
                      refine wpAnyH_done (by kernel_rfl) ?_ _
                      go_simp
                      have hlg : Hid (LG w u0.drew b0 #[.int .i64 z.t, .int .i64 z.kind, .int .i64 z.num, .int .i64 z.val] 46) := HLN.out.drew
                      have k0 := hlg.out.cel 0 _ rfl
                      have k1 := hlg.out.cel 1 _ rfl
                      have k2 := hlg.out.cel 2 _ rfl
                      have k3 := hlg.out.cel 3 _ rfl
                      have kl := hlg.out.lt
                      go_wp2_with (go_at_call 23; refine Calls.mono (HW.out _) ?_; rintro e u1 ⟨rfl, hw1⟩; rw [hw1]; clear hw1)
                      go_ret
                      exact ⟨ret_int E2.out.symm, hlg.out.bel⟩
                  · skip
                    have E2 : Hid (efV zs = 1) := HBAD.out (HEK.out.trans (by rw [HE.out]; have rq0 := of_decide_eq_false q0; have rq1 := of_decide_eq_false q1; have rq2 := of_decide_eq_false q2; have rq3 := beq_eq_false_iff_ne.1 q3; have rq4 := beq_iff_eq.1 q4; have rq5 := of_decide_eq_true q5; simp; try omega))
                    clear HE HEK HBAD HS
                    go_upto_region 7 with fail
                    have y1 : (wr.alloc (.cells #[.int .i64 z.t, .int .i64 z.kind, .int .i64 z.num, .int .i64 z.val] 46)).cell? ⟨g, o + j * 4, none⟩ = _ := ((bx1 wr (.cells #[.int .i64 z.t, .int .i64 z.kind, .int .i64 z.num, .int .i64 z.val] 46)).cell (p := ⟨g, o + j * 4, none⟩) hgw).trans y0
                    have gl : g < (wr.alloc (.cells #[.int .i64 z.t, .int .i64 z.kind, .int .i64 z.num, .int .i64 z.val] 46)).heap.size := Nat.lt_of_lt_of_le hgw (bx1 wr (.cells #[.int .i64 z.t, .int .i64 z.kind, .int .i64 z.num, .int .i64 z.val] 46)).size
                    clear d0 d1 d2 d3
                    clear y0
                    generalize (wr.alloc (.cells #[.int .i64 z.t, .int .i64 z.kind, .int .i64 z.num, .int .i64 z.val] 46)) = u0 at *
                    generalize wr.heap.size = b0 at *
                    have HSB : Hid ((fun w' => (LG w w' b0 #[.int .i64 z.t, .int .i64 z.kind, .int .i64 z.num, .int .i64 z.val] 46) ∧ w'.cell? ⟨g, o + j * 4, none⟩ = some (.int .i64 y.t) ∧ g < w'.heap.size) u0.drew) := ⟨HLN.out.drew, y1, gl⟩
                    refine wp_region_held (S := fun w' => (LG w w' b0 #[.int .i64 z.t, .int .i64 z.kind, .int .i64 z.num, .int .i64 z.val] 46) ∧ w'.cell? ⟨g, o + j * 4, none⟩ = some (.int .i64 y.t) ∧ g < w'.heap.size) (by kernel_rfl) ?_
                    change wpAnyH _ _ _ _ _ _ _ _ (World.drew _)
                    refine wpAnyH_take (i := 0) (v := .pointer (some ⟨b0, 0, none⟩)) rfl (by kernel_rfl) (by kernel_rfl) (by kernel_rfl) (fun _ _ _ h => h) (Or.inl ⟨by kernel_rfl, fun w9 h9 => ?_⟩) HSB.out ?_
                    · go_simp
                    refine wpAnyH_take (i := 1) (v := .int .i64 z.t) rfl (by kernel_rfl) (by kernel_rfl) (by kernel_rfl) (fun _ _ _ h => h) (Or.inl ⟨by kernel_rfl, fun w9 h9 => ?_⟩) HSB.out ?_
                    · obtain ⟨hlg, y2, _⟩ := h9; have k0 := hlg.cel 0 _ rfl; have k1 := hlg.cel 1 _ rfl; have k2 := hlg.cel 2 _ rfl; have k3 := hlg.cel 3 _ rfl; go_simp
                    refine wpAnyH_take (i := 2) (v := .bool false) rfl (by kernel_rfl) (by kernel_rfl) (by kernel_rfl) (fun _ _ _ h => h) (Or.inl ⟨by kernel_rfl, fun w9 h9 => ?_⟩) HSB.out ?_
                    · go_simp; all_goals omega
                    refine wpAnyH_take (i := 3) (v := .bool false) rfl (by kernel_rfl) (by kernel_rfl) (by kernel_rfl) (fun _ _ _ h => h) (Or.inl ⟨by kernel_rfl, fun w9 h9 => ?_⟩) HSB.out ?_
                    · go_simp
                    refine wpAnyH_take (i := 4) (v := .pointer (some ⟨b0, 0, none⟩)) rfl (by kernel_rfl) (by kernel_rfl) (by kernel_rfl) (fun _ _ _ h => h) (Or.inl ⟨by kernel_rfl, fun w9 h9 => ?_⟩) HSB.out ?_
                    · go_simp
                    refine wpAnyH_take (i := 5) (v := .int .i64 z.t) rfl (by kernel_rfl) (by kernel_rfl) (by kernel_rfl) (fun _ _ _ h => h) (Or.inl ⟨by kernel_rfl, fun w9 h9 => ?_⟩) HSB.out ?_
                    · obtain ⟨hlg, y2, _⟩ := h9; have k0 := hlg.cel 0 _ rfl; have k1 := hlg.cel 1 _ rfl; have k2 := hlg.cel 2 _ rfl; have k3 := hlg.cel 3 _ rfl; go_simp
                    refine wpAnyH_take (i := 6) (v := .bool false) rfl (by kernel_rfl) (by kernel_rfl) (by kernel_rfl) (fun _ _ _ h => h) (Or.inl ⟨by kernel_rfl, fun w9 h9 => ?_⟩) HSB.out ?_
                    · go_simp; all_goals omega
                    refine wpAnyH_take (i := 7) (v := .bool false) rfl (by kernel_rfl) (by kernel_rfl) (by kernel_rfl) (fun _ _ _ h => h) (Or.inl ⟨by kernel_rfl, fun w9 h9 => ?_⟩) HSB.out ?_
                    · go_simp
                    refine wpAnyH_take (i := 8) (v := .bool false) rfl (by kernel_rfl) (by kernel_rfl) (by kernel_rfl) (fun _ _ _ h => h) (Or.inl ⟨by kernel_rfl, fun w9 h9 => ?_⟩) HSB.out ?_
                    · go_simp
                    refine wpAnyH_take (i := 9) (v := .int .i64 ((j + 1 : Nat) : Int)) rfl (by kernel_rfl) (by kernel_rfl) (by kernel_rfl) (fun _ _ _ h => h) (Or.inl ⟨by kernel_rfl, fun w9 h9 => ?_⟩) HSB.out ?_
                    · go_simp
                    refine wpAnyH_take (i := 10) (v := .bool true) rfl (by kernel_rfl) (by kernel_rfl) (by kernel_rfl) (fun _ _ _ h => h) (Or.inl ⟨by kernel_rfl, fun w9 h9 => ?_⟩) HSB.out ?_
                    · go_simp; all_goals omega
                    refine wpAnyH_take (i := 11) (v := .bool true) rfl (by kernel_rfl) (by kernel_rfl) (by kernel_rfl) (fun _ _ _ h => h) (Or.inl ⟨by kernel_rfl, fun w9 h9 => ?_⟩) HSB.out ?_
                    · go_simp
                    refine wpAnyH_take (i := 12) (v := .pointer (some ⟨b0, 0, none⟩)) rfl (by kernel_rfl) (by kernel_rfl) (by kernel_rfl) (fun _ _ _ h => h) (Or.inl ⟨by kernel_rfl, fun w9 h9 => ?_⟩) HSB.out ?_
                    · go_simp
                    refine wpAnyH_take (i := 13) (v := .int .i64 z.t) rfl (by kernel_rfl) (by kernel_rfl) (by kernel_rfl) (fun _ _ _ h => h) (Or.inl ⟨by kernel_rfl, fun w9 h9 => ?_⟩) HSB.out ?_
                    · obtain ⟨hlg, y2, _⟩ := h9; have k0 := hlg.cel 0 _ rfl; have k1 := hlg.cel 1 _ rfl; have k2 := hlg.cel 2 _ rfl; have k3 := hlg.cel 3 _ rfl; go_simp
                    refine wpAnyH_take (i := 14) (v := .slice (some ⟨g, o, none⟩) zs.length cap) rfl (by kernel_rfl) (by kernel_rfl) (by kernel_rfl) (fun _ _ _ h => h) (Or.inl ⟨by kernel_rfl, fun w9 h9 => ?_⟩) HSB.out ?_
                    · go_simp
                    refine wpAnyH_take (i := 15) (v := .int .i64 ((j + 1 : Nat) : Int)) rfl (by kernel_rfl) (by kernel_rfl) (by kernel_rfl) (fun _ _ _ h => h) (Or.inl ⟨by kernel_rfl, fun w9 h9 => ?_⟩) HSB.out ?_
                    · go_simp
                    refine wpAnyH_take (i := 16) (v := .int .i64 (j : Int)) rfl (by kernel_rfl) (by kernel_rfl) (by kernel_rfl) (fun _ _ _ h => h) (Or.inl ⟨by kernel_rfl, fun w9 h9 => ?_⟩) HSB.out ?_
                    · go_simp
                    refine wpAnyH_take (i := 17) (v := .pointer (some ⟨g, o + j * 4, none⟩)) rfl (by kernel_rfl) (by kernel_rfl) (by kernel_rfl) (fun _ _ _ h => h) (Or.inl ⟨by kernel_rfl, fun w9 h9 => ?_⟩) HSB.out ?_
                    · go_simp
                    refine wpAnyH_take (i := 18) (v := .pointer (some ⟨g, o + j * 4, none⟩)) rfl (by kernel_rfl) (by kernel_rfl) (by kernel_rfl) (fun _ _ _ h => h) (Or.inl ⟨by kernel_rfl, fun w9 h9 => ?_⟩) HSB.out ?_
                    · go_simp
                    refine wpAnyH_take (i := 19) (v := .int .i64 y.t) rfl (by kernel_rfl) (by kernel_rfl) (by kernel_rfl) (fun _ _ _ h => h) (Or.inl ⟨by kernel_rfl, fun w9 h9 => ?_⟩) HSB.out ?_
                    · obtain ⟨hlg, y2, _⟩ := h9; have k0 := hlg.cel 0 _ rfl; have k1 := hlg.cel 1 _ rfl; have k2 := hlg.cel 2 _ rfl; have k3 := hlg.cel 3 _ rfl; go_simp
                    refine wpAnyH_take (i := 20) (v := .bool false) rfl (by kernel_rfl) (by kernel_rfl) (by kernel_rfl) (fun _ _ _ h => h) (Or.inl ⟨by kernel_rfl, fun w9 h9 => ?_⟩) HSB.out ?_
                    · go_simp; all_goals omega
                    refine wpAnyH_take (i := 21) (v := .bool false) rfl (by kernel_rfl) (by kernel_rfl) (by kernel_rfl) (fun _ _ _ h => h) (Or.inl ⟨by kernel_rfl, fun w9 h9 => ?_⟩) HSB.out ?_
                    · go_simp
                    refine wpAnyH_take (i := 22) (v := .bool false) rfl (by kernel_rfl) (by kernel_rfl) (by kernel_rfl) (fun _ _ _ h => h) (Or.inl ⟨by kernel_rfl, fun w9 h9 => ?_⟩) HSB.out ?_
                    · go_simp
                    refine wpAnyH_done (by kernel_rfl) ?_ _
                    go_simp
                    have hlg : Hid (LG w u0.drew b0 #[.int .i64 z.t, .int .i64 z.kind, .int .i64 z.num, .int .i64 z.val] 46) := HLN.out.drew
                    have k0 := hlg.out.cel 0 _ rfl
                    have k1 := hlg.out.cel 1 _ rfl
                    have k2 := hlg.out.cel 2 _ rfl
                    have k3 := hlg.out.cel 3 _ rfl
                    have kl := hlg.out.lt
                    go_wp2_with (go_at_call 23; refine Calls.mono (HW.out _) ?_; rintro e u1 ⟨rfl, hw1⟩; rw [hw1]; clear hw1)
                    go_ret
                    exact ⟨ret_int E2.out.symm, hlg.out.bel⟩
              · skip
                cases q4 : decide (z.num < 0)
                · skip
                  cases q5 : decide (6 < z.num)
                  · skip
                    cases q6 : (z.val != 0)
                    · skip
                      have E2 : Hid (allN (evk zs) (j + 1 + 1) = true) := (show allN (evk zs) (j + 1 + 1) = true by rw [HS.out, HALL.out, HEK.out, HE.out]; have rq0 := of_decide_eq_false q0; have rq1 := of_decide_eq_false q1; have rq2 := of_decide_eq_false q2; have rq3 := beq_iff_eq.1 q3; have rq4 := of_decide_eq_false q4; have rq5 := of_decide_eq_false q5; have rq6 := bne_eq_false_iff_eq.1 q6; simp; try omega)
                      clear HE HEK HBAD HS
                      go_upto_region 7 with fail
                      have y1 : (wr.alloc (.cells #[.int .i64 z.t, .int .i64 z.kind, .int .i64 z.num, .int .i64 z.val] 46)).cell? ⟨g, o + j * 4, none⟩ = _ := ((bx1 wr (.cells #[.int .i64 z.t, .int .i64 z.kind, .int .i64 z.num, .int .i64 z.val] 46)).cell (p := ⟨g, o + j * 4, none⟩) hgw).trans y0
                      have gl : g < (wr.alloc (.cells #[.int .i64 z.t, .int .i64 z.kind, .int .i64 z.num, .int .i64 z.val] 46)).heap.size := Nat.lt_of_lt_of_le hgw (bx1 wr (.cells #[.int .i64 z.t, .int .i64 z.kind, .int .i64 z.num, .int .i64 z.val] 46)).size
                      clear d0 d1 d2 d3
                      clear y0
                      generalize (wr.alloc (.cells #[.int .i64 z.t, .int .i64 z.kind, .int .i64 z.num, .int .i64 z.val] 46)) = u0 at *
                      generalize wr.heap.size = b0 at *
                      have HSB : Hid ((fun w' => (LG w w' b0 #[.int .i64 z.t, .int .i64 z.kind, .int .i64 z.num, .int .i64 z.val] 46) ∧ w'.cell? ⟨g, o + j * 4, none⟩ = some (.int .i64 y.t) ∧ g < w'.heap.size) u0.drew) := ⟨HLN.out.drew, y1, gl⟩
                      refine wp_region_held (S := fun w' => (LG w w' b0 #[.int .i64 z.t, .int .i64 z.kind, .int .i64 z.num, .int .i64 z.val] 46) ∧ w'.cell? ⟨g, o + j * 4, none⟩ = some (.int .i64 y.t) ∧ g < w'.heap.size) (by kernel_rfl) ?_
                      change wpAnyH _ _ _ _ _ _ _ _ (World.drew _)
                      refine wpAnyH_take (i := 0) (v := .pointer (some ⟨b0, 0, none⟩)) rfl (by kernel_rfl) (by kernel_rfl) (by kernel_rfl) (fun _ _ _ h => h) (Or.inl ⟨by kernel_rfl, fun w9 h9 => ?_⟩) HSB.out ?_
                      · go_simp
                      refine wpAnyH_take (i := 1) (v := .int .i64 z.t) rfl (by kernel_rfl) (by kernel_rfl) (by kernel_rfl) (fun _ _ _ h => h) (Or.inl ⟨by kernel_rfl, fun w9 h9 => ?_⟩) HSB.out ?_
                      · obtain ⟨hlg, y2, _⟩ := h9; have k0 := hlg.cel 0 _ rfl; have k1 := hlg.cel 1 _ rfl; have k2 := hlg.cel 2 _ rfl; have k3 := hlg.cel 3 _ rfl; go_simp
                      refine wpAnyH_take (i := 2) (v := .bool false) rfl (by kernel_rfl) (by kernel_rfl) (by kernel_rfl) (fun _ _ _ h => h) (Or.inl ⟨by kernel_rfl, fun w9 h9 => ?_⟩) HSB.out ?_
                      · go_simp; all_goals omega
                      refine wpAnyH_take (i := 3) (v := .bool false) rfl (by kernel_rfl) (by kernel_rfl) (by kernel_rfl) (fun _ _ _ h => h) (Or.inl ⟨by kernel_rfl, fun w9 h9 => ?_⟩) HSB.out ?_
                      · go_simp
                      refine wpAnyH_take (i := 4) (v := .pointer (some ⟨b0, 0, none⟩)) rfl (by kernel_rfl) (by kernel_rfl) (by kernel_rfl) (fun _ _ _ h => h) (Or.inl ⟨by kernel_rfl, fun w9 h9 => ?_⟩) HSB.out ?_
                      · go_simp
                      refine wpAnyH_take (i := 5) (v := .int .i64 z.t) rfl (by kernel_rfl) (by kernel_rfl) (by kernel_rfl) (fun _ _ _ h => h) (Or.inl ⟨by kernel_rfl, fun w9 h9 => ?_⟩) HSB.out ?_
                      · obtain ⟨hlg, y2, _⟩ := h9; have k0 := hlg.cel 0 _ rfl; have k1 := hlg.cel 1 _ rfl; have k2 := hlg.cel 2 _ rfl; have k3 := hlg.cel 3 _ rfl; go_simp
                      refine wpAnyH_take (i := 6) (v := .bool false) rfl (by kernel_rfl) (by kernel_rfl) (by kernel_rfl) (fun _ _ _ h => h) (Or.inl ⟨by kernel_rfl, fun w9 h9 => ?_⟩) HSB.out ?_
                      · go_simp; all_goals omega
                      refine wpAnyH_take (i := 7) (v := .bool false) rfl (by kernel_rfl) (by kernel_rfl) (by kernel_rfl) (fun _ _ _ h => h) (Or.inl ⟨by kernel_rfl, fun w9 h9 => ?_⟩) HSB.out ?_
                      · go_simp
                      refine wpAnyH_take (i := 8) (v := .bool false) rfl (by kernel_rfl) (by kernel_rfl) (by kernel_rfl) (fun _ _ _ h => h) (Or.inl ⟨by kernel_rfl, fun w9 h9 => ?_⟩) HSB.out ?_
                      · go_simp
                      refine wpAnyH_take (i := 9) (v := .int .i64 ((j + 1 : Nat) : Int)) rfl (by kernel_rfl) (by kernel_rfl) (by kernel_rfl) (fun _ _ _ h => h) (Or.inl ⟨by kernel_rfl, fun w9 h9 => ?_⟩) HSB.out ?_
                      · go_simp
                      refine wpAnyH_take (i := 10) (v := .bool true) rfl (by kernel_rfl) (by kernel_rfl) (by kernel_rfl) (fun _ _ _ h => h) (Or.inl ⟨by kernel_rfl, fun w9 h9 => ?_⟩) HSB.out ?_
                      · go_simp; all_goals omega
                      refine wpAnyH_take (i := 11) (v := .bool true) rfl (by kernel_rfl) (by kernel_rfl) (by kernel_rfl) (fun _ _ _ h => h) (Or.inl ⟨by kernel_rfl, fun w9 h9 => ?_⟩) HSB.out ?_
                      · go_simp
                      refine wpAnyH_take (i := 12) (v := .pointer (some ⟨b0, 0, none⟩)) rfl (by kernel_rfl) (by kernel_rfl) (by kernel_rfl) (fun _ _ _ h => h) (Or.inl ⟨by kernel_rfl, fun w9 h9 => ?_⟩) HSB.out ?_
                      · go_simp
                      refine wpAnyH_take (i := 13) (v := .int .i64 z.t) rfl (by kernel_rfl) (by kernel_rfl) (by kernel_rfl) (fun _ _ _ h => h) (Or.inl ⟨by kernel_rfl, fun w9 h9 => ?_⟩) HSB.out ?_
                      · obtain ⟨hlg, y2, _⟩ := h9; have k0 := hlg.cel 0 _ rfl; have k1 := hlg.cel 1 _ rfl; have k2 := hlg.cel 2 _ rfl; have k3 := hlg.cel 3 _ rfl; go_simp
                      refine wpAnyH_take (i := 14) (v := .slice (some ⟨g, o, none⟩) zs.length cap) rfl (by kernel_rfl) (by kernel_rfl) (by kernel_rfl) (fun _ _ _ h => h) (Or.inl ⟨by kernel_rfl, fun w9 h9 => ?_⟩) HSB.out ?_
                      · go_simp
                      refine wpAnyH_take (i := 15) (v := .int .i64 ((j + 1 : Nat) : Int)) rfl (by kernel_rfl) (by kernel_rfl) (by kernel_rfl) (fun _ _ _ h => h) (Or.inl ⟨by kernel_rfl, fun w9 h9 => ?_⟩) HSB.out ?_
                      · go_simp
                      refine wpAnyH_take (i := 16) (v := .int .i64 (j : Int)) rfl (by kernel_rfl) (by kernel_rfl) (by kernel_rfl) (fun _ _ _ h => h) (Or.inl ⟨by kernel_rfl, fun w9 h9 => ?_⟩) HSB.out ?_
                      · go_simp
                      refine wpAnyH_take (i := 17) (v := .pointer (some ⟨g, o + j * 4, none⟩)) rfl (by kernel_rfl) (by kernel_rfl) (by kernel_rfl) (fun _ _ _ h => h) (Or.inl ⟨by kernel_rfl, fun w9 h9 => ?_⟩) HSB.out ?_
                      · go_simp
                      refine wpAnyH_take (i := 18) (v := .pointer (some ⟨g, o + j * 4, none⟩)) rfl (by kernel_rfl) (by kernel_rfl) (by kernel_rfl) (fun _ _ _ h => h) (Or.inl ⟨by kernel_rfl, fun w9 h9 => ?_⟩) HSB.out ?_
                      · go_simp
                      refine wpAnyH_take (i := 19) (v := .int .i64 y.t) rfl (by kernel_rfl) (by kernel_rfl) (by kernel_rfl) (fun _ _ _ h => h) (Or.inl ⟨by kernel_rfl, fun w9 h9 => ?_⟩) HSB.out ?_
                      · obtain ⟨hlg, y2, _⟩ := h9; have k0 := hlg.cel 0 _ rfl; have k1 := hlg.cel 1 _ rfl; have k2 := hlg.cel 2 _ rfl; have k3 := hlg.cel 3 _ rfl; go_simp
                      refine wpAnyH_take (i := 20) (v := .bool false) rfl (by kernel_rfl) (by kernel_rfl) (by kernel_rfl) (fun _ _ _ h => h) (Or.inl ⟨by kernel_rfl, fun w9 h9 => ?_⟩) HSB.out ?_
                      · go_simp; all_goals omega
                      refine wpAnyH_take (i := 21) (v := .bool false) rfl (by kernel_rfl) (by kernel_rfl) (by kernel_rfl) (fun _ _ _ h => h) (Or.inl ⟨by kernel_rfl, fun w9 h9 => ?_⟩) HSB.out ?_
                      · go_simp
                      refine wpAnyH_take (i := 22) (v := .bool false) rfl (by kernel_rfl) (by kernel_rfl) (by kernel_rfl) (fun _ _ _ h => h) (Or.inl ⟨by kernel_rfl, fun w9 h9 => ?_⟩) HSB.out ?_
                      · go_simp
                      refine wpAnyH_done (by kernel_rfl) ?_ _
                      go_simp
                      have hlg : Hid (LG w u0.drew b0 #[.int .i64 z.t, .int .i64 z.kind, .int .i64 z.num, .int .i64 z.val] 46) := HLN.out.drew
                      have k0 := hlg.out.cel 0 _ rfl
                      have k1 := hlg.out.cel 1 _ rfl
                      have k2 := hlg.out.cel 2 _ rfl
                      have k3 := hlg.out.cel 3 _ rfl
                      have kl := hlg.out.lt
                      go_wp2_with (go_at_call 23; refine Calls.mono (HW.out _) ?_; rintro e u1 ⟨rfl, hw1⟩; rw [hw1]; clear hw1)
                      exact ⟨⟨j + 1 + 1, hlt, by go_num, E2.out, hlg.out.bel⟩, by simp [intOf]; omega⟩
                    · skip
                      have E2 : Hid (efV zs = 1) := HBAD.out (HEK.out.trans (by rw [HE.out]; have rq0 := of_decide_eq_false q0; have rq1 := of_decide_eq_false q1; have rq2 := of_decide_eq_false q2; have rq3 := beq_iff_eq.1 q3; have rq4 := of_decide_eq_false q4; have rq5 := of_decide_eq_false q5; have rq6 := bne_iff_ne.1 q6; simp; try omega))
                      clear HE HEK HBAD HS
                      go_upto_region 7 with fail
                      have y1 : (wr.alloc (.cells #[.int .i64 z.t, .int .i64 z.kind, .int .i64 z.num, .int .i64 z.val] 46)).cell? ⟨g, o + j * 4, none⟩ = _ := ((bx1 wr (.cells #[.int .i64 z.t, .int .i64 z.kind, .int .i64 z.num, .int .i64 z.val] 46)).cell (p := ⟨g, o + j * 4, none⟩) hgw).trans y0
                      have gl : g < (wr.alloc (.cells #[.int .i64 z.t, .int .i64 z.kind, .int .i64 z.num, .int .i64 z.val] 46)).heap.size := Nat.lt_of_lt_of_le hgw (bx1 wr (.cells #[.int .i64 z.t, .int .i64 z.kind, .int .i64 z.num, .int .i64 z.val] 46)).size
                      clear d0 d1 d2 d3
                      clear y0
                      generalize (wr.alloc (.cells #[.int .i64 z.t, .int .i64 z.kind, .int .i64 z.num, .int .i64 z.val] 46)) = u0 at *
                      generalize wr.heap.size = b0 at *
                      have HSB : Hid ((fun w' => (LG w w' b0 #[.int .i64 z.t, .int .i64 z.kind, .int .i64 z.num, .int .i64 z.val] 46) ∧ w'.cell? ⟨g, o + j * 4, none⟩ = some (.int .i64 y.t) ∧ g < w'.heap.size) u0.drew) := ⟨HLN.out.drew, y1, gl⟩
                      refine wp_region_held (S := fun w' => (LG w w' b0 #[.int .i64 z.t, .int .i64 z.kind, .int .i64 z.num, .int .i64 z.val] 46) ∧ w'.cell? ⟨g, o + j * 4, none⟩ = some (.int .i64 y.t) ∧ g < w'.heap.size) (by kernel_rfl) ?_
                      change wpAnyH _ _ _ _ _ _ _ _ (World.drew _)
                      refine wpAnyH_take (i := 0) (v := .pointer (some ⟨b0, 0, none⟩)) rfl (by kernel_rfl) (by kernel_rfl) (by kernel_rfl) (fun _ _ _ h => h) (Or.inl ⟨by kernel_rfl, fun w9 h9 => ?_⟩) HSB.out ?_
                      · go_simp
                      refine wpAnyH_take (i := 1) (v := .int .i64 z.t) rfl (by kernel_rfl) (by kernel_rfl) (by kernel_rfl) (fun _ _ _ h => h) (Or.inl ⟨by kernel_rfl, fun w9 h9 => ?_⟩) HSB.out ?_
                      · obtain ⟨hlg, y2, _⟩ := h9; have k0 := hlg.cel 0 _ rfl; have k1 := hlg.cel 1 _ rfl; have k2 := hlg.cel 2 _ rfl; have k3 := hlg.cel 3 _ rfl; go_simp
                      refine wpAnyH_take (i := 2) (v := .bool false) rfl (by kernel_rfl) (by kernel_rfl) (by kernel_rfl) (fun _ _ _ h => h) (Or.inl ⟨by kernel_rfl, fun w9 h9 => ?_⟩) HSB.out ?_
                      · go_simp; all_goals omega
                      refine wpAnyH_take (i := 3) (v := .bool false) rfl (by kernel_rfl) (by kernel_rfl) (by kernel_rfl) (fun _ _ _ h => h) (Or.inl ⟨by kernel_rfl, fun w9 h9 => ?_⟩) HSB.out ?_
                      · go_simp
                      refine wpAnyH_take (i := 4) (v := .pointer (some ⟨b0, 0, none⟩)) rfl (by kernel_rfl) (by kernel_rfl) (by kernel_rfl) (fun _ _ _ h => h) (Or.inl ⟨by kernel_rfl, fun w9 h9 => ?_⟩) HSB.out ?_
                      · go_simp
                      refine wpAnyH_take (i := 5) (v := .int .i64 z.t) rfl (by kernel_rfl) (by kernel_rfl) (by kernel_rfl) (fun _ _ _ h => h) (Or.inl ⟨by kernel_rfl, fun w9 h9 => ?_⟩) HSB.out ?_
                      · obtain ⟨hlg, y2, _⟩ := h9; have k0 := hlg.cel 0 _ rfl; have k1 := hlg.cel 1 _ rfl; have k2 := hlg.cel 2 _ rfl; have k3 := hlg.cel 3 _ rfl; go_simp
                      refine wpAnyH_take (i := 6) (v := .bool false) rfl (by kernel_rfl) (by kernel_rfl) (by kernel_rfl) (fun _ _ _ h => h) (Or.inl ⟨by kernel_rfl, fun w9 h9 => ?_⟩) HSB.out ?_
                      · go_simp; all_goals omega
                      refine wpAnyH_take (i := 7) (v := .bool false) rfl (by kernel_rfl) (by kernel_rfl) (by kernel_rfl) (fun _ _ _ h => h) (Or.inl ⟨by kernel_rfl, fun w9 h9 => ?_⟩) HSB.out ?_
                      · go_simp
                      refine wpAnyH_take (i := 8) (v := .bool false) rfl (by kernel_rfl) (by kernel_rfl) (by kernel_rfl) (fun _ _ _ h => h) (Or.inl ⟨by kernel_rfl, fun w9 h9 => ?_⟩) HSB.out ?_
                      · go_simp
                      refine wpAnyH_take (i := 9) (v := .int .i64 ((j + 1 : Nat) : Int)) rfl (by kernel_rfl) (by kernel_rfl) (by kernel_rfl) (fun _ _ _ h => h) (Or.inl ⟨by kernel_rfl, fun w9 h9 => ?_⟩) HSB.out ?_
                      · go_simp
                      refine wpAnyH_take (i := 10) (v := .bool true) rfl (by kernel_rfl) (by kernel_rfl) (by kernel_rfl) (fun _ _ _ h => h) (Or.inl ⟨by kernel_rfl, fun w9 h9 => ?_⟩) HSB.out ?_
                      · go_simp; all_goals omega
                      refine wpAnyH_take (i := 11) (v := .bool true) rfl (by kernel_rfl) (by kernel_rfl) (by kernel_rfl) (fun _ _ _ h => h) (Or.inl ⟨by kernel_rfl, fun w9 h9 => ?_⟩) HSB.out ?_
                      · go_simp
                      refine wpAnyH_take (i := 12) (v := .pointer (some ⟨b0, 0, none⟩)) rfl (by kernel_rfl) (by kernel_rfl) (by kernel_rfl) (fun _ _ _ h => h) (Or.inl ⟨by kernel_rfl, fun w9 h9 => ?_⟩) HSB.out ?_
                      · go_simp
                      refine wpAnyH_take (i := 13) (v := .int .i64 z.t) rfl (by kernel_rfl) (by kernel_rfl) (by kernel_rfl) (fun _ _ _ h => h) (Or.inl ⟨by kernel_rfl, fun w9 h9 => ?_⟩) HSB.out ?_
                      · obtain ⟨hlg, y2, _⟩ := h9; have k0 := hlg.cel 0 _ rfl; have k1 := hlg.cel 1 _ rfl; have k2 := hlg.cel 2 _ rfl; have k3 := hlg.cel 3 _ rfl; go_simp
                      refine wpAnyH_take (i := 14) (v := .slice (some ⟨g, o, none⟩) zs.length cap) rfl (by kernel_rfl) (by kernel_rfl) (by kernel_rfl) (fun _ _ _ h => h) (Or.inl ⟨by kernel_rfl, fun w9 h9 => ?_⟩) HSB.out ?_
                      · go_simp
                      refine wpAnyH_take (i := 15) (v := .int .i64 ((j + 1 : Nat) : Int)) rfl (by kernel_rfl) (by kernel_rfl) (by kernel_rfl) (fun _ _ _ h => h) (Or.inl ⟨by kernel_rfl, fun w9 h9 => ?_⟩) HSB.out ?_
                      · go_simp
                      refine wpAnyH_take (i := 16) (v := .int .i64 (j : Int)) rfl (by kernel_rfl) (by kernel_rfl) (by kernel_rfl) (fun _ _ _ h => h) (Or.inl ⟨by kernel_rfl, fun w9 h9 => ?_⟩) HSB.out ?_
                      · go_simp
                      refine wpAnyH_take (i := 17) (v := .pointer (some ⟨g, o + j * 4, none⟩)) rfl (by kernel_rfl) (by kernel_rfl) (by kernel_rfl) (fun _ _ _ h => h) (Or.inl ⟨by kernel_rfl, fun w9 h9 => ?_⟩) HSB.out ?_
                      · go_simp
                      refine wpAnyH_take (i := 18) (v := .pointer (some ⟨g, o + j * 4, none⟩)) rfl (by kernel_rfl) (by kernel_rfl) (by kernel_rfl) (fun _ _ _ h => h) (Or.inl ⟨by kernel_rfl, fun w9 h9 => ?_⟩) HSB.out ?_
                      · go_simp
                      refine wpAnyH_take (i := 19) (v := .int .i64 y.t) rfl (by kernel_rfl) (by kernel_rfl) (by kernel_rfl) (fun _ _ _ h => h) (Or.inl ⟨by kernel_rfl, fun w9 h9 => ?_⟩) HSB.out ?_
                      · obtain ⟨hlg, y2, _⟩ := h9; have k0 := hlg.cel 0 _ rfl; have k1 := hlg.cel 1 _ rfl; have k2 := hlg.cel 2 _ rfl; have k3 := hlg.cel 3 _ rfl; go_simp
                      refine wpAnyH_take (i := 20) (v := .bool false) rfl (by kernel_rfl) (by kernel_rfl) (by kernel_rfl) (fun _ _ _ h => h) (Or.inl ⟨by kernel_rfl, fun w9 h9 => ?_⟩) HSB.out ?_
                      · go_simp; all_goals omega
                      refine wpAnyH_take (i := 21) (v := .bool false) rfl (by kernel_rfl) (by kernel_rfl) (by kernel_rfl) (fun _ _ _ h => h) (Or.inl ⟨by kernel_rfl, fun w9 h9 => ?_⟩) HSB.out ?_
                      · go_simp
                      refine wpAnyH_take (i := 22) (v := .bool false) rfl (by kernel_rfl) (by kernel_rfl) (by kernel_rfl) (fun _ _ _ h => h) (Or.inl ⟨by kernel_rfl, fun w9 h9 => ?_⟩) HSB.out ?_
                      · go_simp
                      refine wpAnyH_done (by kernel_rfl) ?_ _
                      go_simp
                      have hlg : Hid (LG w u0.drew b0 #[.int .i64 z.t, .int .i64 z.kind, .int .i64 z.num, .int .i64 z.val] 46) := HLN.out.drew
                      have k0 := hlg.out.cel 0 _ rfl
                      have k1 := hlg.out.cel 1 _ rfl
                      have k2 := hlg.out.cel 2 _ rfl
                      have k3 := hlg.out.cel 3 _ rfl
                      have kl := hlg.out.lt
                      go_wp2_with (go_at_call 23; refine Calls.mono (HW.out _) ?_; rintro e u1 ⟨rfl, hw1⟩; rw [hw1]; clear hw1)
                      go_ret
                      exact ⟨ret_int E2.out.symm, hlg.out.bel⟩
                  · skip
                    have E2 : Hid (efV zs = 1) := HBAD.out (HEK.out.trans (by rw [HE.out]; have rq0 := of_decide_eq_false q0; have rq1 := of_decide_eq_false q1; have rq2 := of_decide_eq_false q2; have rq3 := beq_iff_eq.1 q3; have rq4 := of_decide_eq_false q4; have rq5 := of_decide_eq_true q5; simp; try omega))
                    clear HE HEK HBAD HS
                    go_upto_region 7 with fail
                    have y1 : (wr.alloc (.cells #[.int .i64 z.t, .int .i64 z.kind, .int .i64 z.num, .int .i64 z.val] 46)).cell? ⟨g, o + j * 4, none⟩ = _ := ((bx1 wr (.cells #[.int .i64 z.t, .int .i64 z.kind, .int .i64 z.num, .int .i64 z.val] 46)).cell (p := ⟨g, o + j * 4, none⟩) hgw).trans y0
                    have gl : g < (wr.alloc (.cells #[.int .i64 z.t, .int .i64 z.kind, .int .i64 z.num, .int .i64 z.val] 46)).heap.size := Nat.lt_of_lt_of_le hgw (bx1 wr (.cells #[.int .i64 z.t, .int .i64 z.kind, .int .i64 z.num, .int .i64 z.val] 46)).size
                    clear d0 d1 d2 d3
                    clear y0
                    generalize (wr.alloc (.cells #[.int .i64 z.t, .int .i64 z.kind, .int .i64 z.num, .int .i64 z.val] 46)) = u0 at *
                    generalize wr.heap.size = b0 at *
                    have HSB : Hid ((fun w' => (LG w w' b0 #[.int .i64 z.t, .int .i64 z.kind, .int .i64 z.num, .int .i64 z.val] 46) ∧ w'.cell? ⟨g, o + j * 4, none⟩ = some (.int .i64 y.t) ∧ g < w'.heap.size) u0.drew) := ⟨HLN.out.drew, y1, gl⟩
                    refine wp_region_held (S := fun w' => (LG w w' b0 #[.int .i64 z.t, .int .i64 z.kind, .int .i64 z.num, .int .i64 z.val] 46) ∧ w'.cell? ⟨g, o + j * 4, none⟩ = some (.int .i64 y.t) ∧ g < w'.heap.size) (by kernel_rfl) ?_
                    change wpAnyH _ _ _ _ _ _ _ _ (World.drew _)
                    refine wpAnyH_take (i := 0) (v := .pointer (some ⟨b0, 0, none⟩)) rfl (by kernel_rfl) (by kernel_rfl) (by kernel_rfl) (fun _ _ _ h => h) (Or.inl ⟨by kernel_rfl, fun w9 h9 => ?_⟩) HSB.out ?_
                    · go_simp
                    refine wpAnyH_take (i := 1) (v := .int .i64 z.t) rfl (by kernel_rfl) (by kernel_rfl) (by kernel_rfl) (fun _ _ _ h => h) (Or.inl ⟨by kernel_rfl, fun w9 h9 => ?_⟩) HSB.out ?_
                    · obtain ⟨hlg, y2, _⟩ := h9; have k0 := hlg.cel 0 _ rfl; have k1 := hlg.cel 1 _ rfl; have k2 := hlg.cel 2 _ rfl; have k3 := hlg.cel 3 _ rfl; go_simp
                    refine wpAnyH_take (i := 2) (v := .bool false) rfl (by kernel_rfl) (by kernel_rfl) (by kernel_rfl) (fun _ _ _ h => h) (Or.inl ⟨by kernel_rfl, fun w9 h9 => ?_⟩) HSB.out ?_
                    · go_simp; all_goals omega
                    refine wpAnyH_take (i := 3) (v := .bool false) rfl (by kernel_rfl) (by kernel_rfl) (by kernel_rfl) (fun _ _ _ h => h) (Or.inl ⟨by kernel_rfl, fun w9 h9 => ?_⟩) HSB.out ?_
                    · go_simp
                    refine wpAnyH_take (i := 4) (v := .pointer (some ⟨b0, 0, none⟩)) rfl (by kernel_rfl) (by kernel_rfl) (by kernel_rfl) (fun _ _ _ h => h) (Or.inl ⟨by kernel_rfl, fun w9 h9 => ?_⟩) HSB.out ?_
                    · go_simp
                    refine wpAnyH_take (i := 5) (v := .int .i64 z.t) rfl (by kernel_rfl) (by kernel_rfl) (by kernel_rfl) (fun _ _ _ h => h) (Or.inl ⟨by kernel_rfl, fun w9 h9 => ?_⟩) HSB.out ?_
                    · obtain ⟨hlg, y2, _⟩ := h9; have k0 := hlg.cel 0 _ rfl; have k1 := hlg.cel 1 _ rfl; have k2 := hlg.cel 2 _ rfl; have k3 := hlg.cel 3 _ rfl; go_simp
                    refine wpAnyH_take (i := 6) (v := .bool false) rfl (by kernel_rfl) (by kernel_rfl) (by kernel_rfl) (fun _ _ _ h => h) (Or.inl ⟨by kernel_rfl, fun w9 h9 => ?_⟩) HSB.out ?_
                    · go_simp; all_goals omega
                    refine wpAnyH_take (i := 7) (v := .bool false) rfl (by kernel_rfl) (by kernel_rfl) (by kernel_rfl) (fun _ _ _ h => h) (Or.inl ⟨by kernel_rfl, fun w9 h9 => ?_⟩) HSB.out ?_
                    · go_simp
                    refine wpAnyH_take (i := 8) (v := .bool false) rfl (by kernel_rfl) (by kernel_rfl) (by kernel_rfl) (fun _ _ _ h => h) (Or.inl ⟨by kernel_rfl, fun w9 h9 => ?_⟩) HSB.out ?_
                    · go_simp
                    refine wpAnyH_take (i := 9) (v := .int .i64 ((j + 1 : Nat) : Int)) rfl (by kernel_rfl) (by kernel_rfl) (by kernel_rfl) (fun _ _ _ h => h) (Or.inl ⟨by kernel_rfl, fun w9 h9 => ?_⟩) HSB.out ?_
                    · go_simp
                    refine wpAnyH_take (i := 10) (v := .bool true) rfl (by kernel_rfl) (by kernel_rfl) (by kernel_rfl) (fun _ _ _ h => h) (Or.inl ⟨by kernel_rfl, fun w9 h9 => ?_⟩) HSB.out ?_
                    · go_simp; all_goals omega
                    refine wpAnyH_take (i := 11) (v := .bool true) rfl (by kernel_rfl) (by kernel_rfl) (by kernel_rfl) (fun _ _ _ h => h) (Or.inl ⟨by kernel_rfl, fun w9 h9 => ?_⟩) HSB.out ?_
                    · go_simp
                    refine wpAnyH_take (i := 12) (v := .pointer (some ⟨b0, 0, none⟩)) rfl (by kernel_rfl) (by kernel_rfl) (by kernel_rfl) (fun _ _ _ h => h) (Or.inl ⟨by kernel_rfl, fun w9 h9 => ?_⟩) HSB.out ?_
                    · go_simp
                    refine wpAnyH_take (i := 13) (v := .int .i64 z.t) rfl (by kernel_rfl) (by kernel_rfl) (by kernel_rfl) (fun _ _ _ h => h) (Or.inl ⟨by kernel_rfl, fun w9 h9 => ?_⟩) HSB.out ?_
                    · obtain ⟨hlg, y2, _⟩ := h9; have k0 := hlg.cel 0 _ rfl; have k1 := hlg.cel 1 _ rfl; have k2 := hlg.cel 2 _ rfl; have k3 := hlg.cel 3 _ rfl; go_simp
                    refine wpAnyH_take (i := 14) (v := .slice (some ⟨g, o, none⟩) zs.length cap) rfl (by kernel_rfl) (by kernel_rfl) (by kernel_rfl) (fun _ _ _ h => h) (Or.inl ⟨by kernel_rfl, fun w9 h9 => ?_⟩) HSB.out ?_
                    · go_simp
                    refine wpAnyH_take (i := 15) (v := .int .i64 ((j + 1 : Nat) : Int)) rfl (by kernel_rfl) (by kernel_rfl) (by kernel_rfl) (fun _ _ _ h => h) (Or.inl ⟨by kernel_rfl, fun w9 h9 => ?_⟩) HSB.out ?_
                    · go_simp
                    refine wpAnyH_take (i := 16) (v := .int .i64 (j : Int)) rfl (by kernel_rfl) (by kernel_rfl) (by kernel_rfl) (fun _ _ _ h => h) (Or.inl ⟨by kernel_rfl, fun w9 h9 => ?_⟩) HSB.out ?_
                    · go_simp
                    refine wpAnyH_take (i := 17) (v := .pointer (some ⟨g, o + j * 4, none⟩)) rfl (by kernel_rfl) (by kernel_rfl) (by kernel_rfl) (fun _ _ _ h => h) (Or.inl ⟨by kernel_rfl, fun w9 h9 => ?_⟩) HSB.out ?_
                    · go_simp
                    refine wpAnyH_take (i := 18) (v := .pointer (some ⟨g, o + j * 4, none⟩)) rfl (by kernel_rfl) (by kernel_rfl) (by kernel_rfl) (fun _ _ _ h => h) (Or.inl ⟨by kernel_rfl, fun w9 h9 => ?_⟩) HSB.out ?_
                    · go_simp
                    refine wpAnyH_take (i := 19) (v := .int .i64 y.t) rfl (by kernel_rfl) (by kernel_rfl) (by kernel_rfl) (fun _ _ _ h => h) (Or.inl ⟨by kernel_rfl, fun w9 h9 => ?_⟩) HSB.out ?_
                    · obtain ⟨hlg, y2, _⟩ := h9; have k0 := hlg.cel 0 _ rfl; have k1 := hlg.cel 1 _ rfl; have k2 := hlg.cel 2 _ rfl; have k3 := hlg.cel 3 _ rfl; go_simp
                    refine wpAnyH_take (i := 20) (v := .bool false) rfl (by kernel_rfl) (by kernel_rfl) (by kernel_rfl) (fun _ _ _ h => h) (Or.inl ⟨by kernel_rfl, fun w9 h9 => ?_⟩) HSB.out ?_
                    · go_simp; all_goals omega
                    refine wpAnyH_take (i := 21) (v := .bool false) rfl (by kernel_rfl) (by kernel_rfl) (by kernel_rfl) (fun _ _ _ h => h) (Or.inl ⟨by kernel_rfl, fun w9 h9 => ?_⟩) HSB.out ?_
                    · go_simp
                    refine wpAnyH_take (i := 22) (v := .bool false) rfl (by kernel_rfl) (by kernel_rfl) (by kernel_rfl) (fun _ _ _ h => h) (Or.inl ⟨by kernel_rfl, fun w9 h9 => ?_⟩) HSB.out ?_
                    · go_simp
                    refine wpAnyH_done (by kernel_rfl) ?_ _
                    go_simp
                    have hlg : Hid (LG w u0.drew b0 #[.int .i64 z.t, .int .i64 z.kind, .int .i64 z.num, .int .i64 z.val] 46) := HLN.out.drew
                    have k0 := hlg.out.cel 0 _ rfl
                    have k1 := hlg.out.cel 1 _ rfl
                    have k2 := hlg.out.cel 2 _ rfl
                    have k3 := hlg.out.cel 3 _ rfl
                    have kl := hlg.out.lt
                    go_wp2_with (go_at_call 23; refine Calls.mono (HW.out _) ?_; rintro e u1 ⟨rfl, hw1⟩; rw [hw1]; clear hw1)
                    go_ret
                    exact ⟨ret_int E2.out.symm, hlg.out.bel⟩
                · skip
                  have E2 : Hid (efV zs = 1) := HBAD.out (HEK.out.trans (by rw [HE.out]; have rq0 := of_decide_eq_false q0; have rq1 := of_decide_eq_false q1; have rq2 := of_decide_eq_false q2; have rq3 := beq_iff_eq.1 q3; have rq4 := of_decide_eq_true q4; simp; try omega))
                  clear HE HEK HBAD HS
                  go_upto_region 7 with fail
                  have y1 : (wr.alloc (.cells #[.int .i64 z.t, .int .i64 z.kind, .int .i64 z.num, .int .i64 z.val] 46)).cell? ⟨g, o + j * 4, none⟩ = _ := ((bx1 wr (.cells #[.int .i64 z.t, .int .i64 z.kind, .int .i64 z.num, .int .i64 z.val] 46)).cell (p := ⟨g, o + j * 4, none⟩) hgw).trans y0
                  have gl : g < (wr.alloc (.cells #[.int .i64 z.t, .int .i64 z.kind, .int .i64 z.num, .int .i64 z.val] 46)).heap.size := Nat.lt_of_lt_of_le hgw (bx1 wr (.cells #[.int .i64 z.t, .int .i64 z.kind, .int .i64 z.num, .int .i64 z.val] 46)).size
                  clear d0 d1 d2 d3
                  clear y0
                  generalize (wr.alloc (.cells #[.int .i64 z.t, .int .i64 z.kind, .int .i64 z.num, .int .i64 z.val] 46)) = u0 at *
                  generalize wr.heap.size = b0 at *
                  have HSB : Hid ((fun w' => (LG w w' b0 #[.int .i64 z.t, .int .i64 z.kind, .int .i64 z.num, .int .i64 z.val] 46) ∧ w'.cell? ⟨g, o + j * 4, none⟩ = some (.int .i64 y.t) ∧ g < w'.heap.size) u0.drew) := ⟨HLN.out.drew, y1, gl⟩
                  refine wp_region_held (S := fun w' => (LG w w' b0 #[.int .i64 z.t, .int .i64 z.kind, .int .i64 z.num, .int .i64 z.val] 46) ∧ w'.cell? ⟨g, o + j * 4, none⟩ = some (.int .i64 y.t) ∧ g < w'.heap.size) (by kernel_rfl) ?_
                  change wpAnyH _ _ _ _ _ _ _ _ (World.drew _)
                  refine wpAnyH_take (i := 0) (v := .pointer (some ⟨b0, 0, none⟩)) rfl (by kernel_rfl) (by kernel_rfl) (by kernel_rfl) (fun _ _ _ h => h) (Or.inl ⟨by kernel_rfl, fun w9 h9 => ?_⟩) HSB.out ?_
                  · go_simp
                  refine wpAnyH_take (i := 1) (v := .int .i64 z.t) rfl (by kernel_rfl) (by kernel_rfl) (by kernel_rfl) (fun _ _ _ h => h) (Or.inl ⟨by kernel_rfl, fun w9 h9 => ?_⟩) HSB.out ?_
                  · obtain ⟨hlg, y2, _⟩ := h9; have k0 := hlg.cel 0 _ rfl; have k1 := hlg.cel 1 _ rfl; have k2 := hlg.cel 2 _ rfl; have k3 := hlg.cel 3 _ rfl; go_simp
                  refine wpAnyH_take (i := 2) (v := .bool false) rfl (by kernel_rfl) (by kernel_rfl) (by kernel_rfl) (fun _ _ _ h => h) (Or.inl ⟨by kernel_rfl, fun w9 h9 => ?_⟩) HSB.out ?_
                  · go_simp; all_goals omega
                  refine wpAnyH_take (i := 3) (v := .bool false) rfl (by kernel_rfl) (by kernel_rfl) (by kernel_rfl) (fun _ _ _ h => h) (Or.inl ⟨by kernel_rfl, fun w9 h9 => ?_⟩) HSB.out ?_
                  · go_simp
                  refine wpAnyH_take (i := 4) (v := .pointer (some ⟨b0, 0, none⟩)) rfl (by kernel_rfl) (by kernel_rfl) (by kernel_rfl) (fun _ _ _ h => h) (Or.inl ⟨by kernel_rfl, fun w9 h9 => ?_⟩) HSB.out ?_
                  · go_simp
                  refine wpAnyH_take (i := 5) (v := .int .i64 z.t) rfl (by kernel_rfl) (by kernel_rfl) (by kernel_rfl) (fun _ _ _ h => h) (Or.inl ⟨by kernel_rfl, fun w9 h9 => ?_⟩) HSB.out ?_
                  · obtain ⟨hlg, y2, _⟩ := h9; have k0 := hlg.cel 0 _ rfl; have k1 := hlg.cel 1 _ rfl; have k2 := hlg.cel 2 _ rfl; have k3 := hlg.cel 3 _ rfl; go_simp
                  refine wpAnyH_take (i := 6) (v := .bool false) rfl (by kernel_rfl) (by kernel_rfl) (by kernel_rfl) (fun _ _ _ h => h) (Or.inl ⟨by kernel_rfl, fun w9 h9 => ?_⟩) HSB.out ?_
                  · go_simp; all_goals omega
                  refine wpAnyH_take (i := 7) (v := .bool false) rfl (by kernel_rfl) (by kernel_rfl) (by kernel_rfl) (fun _ _ _ h => h) (Or.inl ⟨by kernel_rfl, fun w9 h9 => ?_⟩) HSB.out ?_
                  · go_simp
                  refine wpAnyH_take (i := 8) (v := .bool false) rfl (by kernel_rfl) (by kernel_rfl) (by kernel_rfl) (fun _ _ _ h => h) (Or.inl ⟨by kernel_rfl, fun w9 h9 => ?_⟩) HSB.out ?_
                  · go_simp
                  refine wpAnyH_take (i := 9) (v := .int .i64 ((j + 1 : Nat) : Int)) rfl (by kernel_rfl) (by kernel_rfl) (by kernel_rfl) (fun _ _ _ h => h) (Or.inl ⟨by kernel_rfl, fun w9 h9 => ?_⟩) HSB.out ?_
                  · go_simp
                  refine wpAnyH_take (i := 10) (v := .bool true) rfl (by kernel_rfl) (by kernel_rfl) (by kernel_rfl) (fun _ _ _ h => h) (Or.inl ⟨by kernel_rfl, fun w9 h9 => ?_⟩) HSB.out ?_
                  · go_simp; all_goals omega
                  refine wpAnyH_take (i := 11) (v := .bool true) rfl (by kernel_rfl) (by kernel_rfl) (by kernel_rfl) (fun _ _ _ h => h) (Or.inl ⟨by kernel_rfl, fun w9 h9 => ?_⟩) HSB.out ?_
                  · go_simp
                  refine wpAnyH_take (i := 12) (v := .pointer (some ⟨b0, 0, none⟩)) rfl (by kernel_rfl) (by kernel_rfl) (by kernel_rfl) (fun _ _ _ h => h) (Or.inl ⟨by kernel_rfl, fun w9 h9 => ?_⟩) HSB.out ?_
                  · go_simp
                  refine wpAnyH_take (i := 13) (v := .int .i64 z.t) rfl (by kernel_rfl) (by kernel_rfl) (by kernel_rfl) (fun _ _ _ h => h) (Or.inl ⟨by kernel_rfl, fun w9 h9 => ?_⟩) HSB.out ?_
                  · obtain ⟨hlg, y2, _⟩ := h9; have k0 := hlg.cel 0 _ rfl; have k1 := hlg.cel 1 _ rfl; have k2 := hlg.cel 2 _ rfl; have k3 := hlg.cel 3 _ rfl; go_simp
                  refine wpAnyH_take (i := 14) (v := .slice (some ⟨g, o, none⟩) zs.length cap) rfl (by kernel_rfl) (by kernel_rfl) (by kernel_rfl) (fun _ _ _ h => h) (Or.inl ⟨by kernel_rfl, fun w9 h9 => ?_⟩) HSB.out ?_
                  · go_simp
                  refine wpAnyH_take (i := 15) (v := .int .i64 ((j + 1 : Nat) : Int)) rfl (by kernel_rfl) (by kernel_rfl) (by kernel_rfl) (fun _ _ _ h => h) (Or.inl ⟨by kernel_rfl, fun w9 h9 => ?_⟩) HSB.out ?_
                  · go_simp
                  refine wpAnyH_take (i := 16) (v := .int .i64 (j : Int)) rfl (by kernel_rfl) (by kernel_rfl) (by kernel_rfl) (fun _ _ _ h => h) (Or.inl ⟨by kernel_rfl, fun w9 h9 => ?_⟩) HSB.out ?_
                  · go_simp
                  refine wpAnyH_take (i := 17) (v := .pointer (some ⟨g, o + j * 4, none⟩)) rfl (by kernel_rfl) (by kernel_rfl) (by kernel_rfl) (fun _ _ _ h => h) (Or.inl ⟨by kernel_rfl, fun w9 h9 => ?_⟩) HSB.out ?_
                  · go_simp
                  refine wpAnyH_take (i := 18) (v := .pointer (some ⟨g, o + j * 4, none⟩)) rfl (by kernel_rfl) (by kernel_rfl) (by kernel_rfl) (fun _ _ _ h => h) (Or.inl ⟨by kernel_rfl, fun w9 h9 => ?_⟩) HSB.out ?_
                  · go_simp
                  refine wpAnyH_take (i := 19) (v := .int .i64 y.t) rfl (by kernel_rfl) (by kernel_rfl) (by kernel_rfl) (fun _ _ _ h => h) (Or.inl ⟨by kernel_rfl, fun w9 h9 => ?_⟩) HSB.out ?_
                  · obtain ⟨hlg, y2, _⟩ := h9; have k0 := hlg.cel 0 _ rfl; have k1 := hlg.cel 1 _ rfl; have k2 := hlg.cel 2 _ rfl; have k3 := hlg.cel 3 _ rfl; go_simp
                  refine wpAnyH_take (i := 20) (v := .bool false) rfl (by kernel_rfl) (by kernel_rfl) (by kernel_rfl) (fun _ _ _ h => h) (Or.inl ⟨by kernel_rfl, fun w9 h9 => ?_⟩) HSB.out ?_
                  · go_simp; all_goals omega
                  refine wpAnyH_take (i := 21) (v := .bool false) rfl (by kernel_rfl) (by kernel_rfl) (by kernel_rfl) (fun _ _ _ h => h) (Or.inl ⟨by kernel_rfl, fun w9 h9 => ?_⟩) HSB.out ?_
                  · go_simp
                  refine wpAnyH_take (i := 22) (v := .bool false) rfl (by kernel_rfl) (by kernel_rfl) (by kernel_rfl) (fun _ _ _ h => h) (Or.inl ⟨by kernel_rfl, fun w9 h9 => ?_⟩) HSB.out ?_
                  · go_simp
                  refine wpAnyH_done (by kernel_rfl) ?_ _
                  go_simp
                  have hlg : Hid (LG w u0.drew b0 #[.int .i64 z.t, .int .i64 z.kind, .int .i64 z.num, .int .i64 z.val] 46) := HLN.out.drew
                  have k0 := hlg.out.cel 0 _ rfl
                  have k1 := hlg.out.cel 1 _ rfl
                  have k2 := hlg.out.cel 2 _ rfl
                  have k3 := hlg.out.cel 3 _ rfl
                  have kl := hlg.out.lt
                  go_wp2_with (go_at_call 23; refine Calls.mono (HW.out _) ?_; rintro e u1 ⟨rfl, hw1⟩; rw [hw1]; clear hw1)
                  go_ret
                  exact ⟨ret_int E2.out.symm, hlg.out.bel⟩
            · skip
              have E2 : Hid (efV zs = 1) := HBAD.out (HEK.out.trans (by rw [HE.out]; have rq0 := of_decide_eq_false q0; have rq1 := of_decide_eq_false q1; have rq2 := of_decide_eq_true q2; simp; try omega))
              clear HE HEK HBAD HS
              go_upto_region 7 with fail
              have y1 : (wr.alloc (.cells #[.int .i64 z.t, .int .i64 z.kind, .int .i64 z.num, .int .i64 z.val] 46)).cell? ⟨g, o + j * 4, none⟩ = _ := ((bx1 wr (.cells #[.int .i64 z.t, .int .i64 z.kind, .int .i64 z.num, .int .i64 z.val] 46)).cell (p := ⟨g, o + j * 4, none⟩) hgw).trans y0
              have gl : g < (wr.alloc (.cells #[.int .i64 z.t, .int .i64 z.kind, .int .i64 z.num, .int .i64 z.val] 46)).heap.size := Nat.lt_of_lt_of_le hgw (bx1 wr (.cells #[.int .i64 z.t, .int .i64 z.kind, .int .i64 z.num, .int .i64 z.val] 46)).size
              clear d0 d1 d2 d3
              clear y0
              generalize (wr.alloc (.cells #[.int .i64 z.t, .int .i64 z.kind, .int .i64 z.num, .int .i64 z.val] 46)) = u0 at *
              generalize wr.heap.size = b0 at *
              have HSB : Hid ((fun w' => (LG w w' b0 #[.int .i64 z.t, .int .i64 z.kind, .int .i64 z.num, .int .i64 z.val] 46) ∧ w'.cell? ⟨g, o + j * 4, none⟩ = some (.int .i64 y.t) ∧ g < w'.heap.size) u0.drew) := ⟨HLN.out.drew, y1, gl⟩
              refine wp_region_held (S := fun w' => (LG w w' b0 #[.int .i64 z.t, .int .i64 z.kind, .int .i64 z.num, .int .i64 z.val] 46) ∧ w'.cell? ⟨g, o + j * 4, none⟩ = some (.int .i64 y.t) ∧ g < w'.heap.size) (by kernel_rfl) ?_
              change wpAnyH _ _ _ _ _ _ _ _ (World.drew _)
              refine wpAnyH_take (i := 0) (v := .pointer (some ⟨b0, 0, none⟩)) rfl (by kernel_rfl) (by kernel_rfl) (by kernel_rfl) (fun _ _ _ h => h) (Or.inl ⟨by kernel_rfl, fun w9 h9 => ?_⟩) HSB.out ?_
              · go_simp
              refine wpAnyH_take (i := 1) (v := .int .i64 z.t) rfl (by kernel_rfl) (by kernel_rfl) (by kernel_rfl) (fun _ _ _ h => h) (Or.inl ⟨by kernel_rfl, fun w9 h9 => ?_⟩) HSB.out ?_
              · obtain ⟨hlg, y2, _⟩ := h9; have k0 := hlg.cel 0 _ rfl; have k1 := hlg.cel 1 _ rfl; have k2 := hlg.cel 2 _ rfl; have k3 := hlg.cel 3 _ rfl; go_simp
              refine wpAnyH_take (i := 2) (v := .bool false) rfl (by kernel_rfl) (by kernel_rfl) (by kernel_rfl) (fun _ _ _ h => h) (Or.inl ⟨by kernel_rfl, fun w9 h9 => ?_⟩) HSB.out ?_
              · go_simp; all_goals omega
              refine wpAnyH_take (i := 3) (v := .bool false) rfl (by kernel_rfl) (by kernel_rfl) (by kernel_rfl) (fun _ _ _ h => h) (Or.inl ⟨by kernel_rfl, fun w9 h9 => ?_⟩) HSB.out ?_
              · go_simp
              refine wpAnyH_take (i := 4) (v := .pointer (some ⟨b0, 0, none⟩)) rfl (by kernel_rfl) (by kernel_rfl) (by kernel_rfl) (fun _ _ _ h => h) (Or.inl ⟨by kernel_rfl, fun w9 h9 => ?_⟩) HSB.out ?_
              · go_simp
              refine wpAnyH_take (i := 5) (v := .int .i64 z.t) rfl (by kernel_rfl) (by kernel_rfl) (by kernel_rfl) (fun _ _ _ h => h) (Or.inl ⟨by kernel_rfl, fun w9 h9 => ?_⟩) HSB.out ?_
              · obtain ⟨hlg, y2, _⟩ := h9; have k0 := hlg.cel 0 _ rfl; have k1 := hlg.cel 1 _ rfl; have k2 := hlg.cel 2 _ rfl; have k3 := hlg.cel 3 _ rfl; go_simp
              refine wpAnyH_take (i := 6) (v := .bool false) rfl (by kernel_rfl) (by kernel_rfl) (by kernel_rfl) (fun _ _ _ h => h) (Or.inl ⟨by kernel_rfl, fun w9 h9 => ?_⟩) HSB.out ?_
              · go_simp; all_goals omega
              refine wpAnyH_take (i := 7) (v := .bool false) rfl (by kernel_rfl) (by kernel_rfl) (by kernel_rfl) (fun _ _ _ h => h) (Or.inl ⟨by kernel_rfl, fun w9 h9 => ?_⟩) HSB.out ?_
              · go_simp
              refine wpAnyH_take (i := 8) (v := .bool false) rfl (by kernel_rfl) (by kernel_rfl) (by kernel_rfl) (fun _ _ _ h => h) (Or.inl ⟨by kernel_rfl, fun w9 h9 => ?_⟩) HSB.out ?_
              · go_simp
              refine wpAnyH_take (i := 9) (v := .int .i64 ((j + 1 : Nat) : Int)) rfl (by kernel_rfl) (by kernel_rfl) (by kernel_rfl) (fun _ _ _ h => h) (Or.inl ⟨by kernel_rfl, fun w9 h9 => ?_⟩) HSB.out ?_
              · go_simp
              refine wpAnyH_take (i := 10) (v := .bool true) rfl (by kernel_rfl) (by kernel_rfl) (by kernel_rfl) (fun _ _ _ h => h) (Or.inl ⟨by kernel_rfl, fun w9 h9 => ?_⟩) HSB.out ?_
              · go_simp; all_goals omega
              refine wpAnyH_take (i := 11) (v := .bool true) rfl (by kernel_rfl) (by kernel_rfl) (by kernel_rfl) (fun _ _ _ h => h) (Or.inl ⟨by kernel_rfl, fun w9 h9 => ?_⟩) HSB.out ?_
              · go_simp
              refine wpAnyH_take (i := 12) (v := .pointer (some ⟨b0, 0, none⟩)) rfl (by kernel_rfl) (by kernel_rfl) (by kernel_rfl) (fun _ _ _ h => h) (Or.inl ⟨by kernel_rfl, fun w9 h9 => ?_⟩) HSB.out ?_
              · go_simp
              refine wpAnyH_take (i := 13) (v := .int .i64 z.t) rfl (by kernel_rfl) (by kernel_rfl) (by kernel_rfl) (fun _ _ _ h => h) (Or.inl ⟨by kernel_rfl, fun w9 h9 => ?_⟩) HSB.out ?_
              · obtain ⟨hlg, y2, _⟩ := h9; have k0 := hlg.cel 0 _ rfl; have k1 := hlg.cel 1 _ rfl; have k2 := hlg.cel 2 _ rfl; have k3 := hlg.cel 3 _ rfl; go_simp
              refine wpAnyH_take (i := 14) (v := .slice (some ⟨g, o, none⟩) zs.length cap) rfl (by kernel_rfl) (by kernel_rfl) (by kernel_rfl) (fun _ _ _ h => h) (Or.inl ⟨by kernel_rfl, fun w9 h9 => ?_⟩) HSB.out ?_
              · go_simp
              refine wpAnyH_take (i := 15) (v := .int .i64 ((j + 1 : Nat) : Int)) rfl (by kernel_rfl) (by kernel_rfl) (by kernel_rfl) (fun _ _ _ h => h) (Or.inl ⟨by kernel_rfl, fun w9 h9 => ?_⟩) HSB.out ?_
              · go_simp
              refine wpAnyH_take (i := 16) (v := .int .i64 (j : Int)) rfl (by kernel_rfl) (by kernel_rfl) (by kernel_rfl) (fun _ _ _ h => h) (Or.inl ⟨by kernel_rfl, fun w9 h9 => ?_⟩) HSB.out ?_
              · go_simp
              refine wpAnyH_take (i := 17) (v := .pointer (some ⟨g, o + j * 4, none⟩)) rfl (by kernel_rfl) (by kernel_rfl) (by kernel_rfl) (fun _ _ _ h => h) (Or.inl ⟨by kernel_rfl, fun w9 h9 => ?_⟩) HSB.out ?_
              · go_simp
              refine wpAnyH_take (i := 18) (v := .pointer (some ⟨g, o + j * 4, none⟩)) rfl (by kernel_rfl) (by kernel_rfl) (by kernel_rfl) (fun _ _ _ h => h) (Or.inl ⟨by kernel_rfl, fun w9 h9 => ?_⟩) HSB.out ?_
              · go_simp
              refine wpAnyH_take (i := 19) (v := .int .i64 y.t) rfl (by kernel_rfl) (by kernel_rfl) (by kernel_rfl) (fun _ _ _ h => h) (Or.inl ⟨by kernel_rfl, fun w9 h9 => ?_⟩) HSB.out ?_
              · obtain ⟨hlg, y2, _⟩ := h9; have k0 := hlg.cel 0 _ rfl; have k1 := hlg.cel 1 _ rfl; have k2 := hlg.cel 2 _ rfl; have k3 := hlg.cel 3 _ rfl; go_simp
              refine wpAnyH_take (i := 20) (v := .bool true) rfl (by kernel_rfl) (by kernel_rfl) (by kernel_rfl) (fun _ _ _ h => h) (Or.inl ⟨by kernel_rfl, fun w9 h9 => ?_⟩) HSB.out ?_
              · go_simp; all_goals omega
              refine wpAnyH_take (i := 21) (v := .bool true) rfl (by kernel_rfl) (by kernel_rfl) (by kernel_rfl) (fun _ _ _ h => h) (Or.inl ⟨by kernel_rfl, fun w9 h9 => ?_⟩) HSB.out ?_
              · go_simp
              refine wpAnyH_take (i := 22) (v := .bool true) rfl (by kernel_rfl) (by kernel_rfl) (by kernel_rfl) (fun _ _ _ h => h) (Or.inl ⟨by kernel_rfl, fun w9 h9 => ?_⟩) HSB.out ?_
              · go_simp
              refine wpAnyH_done (by kernel_rfl) ?_ _
              go_simp
              have hlg : Hid (LG w u0.drew b0 #[.int .i64 z.t, .int .i64 z.kind, .int .i64 z.num, .int .i64 z.val] 46) := HLN.out.drew
              have k0 := hlg.out.cel 0 _ rfl
              have k1 := hlg.out.cel 1 _ rfl
              have k2 := hlg.out.cel 2 _ rfl
              have k3 := hlg.out.cel 3 _ rfl
              have kl := hlg.out.lt
              go_wp2_with (go_at_call 23; refine Calls.mono (HW.out _) ?_; rintro e u1 ⟨rfl, hw1⟩; rw [hw1]; clear hw1)
              go_ret
              exact ⟨ret_int E2.out.symm, hlg.out.bel⟩
          · skip
            have E2 : Hid (efV zs = 1) := HBAD.out (HEK.out.trans (by rw [HE.out]; have rq0 := of_decide_eq_false q0; have rq1 := of_decide_eq_true q1; simp; try omega))
            clear HE HEK HBAD HS
            go_upto_region 7 with fail
            have y1 : (wr.alloc (.cells #[.int .i64 z.t, .int .i64 z.kind, .int .i64 z.num, .int .i64 z.val] 46)).cell? ⟨g, o + j * 4, none⟩ = _ := ((bx1 wr (.cells #[.int .i64 z.t, .int .i64 z.kind, .int .i64 z.num, .int .i64 z.val] 46)).cell (p := ⟨g, o + j * 4, none⟩) hgw).trans y0
            have gl : g < (wr.alloc (.cells #[.int .i64 z.t, .int .i64 z.kind, .int .i64 z.num, .int .i64 z.val] 46)).heap.size := Nat.lt_of_lt_of_le hgw (bx1 wr (.cells #[.int .i64 z.t, .int .i64 z.kind, .int .i64 z.num, .int .i64 z.val] 46)).size
            clear d0 d1 d2 d3
            clear y0
            generalize (wr.alloc (.cells #[.int .i64 z.t, .int .i64 z.kind, .int .i64 z.num, .int .i64 z.val] 46)) = u0 at *
            generalize wr.heap.size = b0 at *
            have HSB : Hid ((fun w' => (LG w w' b0 #[.int .i64 z.t, .int .i64 z.kind, .int .i64 z.num, .int .i64 z.val] 46) ∧ w'.cell? ⟨g, o + j * 4, none⟩ = some (.int .i64 y.t) ∧ g < w'.heap.size) u0.drew) := ⟨HLN.out.drew, y1, gl⟩
            refine wp_region_held (S := fun w' => (LG w w' b0 #[.int .i64 z.t, .int .i64 z.kind, .int .i64 z.num, .int .i64 z.val] 46) ∧ w'.cell? ⟨g, o + j * 4, none⟩ = some (.int .i64 y.t) ∧ g < w'.heap.size) (by kernel_rfl) ?_
            change wpAnyH _ _ _ _ _ _ _ _ (World.drew _)
            refine wpAnyH_take (i := 0) (v := .pointer (some ⟨b0, 0, none⟩)) rfl (by kernel_rfl) (by kernel_rfl) (by kernel_rfl) (fun _ _ _ h => h) (Or.inl ⟨by kernel_rfl, fun w9 h9 => ?_⟩) HSB.out ?_
            · go_simp
            refine wpAnyH_take (i := 1) (v := .int .i64 z.t) rfl (by kernel_rfl) (by kernel_rfl) (by kernel_rfl) (fun _ _ _ h => h) (Or.inl ⟨by kernel_rfl, fun w9 h9 => ?_⟩) HSB.out ?_
            · obtain ⟨hlg, y2, _⟩ := h9; have k0 := hlg.cel 0 _ rfl; have k1 := hlg.cel 1 _ rfl; have k2 := hlg.cel 2 _ rfl; have k3 := hlg.cel 3 _ rfl; go_simp
            refine wpAnyH_take (i := 2) (v := .bool false) rfl (by kernel_rfl) (by kernel_rfl) (by kernel_rfl) (fun _ _ _ h => h) (Or.inl ⟨by kernel_rfl, fun w9 h9 => ?_⟩) HSB.out ?_
            · go_simp; all_goals omega
            refine wpAnyH_take (i := 3) (v := .bool false) rfl (by kernel_rfl) (by kernel_rfl) (by kernel_rfl) (fun _ _ _ h => h) (Or.inl ⟨by kernel_rfl, fun w9 h9 => ?_⟩) HSB.out ?_
            · go_simp
            refine wpAnyH_take (i := 4) (v := .pointer (some ⟨b0, 0, none⟩)) rfl (by kernel_rfl) (by kernel_rfl) (by kernel_rfl) (fun _ _ _ h => h) (Or.inl ⟨by kernel_rfl, fun w9 h9 => ?_⟩) HSB.out ?_
            · go_simp
            refine wpAnyH_take (i := 5) (v := .int .i64 z.t) rfl (by kernel_rfl) (by kernel_rfl) (by kernel_rfl) (fun _ _ _ h => h) (Or.inl ⟨by kernel_rfl, fun w9 h9 => ?_⟩) HSB.out ?_
            · obtain ⟨hlg, y2, _⟩ := h9; have k0 := hlg.cel 0 _ rfl; have k1 := hlg.cel 1 _ rfl; have k2 := hlg.cel 2 _ rfl; have k3 := hlg.cel 3 _ rfl; go_simp
            refine wpAnyH_take (i := 6) (v := .bool true) rfl (by kernel_rfl) (by kernel_rfl) (by kernel_rfl) (fun _ _ _ h => h) (Or.inl ⟨by kernel_rfl, fun w9 h9 => ?_⟩) HSB.out ?_
            · go_simp; all_goals omega
            refine wpAnyH_take (i := 7) (v := .bool true) rfl (by kernel_rfl) (by kernel_rfl) (by kernel_rfl) (fun _ _ _ h => h) (Or.inl ⟨by kernel_rfl, fun w9 h9 => ?_⟩) HSB.out ?_
            · go_simp
            refine wpAnyH_take (i := 8) (v := .bool true) rfl (by kernel_rfl) (by kernel_rfl) (by kernel_rfl) (fun _ _ _ h => h) (Or.inl ⟨by kernel_rfl, fun w9 h9 => ?_⟩) HSB.out ?_
            · go_simp
            refine wpAnyH_take (i := 9) (v := undef) rfl (by kernel_rfl) (by kernel_rfl) (by kernel_rfl) (fun _ _ _ h => h) (Or.inr ⟨by kernel_rfl, rfl⟩) HSB.out ?_
            refine wpAnyH_take (i := 10) (v := undef) rfl (by kernel_rfl) (by kernel_rfl) (by kernel_rfl) (fun _ _ _ h => h) (Or.inr ⟨by kernel_rfl, rfl⟩) HSB.out ?_
            refine wpAnyH_take (i := 11) (v := undef) rfl (by kernel_rfl) (by kernel_rfl) (by kernel_rfl) (fun _ _ _ h => h) (Or.inr ⟨by kernel_rfl, rfl⟩) HSB.out ?_
            refine wpAnyH_take (i := 12) (v := undef) rfl (by kernel_rfl) (by kernel_rfl) (by kernel_rfl) (fun _ _ _ h => h) (Or.inr ⟨by kernel_rfl, rfl⟩) HSB.out ?_
            refine wpAnyH_take (i := 13) (v := undef) rfl (by kernel_rfl) (by kernel_rfl) (by kernel_rfl) (fun _ _ _ h => h) (Or.inr ⟨by kernel_rfl, rfl⟩) HSB.out ?_
            refine wpAnyH_take (i := 14) (v := undef) rfl (by kernel_rfl) (by kernel_rfl) (by kernel_rfl) (fun _ _ _ h => h) (Or.inr ⟨by kernel_rfl, rfl⟩) HSB.out ?_
            refine wpAnyH_take (i := 15) (v := undef) rfl (by kernel_rfl) (by kernel_rfl) (by kernel_rfl) (fun _ _ _ h => h) (Or.inr ⟨by kernel_rfl, rfl⟩) HSB.out ?_
            refine wpAnyH_take (i := 16) (v := undef) rfl (by kernel_rfl) (by kernel_rfl) (by kernel_rfl) (fun _ _ _ h => h) (Or.inr ⟨by kernel_rfl, rfl⟩) HSB.out ?_
            refine wpAnyH_take (i := 17) (v := undef) rfl (by kernel_rfl) (by kernel_rfl) (by kernel_rfl) (fun _ _ _ h => h) (Or.inr ⟨by kernel_rfl, rfl⟩) HSB.out ?_
            refine wpAnyH_take (i := 18) (v := undef) rfl (by kernel_rfl) (by kernel_rfl) (by kernel_rfl) (fun _ _ _ h => h) (Or.inr ⟨by kernel_rfl, rfl⟩) HSB.out ?_
            refine wpAnyH_take (i := 19) (v := undef) rfl (by kernel_rfl) (by kernel_rfl) (by kernel_rfl) (fun _ _ _ h => h) (Or.inr ⟨by kernel_rfl, rfl⟩) HSB.out ?_
            refine wpAnyH_take (i := 20) (v := undef) rfl (by kernel_rfl) (by kernel_rfl) (by kernel_rfl) (fun _ _ _ h => h) (Or.inr ⟨by kernel_rfl, rfl⟩) HSB.out ?_
            refine wpAnyH_take (i := 21) (v := undef) rfl (by kernel_rfl) (by kernel_rfl) (by kernel_rfl) (fun _ _ _ h => h) (Or.inr ⟨by kernel_rfl, rfl⟩) HSB.out ?_
            refine wpAnyH_take (i := 22) (v := .bool true) rfl (by kernel_rfl) (by kernel_rfl) (by kernel_rfl) (fun _ _ _ h => h) (Or.inl ⟨by kernel_rfl, fun w9 h9 => ?_⟩) HSB.out ?_
            · go_simp
            refine wpAnyH_done (by kernel_rfl) ?_ _
            go_simp
            have hlg : Hid (LG w u0.drew b0 #[.int .i64 z.t, .int .i64 z.kind, .int .i64 z.num, .int .i64 z.val] 46) := HLN.out.drew
            have k0 := hlg.out.cel 0 _ rfl
            have k1 := hlg.out.cel 1 _ rfl
            have k2 := hlg.out.cel 2 _ rfl
            have k3 := hlg.out.cel 3 _ rfl
            have kl := hlg.out.lt
            go_wp2_with (go_at_call 23; refine Calls.mono (HW.out _) ?_; rintro e u1 ⟨rfl, hw1⟩; rw [hw1]; clear hw1)
            go_ret
            exact ⟨ret_int E2.out.symm, hlg.out.bel⟩
        · skip
          have E2 : Hid (efV zs = 1) := HBAD.out (HEK.out.trans (by rw [HE.out]; have rq0 := of_decide_eq_true q0; simp; try omega))
          clear HE HEK HBAD HS
          go_upto_region 7 with fail
          have y1 : (wr.alloc (.cells #[.int .i64 z.t, .int .i64 z.kind, .int .i64 z.num, .int .i64 z.val] 46)).cell? ⟨g, o + j * 4, none⟩ = _ := ((bx1 wr (.cells #[.int .i64 z.t, .int .i64 z.kind, .int .i64 z.num, .int .i64 z.val] 46)).cell (p := ⟨g, o + j * 4, none⟩) hgw).trans y0
          have gl : g < (wr.alloc (.cells #[.int .i64 z.t, .int .i64 z.kind, .int .i64 z.num, .int .i64 z.val] 46)).heap.size := Nat.lt_of_lt_of_le hgw (bx1 wr (.cells #[.int .i64 z.t, .int .i64 z.kind, .int .i64 z.num, .int .i64 z.val] 46)).size
          clear d0 d1 d2 d3
          clear y0
          generalize (wr.alloc (.cells #[.int .i64 z.t, .int .i64 z.kind, .int .i64 z.num, .int .i64 z.val] 46)) = u0 at *
          generalize wr.heap.size = b0 at *
          have HSB : Hid ((fun w' => (LG w w' b0 #[.int .i64 z.t, .int .i64 z.kind, .int .i64 z.num, .int .i64 z.val] 46) ∧ w'.cell? ⟨g, o + j * 4, none⟩ = some (.int .i64 y.t) ∧ g < w'.heap.size) u0.drew) := ⟨HLN.out.drew, y1, gl⟩
          refine wp_region_held (S := fun w' => (LG w w' b0 #[.int .i64 z.t, .int .i64 z.kind, .int .i64 z.num, .int .i64 z.val] 46) ∧ w'.cell? ⟨g, o + j * 4, none⟩ = some (.int .i64 y.t) ∧ g < w'.heap.size) (by kernel_rfl) ?_
          change wpAnyH _ _ _ _ _ _ _ _ (World.drew _)
          refine wpAnyH_take (i := 0) (v := .pointer (some ⟨b0, 0, none⟩)) rfl (by kernel_rfl) (by kernel_rfl) (by kernel_rfl) (fun _ _ _ h => h) (Or.inl ⟨by kernel_rfl, fun w9 h9 => ?_⟩) HSB.out ?_
          · go_simp
          refine wpAnyH_take (i := 1) (v := .int .i64 z.t) rfl (by kernel_rfl) (by kernel_rfl) (by kernel_rfl) (fun _ _ _ h => h) (Or.inl ⟨by kernel_rfl, fun w9 h9 => ?_⟩) HSB.out ?_
          · obtain ⟨hlg, y2, _⟩ := h9; have k0 := hlg.cel 0 _ rfl; have k1 := hlg.cel 1 _ rfl; have k2 := hlg.cel 2 _ rfl; have k3 := hlg.cel 3 _ rfl; go_simp
          refine wpAnyH_take (i := 2) (v := .bool true) rfl (by kernel_rfl) (by kernel_rfl) (by kernel_rfl) (fun _ _ _ h => h) (Or.inl ⟨by kernel_rfl, fun w9 h9 => ?_⟩) HSB.out ?_
          · go_simp; all_goals omega
          refine wpAnyH_take (i := 3) (v := .bool true) rfl (by kernel_rfl) (by kernel_rfl) (by kernel_rfl) (fun _ _ _ h => h) (Or.inl ⟨by kernel_rfl, fun w9 h9 => ?_⟩) HSB.out ?_
          · go_simp
          refine wpAnyH_take (i := 4) (v := undef) rfl (by kernel_rfl) (by kernel_rfl) (by kernel_rfl) (fun _ _ _ h => h) (Or.inr ⟨by kernel_rfl, rfl⟩) HSB.out ?_
          refine wpAnyH_take (i := 5) (v := undef) rfl (by kernel_rfl) (by kernel_rfl) (by kernel_rfl) (fun _ _ _ h => h) (Or.inr ⟨by kernel_rfl, rfl⟩) HSB.out ?_
          refine wpAnyH_take (i := 6) (v := undef) rfl (by kernel_rfl) (by kernel_rfl) (by kernel_rfl) (fun _ _ _ h => h) (Or.inr ⟨by kernel_rfl, rfl⟩) HSB.out ?_
          refine wpAnyH_take (i := 7) (v := .bool true) rfl (by kernel_rfl) (by kernel_rfl) (by kernel_rfl) (fun _ _ _ h => h) (Or.inl ⟨by kernel_rfl, fun w9 h9 => ?_⟩) HSB.out ?_
          · go_simp
          refine wpAnyH_take (i := 8) (v := .bool true) rfl (by kernel_rfl) (by kernel_rfl) (by kernel_rfl) (fun _ _ _ h => h) (Or.inl ⟨by kernel_rfl, fun w9 h9 => ?_⟩) HSB.out ?_
          · go_simp
          refine wpAnyH_take (i := 9) (v := undef) rfl (by kernel_rfl) (by kernel_rfl) (by kernel_rfl) (fun _ _ _ h => h) (Or.inr ⟨by kernel_rfl, rfl⟩) HSB.out ?_
          refine wpAnyH_take (i := 10) (v := undef) rfl (by kernel_rfl) (by kernel_rfl) (by kernel_rfl) (fun _ _ _ h => h) (Or.inr ⟨by kernel_rfl, rfl⟩) HSB.out ?_
          refine wpAnyH_take (i := 11) (v := undef) rfl (by kernel_rfl) (by kernel_rfl) (by kernel_rfl) (fun _ _ _ h => h) (Or.inr ⟨by kernel_rfl, rfl⟩) HSB.out ?_
          refine wpAnyH_take (i := 12) (v := undef) rfl (by kernel_rfl) (by kernel_rfl) (by kernel_rfl) (fun _ _ _ h => h) (Or.inr ⟨by kernel_rfl, rfl⟩) HSB.out ?_
          refine wpAnyH_take (i := 13) (v := undef) rfl (by kernel_rfl) (by kernel_rfl) (by kernel_rfl) (fun _ _ _ h => h) (Or.inr ⟨by kernel_rfl, rfl⟩) HSB.out ?_
          refine wpAnyH_take (i := 14) (v := undef) rfl (by kernel_rfl) (by kernel_rfl) (by kernel_rfl) (fun _ _ _ h => h) (Or.inr ⟨by kernel_rfl, rfl⟩) HSB.out ?_
          refine wpAnyH_take (i := 15) (v := undef) rfl (by kernel_rfl) (by kernel_rfl) (by kernel_rfl) (fun _ _ _ h => h) (Or.inr ⟨by kernel_rfl, rfl⟩) HSB.out ?_
          refine wpAnyH_take (i := 16) (v := undef) rfl (by kernel_rfl) (by kernel_rfl) (by kernel_rfl) (fun _ _ _ h => h) (Or.inr ⟨by kernel_rfl, rfl⟩) HSB.out ?_
          refine wpAnyH_take (i := 17) (v := undef) rfl (by kernel_rfl) (by kernel_rfl) (by kernel_rfl) (fun _ _ _ h => h) (Or.inr ⟨by kernel_rfl, rfl⟩) HSB.out ?_
          refine wpAnyH_take (i := 18) (v := undef) rfl (by kernel_rfl) (by kernel_rfl) (by kernel_rfl) (fun _ _ _ h => h) (Or.inr ⟨by kernel_rfl, rfl⟩) HSB.out ?_
          refine wpAnyH_take (i := 19) (v := undef) rfl (by kernel_rfl) (by kernel_rfl) (by kernel_rfl) (fun _ _ _ h => h) (Or.inr ⟨by kernel_rfl, rfl⟩) HSB.out ?_
          refine wpAnyH_take (i := 20) (v := undef) rfl (by kernel_rfl) (by kernel_rfl) (by kernel_rfl) (fun _ _ _ h => h) (Or.inr ⟨by kernel_rfl, rfl⟩) HSB.out ?_
          refine wpAnyH_take (i := 21) (v := undef) rfl (by kernel_rfl) (by kernel_rfl) (by kernel_rfl) (fun _ _ _ h => h) (Or.inr ⟨by kernel_rfl, rfl⟩) HSB.out ?_
          refine wpAnyH_take (i := 22) (v := .bool true) rfl (by kernel_rfl) (by kernel_rfl) (by kernel_rfl) (fun _ _ _ h => h) (Or.inl ⟨by kernel_rfl, fun w9 h9 => ?_⟩) HSB.out ?_
          · go_simp
          refine wpAnyH_done (by kernel_rfl) ?_ _
          go_simp
          have hlg : Hid (LG w u0.drew b0 #[.int .i64 z.t, .int .i64 z.kind, .int .i64 z.num, .int .i64 z.val] 46) := HLN.out.drew
          have k0 := hlg.out.cel 0 _ rfl
          have k1 := hlg.out.cel 1 _ rfl
          have k2 := hlg.out.cel 2 _ rfl
          have k3 := hlg.out.cel 3 _ rfl
          have kl := hlg.out.lt
          go_wp2_with (go_at_call 23; refine Calls.mono (HW.out _) ?_; rintro e u1 ⟨rfl, hw1⟩; rw [hw1]; clear hw1)
          go_ret
          exact ⟨ret_int E2.out.symm, hlg.out.bel⟩
    · have hks : k = zs.length := by omega
      subst hks
      have hnl : ¬ ((zs.length : Nat) : Int) < (zs.length : Int) := by omega
      have E2 : Hid (efV zs = 0) := (show efV zs = 0 by rw [E.out, HALL.out]; rfl)
      go_wp2
      go_ret
      exact ⟨ret_int E2.out.symm, HB.out⟩
end Go.Proofs.Ytnbohdninedjdaa
