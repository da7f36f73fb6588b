import Derived.Test.YtalpcjclahkgnaaGreatCs3
import Derived.Deep.RegionWith
namespace Go.Proofs.YtalpcjclahkgnaaGreat
open Go.ChangeShapes Go.WideShapes Go.ChangeAt Go.RowKit

theorem noB_eq (v : VMC) : noB v = v.node.toList.isEmpty := by
  unfold noB
  rw [show (⟨#[]⟩ : ByteArray).toList = [] by simp]
  cases v.node.toList <;> rfl
theorem vkB_0 {s : CL} (h : 0 < s.vms.length) : vkB s 0 = (vmB s.tenants.length s.vms[0] && epB s.vms[0] && styB s s.vms[0]) := by
  simp [vkB, vmA_at h]
theorem vkB_s {s : CL} {k : Nat} (h : k + 1 < s.vms.length) : vkB s (k + 1) = (vmB s.tenants.length s.vms[k + 1] && tlt s.vms[k].name s.vms[k + 1].name && epB s.vms[k + 1] && styB s s.vms[k + 1]) := by
  simp [vkB, vmA_at h, vmA_at (show k < s.vms.length by omega)]
theorem tkB_at {s : CL} {k : Nat} (h : k < s.tenants.length) : tkB s k = (tntB s.tenants[k] && decide (usC s k ≤ s.tenants[k].cpu) && decide (usM s k ≤ s.tenants[k].mem)) := by
  simp [tkB, teA_at h]
set_option maxRecDepth 100000 in
set_option maxHeartbeats 16000000 in
theorem specCF_any {w : World} {s : CL} {a : CA} (h : CLRows w s a) (hl : CLlen s) : Calls Tryz.prog 12 #[clA s a] w fun e w' => e = .returned (.int .i64 (cfV s)) ∧ Below w.heap.size w w' := by
  have HNO : Hid (∀ u, Aft w u → Calls Tryz.prog 26 #[clA s a] u fun e w' => e = .returned (.bool (nosB s)) ∧ Below u.heap.size u w') := fun u hu => l22Nodes_any (h.below hu.out)
  have HND : Hid (∀ u nm, Aft w u → Calls Tryz.prog 28 #[clA s a, .string nm] u fun e w' => e = .returned (.int .i64 (ndX s nm)) ∧ Below u.heap.size u w') := fun u nm hu => l22Node_any (h.below hu.out) hl.lnodes.1 nm
  have HHO : Hid (∀ u q v, Aft w u → q < s.nodes.length → Calls Tryz.prog 29 #[clA s a, .int .i64 (q : Nat), .agg #[.string v.name, .int .i64 v.tenant, .int .i64 v.cpu, .int .i64 v.mem, .int .i64 v.zone, .int .i64 v.apart, .string v.node, .int .i64 v.epoch]] u fun e w' => e = .returned (.int .i64 (hlV s q v)) ∧ Below u.heap.size u w') := fun u q v hu hq => l22Hold_any (h.below hu.out) hl.lvms.1 q hq v
  have HUS : Hid (∀ u t, Aft w u → Calls Tryz.prog 30 #[clA s a, .int .i64 t] u fun e w' => e = .returned (.tuple #[.int .i64 (usC s t), .int .i64 (usM s t)]) ∧ Below u.heap.size u w') := fun u t hu => l22Used_any (h.below hu.out) hl.lvms.1 t
  have HIV : Hid (∀ u v, Calls Tryz.prog 27 #[.agg #[.string v.name, .int .i64 v.tenant, .int .i64 v.cpu, .int .i64 v.mem, .int .i64 v.zone, .int .i64 v.apart, .string v.node, .int .i64 v.epoch], .int .i64 (s.tenants.length : Nat)] u fun e w' => e = .returned (.bool (vmB s.tenants.length v)) ∧ Below u.heap.size u w') := fun u v => l22IsVm_any v _ u
  obtain ⟨an, kn, av, kv, ae, ke, e⟩ := h.sl
  subst e
  have HR : Hid (VMCrow w (.slice av s.vms.length kv) s.vms) := h.rvms
  have HT : Hid (TNTrow w (.slice ae s.tenants.length ke) s.tenants) := h.rtenants
  clear h
  have HL0 : Hid (LG w (w.alloc (.cells #[.slice an s.nodes.length kn, .slice av s.vms.length kv, .slice ae s.tenants.length ke, .int .i64 s.over, .int .i64 s.time] 37)) w.heap.size #[.slice an s.nodes.length kn, .slice av s.vms.length kv, .slice ae s.tenants.length ke, .int .i64 s.over, .int .i64 s.time] 37) := LG.new w _ _
  unfold clA clC at HNO HND HHO HUS
  unfold clA clC
  simp only at HNO HND HHO HUS ⊢
  have E : Hid (cfV s = if (ovB s && nosB s && lnB s && allD (vkB s) s.vms.length && allD (tkB s) s.tenants.length) = true then 0 else 1) := rfl
  have l1 : s.vms.length ≤ 1048576 := hl.lvms.1
  have l2 : s.tenants.length ≤ 1048576 := hl.ltenants
  clear hl
  generalize cfV s = V at *
  generalize hNB : nosB s = NB at *
  cases q0 : decide (s.over < 100)
  · skip
    cases q1 : decide (400 < s.over)
    · skip
      cases q2 : decide (s.time < 0)
      · skip
        cases q3 : decide (1099511627776 < s.time)
        · skip
          cases NB
          · skip
            have E2 : Hid (V = 1) := (show V = 1 by rw [E.out]; simp)
            clear E
            go_enter Tryz.func12, Tryz.ntmps12
            go_upto_region 1 with fail
            generalize (w.alloc (.cells #[.slice an s.nodes.length kn, .slice av s.vms.length kv, .slice ae s.tenants.length ke, .int .i64 s.over, .int .i64 s.time] 37)) = u0 at *
            have k0 := HL0.out.cel 0 _ rfl
            have k1 := HL0.out.cel 1 _ rfl
            have k2 := HL0.out.cel 2 _ rfl
            have k3 := HL0.out.cel 3 _ rfl
            have k4 := HL0.out.cel 4 _ rfl
            have kl := HL0.out.lt
            go_wp2_with (go_at_call 26; refine Calls.mono (HNO.out _ HL0.out.aft) ?_; rintro e u1 ⟨rfl, hb1⟩; have HL1 : Hid (LG w u1 w.heap.size #[.slice an s.nodes.length kn, .slice av s.vms.length kv, .slice ae s.tenants.length ke, .int .i64 s.over, .int .i64 s.time] 37) := HL0.out.step hb1; clear hb1; have k1 := HL1.out.cel 1 _ rfl; have k2 := HL1.out.cel 2 _ rfl; have kl := HL1.out.lt)
            go_ret
            exact ⟨ret_int E2.out.symm, HL1.out.bel⟩
          · skip
            cases q5 : decide (30 < (s.vms.length : Int))
            · skip
              cases q6 : decide ((s.tenants.length : Int) < 1)
              · skip
                cases q7 : decide (8 < (s.tenants.length : Int))
                · skip
                  have E1 : Hid (V = if (allD (vkB s) s.vms.length && allD (tkB s) s.tenants.length) = true then 0 else 1) := (show V = _ by rw [E.out, show ovB s = true by unfold ovB; have r0 := of_decide_eq_false q0; have r1 := of_decide_eq_false q1; have r2 := of_decide_eq_false q2; have r3 := of_decide_eq_false q3; simp; omega, show lnB s = true by unfold lnB; have r5 := of_decide_eq_false q5; have r6 := of_decide_eq_false q6; have r7 := of_decide_eq_false q7; simp; omega]; simp)
                  clear E
                  go_enter Tryz.func12, Tryz.ntmps12
                  go_upto_region 1 with fail
                  generalize (w.alloc (.cells #[.slice an s.nodes.length kn, .slice av s.vms.length kv, .slice ae s.tenants.length ke, .int .i64 s.over, .int .i64 s.time] 37)) = u0 at *
                  have k0 := HL0.out.cel 0 _ rfl
                  have k1 := HL0.out.cel 1 _ rfl
                  have k2 := HL0.out.cel 2 _ rfl
                  have k3 := HL0.out.cel 3 _ rfl
                  have k4 := HL0.out.cel 4 _ rfl
                  have kl := HL0.out.lt
                  go_wp2_with (go_at_call 26; refine Calls.mono (HNO.out _ HL0.out.aft) ?_; rintro e u1 ⟨rfl, hb1⟩; have HL1 : Hid (LG w u1 w.heap.size #[.slice an s.nodes.length kn, .slice av s.vms.length kv, .slice ae s.tenants.length ke, .int .i64 s.over, .int .i64 s.time] 37) := HL0.out.step hb1; clear hb1; have k1 := HL1.out.cel 1 _ rfl; have k2 := HL1.out.cel 2 _ rfl; have kl := HL1.out.lt)
                  clear q0 q1 q2 q3 q5 q6 q7 k0 k1 k2 k3 k4 kl HL0 HNO hNB
                  generalize hbb : w.heap.size = bb at HL1 ⊢
                  go_loopw [3] (fun i wr => ∃ k : Nat, k ≤ s.vms.length ∧ i = .int .i64 k ∧ allD (vkB s) k = true ∧ LG w wr bb #[.slice an s.nodes.length kn, .slice av s.vms.length kv, .slice ae s.tenants.length ke, .int .i64 s.over, .int .i64 s.time] 37) (fun i _ => s.vms.length - (intOf i).toNat)
                  case atStart => exact ⟨0, Nat.zero_le _, rfl, rfl, HL1.out⟩
                  case round =>
                    obtain ⟨k, hk, rfl, hall, hb⟩ := hrel
                    have HX : Hid (LG w wr bb #[.slice an s.nodes.length kn, .slice av s.vms.length kv, .slice ae s.tenants.length ke, .int .i64 s.over, .int .i64 s.time] 37) := hb
                    have HB : Hid (Below w.heap.size w wr) := hb.bel
                    have HALL : Hid (allD (vkB s) k = true) := hall
                    clear hall hb HL1
                    have c1 := HX.out.cel 1 _ rfl
                    have cl := HX.out.lt
                    by_cases hlt : k < s.vms.length
                    · skip
                      obtain ⟨g, o, cap2, hv, _, hg, hc⟩ := HR.out.resolve_left (fun h => by rw [h.1] at hlt; simp at hlt)
                      injection hv with hv1 hv2 hv3
                      subst hv1 hv3
                      have hgw : g < wr.heap.size := Nat.lt_of_lt_of_le hg HB.out.size
                      have hk0 : (0 : Int) ≤ (k : Int) := by omega
                      have hk1 : (k : Int) < (s.vms.length : Int) := by omega
                      have HS : Hid (allD (vkB s) (k + 1) = (allD (vkB s) k && vkB s k)) := allD_succ _ _
                      have HBAD : Hid (vkB s k = false → V = 1) := fun hh => by rw [E1.out, allD_bad hlt hh]; rfl
                      match k, hlt, hk, hk0, hk1, HALL, HS, HBAD with
                      | 0, hlt, hk, hk0, hk1, HALL, HS, HBAD =>
                        obtain ⟨d0, d1, d2, d3, d4, d5, d6, d7⟩ := hc.below HB.out hg 0 hlt
                        simp only [Nat.zero_mul, Nat.add_zero] at d0 d1 d2 d3 d4 d5 d6 d7
                        have HEK : Hid (vkB s 0 = (vmB s.tenants.length s.vms[0] && epB s.vms[0] && styB s s.vms[0])) := vkB_0 hlt
                        have hj4 : decide ((0 : Int) < ((0 : Nat) : Int)) = false := rfl
                        generalize s.vms[0] = v at *
                        have HE : Hid (epB v = (decide (0 ≤ v.epoch) && decide (v.epoch ≤ 1099511627776))) := rfl
                        generalize epB v = EP at *
                        have HSY : Hid (styB s v = (noB v || (decide (0 ≤ ndX s v.node) && decide (hlV s (ndX s v.node).toNat v = 0)))) := rfl
                        generalize styB s v = SY at *
                        have HNB : Hid (noB v = v.node.toList.isEmpty) := noB_eq v
                        generalize noB v = NO at *
                        have HIV1 := HIV.out
                        have HV1 : Hid (∀ u, Calls Tryz.prog 27 #[.agg #[.string v.name, .int .i64 v.tenant, .int .i64 v.cpu, .int .i64 v.mem, .int .i64 v.zone, .int .i64 v.apart, .string v.node, .int .i64 v.epoch], .int .i64 (s.tenants.length : Nat)] u fun e w' => e = .returned (.bool (vmB s.tenants.length v)) ∧ Below u.heap.size u w') := fun u => HIV1 u v
                        clear HIV1
                        generalize vmB s.tenants.length v = VB at *
                        go_upto_region 7 with fail
                        have HX2 : Hid (LG w (wr.alloc (.cells #[.string v.name, .int .i64 v.tenant, .int .i64 v.cpu, .int .i64 v.mem, .int .i64 v.zone, .int .i64 v.apart, .string v.node, .int .i64 v.epoch] 71)) bb #[.slice an s.nodes.length kn, .slice (some ⟨g, o, none⟩) s.vms.length kv, .slice ae s.tenants.length ke, .int .i64 s.over, .int .i64 s.time] 37) := HX.out.next
                        have HZ2 : Hid (LG w (wr.alloc (.cells #[.string v.name, .int .i64 v.tenant, .int .i64 v.cpu, .int .i64 v.mem, .int .i64 v.zone, .int .i64 v.apart, .string v.node, .int .i64 v.epoch] 71)) wr.heap.size #[.string v.name, .int .i64 v.tenant, .int .i64 v.cpu, .int .i64 v.mem, .int .i64 v.zone, .int .i64 v.apart, .string v.node, .int .i64 v.epoch] 71) := LG.mk2 HB.out
                        clear d0 d1 d2 d3 d4 d5 d6 d7 hc c1 cl HX E1 HR HT HB hk0 hk1
                        generalize (wr.alloc (.cells #[.string v.name, .int .i64 v.tenant, .int .i64 v.cpu, .int .i64 v.mem, .int .i64 v.zone, .int .i64 v.apart, .string v.node, .int .i64 v.epoch] 71)) = u0 at *
                        generalize wr.heap.size = b0 at *
                        cases VB
                        · skip
                          have E2 : Hid (V = 1) := HBAD.out (HEK.out.trans (by rw [HE.out]; simp; try omega))
                          clear HS HEK HBAD HE HALL HSY HNB
                          have HSB : Hid ((fun w' => (LG w w' b0 #[.string v.name, .int .i64 v.tenant, .int .i64 v.cpu, .int .i64 v.mem, .int .i64 v.zone, .int .i64 v.apart, .string v.node, .int .i64 v.epoch] 71) ∧ (LG w w' bb #[.slice an s.nodes.length kn, .slice (some ⟨g, o, none⟩) s.vms.length kv, .slice ae s.tenants.length ke, .int .i64 s.over, .int .i64 s.time] 37)) u0.drew) := ⟨HZ2.out.drew, HX2.out.drew⟩
                          refine wp_region_held (S := fun w' => (LG w w' b0 #[.string v.name, .int .i64 v.tenant, .int .i64 v.cpu, .int .i64 v.mem, .int .i64 v.zone, .int .i64 v.apart, .string v.node, .int .i64 v.epoch] 71) ∧ (LG w w' bb #[.slice an s.nodes.length kn, .slice (some ⟨g, o, none⟩) s.vms.length kv, .slice ae s.tenants.length ke, .int .i64 s.over, .int .i64 s.time] 37)) (by kernel_rfl) ?_
                          change wpAnyH _ _ _ _ _ _ _ _ (World.drew _)
                          refine wpAnyH_take (i := 0) (v := .agg #[.string v.name, .int .i64 v.tenant, .int .i64 v.cpu, .int .i64 v.mem, .int .i64 v.zone, .int .i64 v.apart, .string v.node, .int .i64 v.epoch]) rfl (by kernel_rfl) (by kernel_rfl) (by kernel_rfl) (fun _ _ _ h => h) (Or.inl ⟨by kernel_rfl, fun w9 h9 => ?_⟩) HSB.out ?_
                          · obtain ⟨hlg, hbx⟩ := h9; have z0 := hlg.cel 0 _ rfl; have z1 := hlg.cel 1 _ rfl; have z2 := hlg.cel 2 _ rfl; have z3 := hlg.cel 3 _ rfl; have z4 := hlg.cel 4 _ rfl; have z5 := hlg.cel 5 _ rfl; have z6 := hlg.cel 6 _ rfl; have z7 := hlg.cel 7 _ rfl; have x1 := hbx.cel 1 _ rfl; have x2 := hbx.cel 2 _ rfl; go_simp
                          refine wpAnyH_take (i := 1) (v := .pointer (some ⟨bb, 2, none⟩)) rfl (by kernel_rfl) (by kernel_rfl) (by kernel_rfl) (fun _ _ _ h => h) (Or.inl ⟨by kernel_rfl, fun w9 h9 => ?_⟩) HSB.out ?_
                          · go_simp
                          refine wpAnyH_take (i := 2) (v := .slice ae s.tenants.length ke) rfl (by kernel_rfl) (by kernel_rfl) (by kernel_rfl) (fun _ _ _ h => h) (Or.inl ⟨by kernel_rfl, fun w9 h9 => ?_⟩) HSB.out ?_
                          · obtain ⟨hlg, hbx⟩ := h9; have z0 := hlg.cel 0 _ rfl; have z1 := hlg.cel 1 _ rfl; have z2 := hlg.cel 2 _ rfl; have z3 := hlg.cel 3 _ rfl; have z4 := hlg.cel 4 _ rfl; have z5 := hlg.cel 5 _ rfl; have z6 := hlg.cel 6 _ rfl; have z7 := hlg.cel 7 _ rfl; have x1 := hbx.cel 1 _ rfl; have x2 := hbx.cel 2 _ rfl; go_simp
                          refine wpAnyH_take (i := 3) (v := .int .i64 (s.tenants.length : Nat)) rfl (by kernel_rfl) (by kernel_rfl) (by kernel_rfl) (fun _ _ _ h => h) (Or.inl ⟨by kernel_rfl, fun w9 h9 => ?_⟩) HSB.out ?_
                          · go_simp
                          refine held_one 4 (by kernel_rfl) rfl (by kernel_rfl) fun K hK => ?_
                          go_simp
                          go_wp2_with (go_at_call 27; refine Calls.mono (HV1.out _) ?_; rintro e u1 ⟨rfl, hb1⟩; have HS1 : Hid ((fun w' => (LG w w' b0 #[.string v.name, .int .i64 v.tenant, .int .i64 v.cpu, .int .i64 v.mem, .int .i64 v.zone, .int .i64 v.apart, .string v.node, .int .i64 v.epoch] 71) ∧ (LG w w' bb #[.slice an s.nodes.length kn, .slice (some ⟨g, o, none⟩) s.vms.length kv, .slice ae s.tenants.length ke, .int .i64 s.over, .int .i64 s.time] 37)) u1) := ⟨HSB.out.1.step hb1, HSB.out.2.step hb1⟩; clear hb1)
                          refine hK _ _ HS1.out ?_
                          clear hK K
                          refine wpAnyH_take (i := 5) (v := .bool true) rfl (by kernel_rfl) (by kernel_rfl) (by kernel_rfl) (fun _ _ _ h => h) (Or.inl ⟨by kernel_rfl, fun w9 h9 => ?_⟩) HS1.out ?_
                          · go_simp
                          refine wpAnyH_take (i := 6) (v := .bool true) rfl (by kernel_rfl) (by kernel_rfl) (by kernel_rfl) (fun _ _ _ h => h) (Or.inl ⟨by kernel_rfl, fun w9 h9 => ?_⟩) HS1.out ?_
                          · go_simp
                          refine wpAnyH_take (i := 7) (v := undef) rfl (by kernel_rfl) (by kernel_rfl) (by kernel_rfl) (fun _ _ _ h => h) (Or.inr ⟨by kernel_rfl, rfl⟩) HS1.out ?_
                          refine wpAnyH_take (i := 8) (v := undef) rfl (by kernel_rfl) (by kernel_rfl) (by kernel_rfl) (fun _ _ _ h => h) (Or.inr ⟨by kernel_rfl, rfl⟩) HS1.out ?_
                          refine wpAnyH_take (i := 9) (v := undef) rfl (by kernel_rfl) (by kernel_rfl) (by kernel_rfl) (fun _ _ _ h => h) (Or.inr ⟨by kernel_rfl, rfl⟩) HS1.out ?_
                          refine wpAnyH_take (i := 10) (v := undef) rfl (by kernel_rfl) (by kernel_rfl) (by kernel_rfl) (fun _ _ _ h => h) (Or.inr ⟨by kernel_rfl, rfl⟩) HS1.out ?_
                          refine wpAnyH_take (i := 11) (v := undef) rfl (by kernel_rfl) (by kernel_rfl) (by kernel_rfl) (fun _ _ _ h => h) (Or.inr ⟨by kernel_rfl, rfl⟩) HS1.out ?_
                          refine wpAnyH_take (i := 12) (v := undef) rfl (by kernel_rfl) (by kernel_rfl) (by kernel_rfl) (fun _ _ _ h => h) (Or.inr ⟨by kernel_rfl, rfl⟩) HS1.out ?_
                          refine wpAnyH_take (i := 13) (v := undef) rfl (by kernel_rfl) (by kernel_rfl) (by kernel_rfl) (fun _ _ _ h => h) (Or.inr ⟨by kernel_rfl, rfl⟩) HS1.out ?_
                          refine wpAnyH_take (i := 14) (v := undef) rfl (by kernel_rfl) (by kernel_rfl) (by kernel_rfl) (fun _ _ _ h => h) (Or.inr ⟨by kernel_rfl, rfl⟩) HS1.out ?_
                          refine wpAnyH_take (i := 15) (v := undef) rfl (by kernel_rfl) (by kernel_rfl) (by kernel_rfl) (fun _ _ _ h => h) (Or.inr ⟨by kernel_rfl, rfl⟩) HS1.out ?_
                          refine wpAnyH_take (i := 16) (v := undef) rfl (by kernel_rfl) (by kernel_rfl) (by kernel_rfl) (fun _ _ _ h => h) (Or.inr ⟨by kernel_rfl, rfl⟩) HS1.out ?_
                          refine wpAnyH_take (i := 17) (v := undef) rfl (by kernel_rfl) (by kernel_rfl) (by kernel_rfl) (fun _ _ _ h => h) (Or.inr ⟨by kernel_rfl, rfl⟩) HS1.out ?_
                          refine wpAnyH_take (i := 18) (v := undef) rfl (by kernel_rfl) (by kernel_rfl) (by kernel_rfl) (fun _ _ _ h => h) (Or.inr ⟨by kernel_rfl, rfl⟩) HS1.out ?_
                          refine wpAnyH_take (i := 19) (v := undef) rfl (by kernel_rfl) (by kernel_rfl) (by kernel_rfl) (fun _ _ _ h => h) (Or.inr ⟨by kernel_rfl, rfl⟩) HS1.out ?_
                          refine wpAnyH_take (i := 20) (v := undef) rfl (by kernel_rfl) (by kernel_rfl) (by kernel_rfl) (fun _ _ _ h => h) (Or.inr ⟨by kernel_rfl, rfl⟩) HS1.out ?_
                          refine wpAnyH_take (i := 21) (v := .bool true) rfl (by kernel_rfl) (by kernel_rfl) (by kernel_rfl) (fun _ _ _ h => h) (Or.inl ⟨by kernel_rfl, fun w9 h9 => ?_⟩) HS1.out ?_
                          · go_simp
                          refine wpAnyH_take (i := 22) (v := .bool true) rfl (by kernel_rfl) (by kernel_rfl) (by kernel_rfl) (fun _ _ _ h => h) (Or.inl ⟨by kernel_rfl, fun w9 h9 => ?_⟩) HS1.out ?_
                          · go_simp
                          refine wpAnyH_take (i := 23) (v := undef) rfl (by kernel_rfl) (by kernel_rfl) (by kernel_rfl) (fun _ _ _ h => h) (Or.inr ⟨by kernel_rfl, rfl⟩) HS1.out ?_
                          refine wpAnyH_take (i := 24) (v := undef) rfl (by kernel_rfl) (by kernel_rfl) (by kernel_rfl) (fun _ _ _ h => h) (Or.inr ⟨by kernel_rfl, rfl⟩) HS1.out ?_
                          refine wpAnyH_take (i := 25) (v := undef) rfl (by kernel_rfl) (by kernel_rfl) (by kernel_rfl) (fun _ _ _ h => h) (Or.inr ⟨by kernel_rfl, rfl⟩) HS1.out ?_
                          refine wpAnyH_take (i := 26) (v := .bool true) rfl (by kernel_rfl) (by kernel_rfl) (by kernel_rfl) (fun _ _ _ h => h) (Or.inl ⟨by kernel_rfl, fun w9 h9 => ?_⟩) HS1.out ?_
                          · go_simp
                          refine wpAnyH_take (i := 27) (v := .bool true) rfl (by kernel_rfl) (by kernel_rfl) (by kernel_rfl) (fun _ _ _ h => h) (Or.inl ⟨by kernel_rfl, fun w9 h9 => ?_⟩) HS1.out ?_
                          · go_simp
                          refine wpAnyH_take (i := 28) (v := undef) rfl (by kernel_rfl) (by kernel_rfl) (by kernel_rfl) (fun _ _ _ h => h) (Or.inr ⟨by kernel_rfl, rfl⟩) HS1.out ?_
                          refine wpAnyH_take (i := 29) (v := undef) rfl (by kernel_rfl) (by kernel_rfl) (by kernel_rfl) (fun _ _ _ h => h) (Or.inr ⟨by kernel_rfl, rfl⟩) HS1.out ?_
                          refine wpAnyH_take (i := 30) (v := undef) rfl (by kernel_rfl) (by kernel_rfl) (by kernel_rfl) (fun _ _ _ h => h) (Or.inr ⟨by kernel_rfl, rfl⟩) HS1.out ?_
                          refine wpAnyH_take (i := 31) (v := .bool true) rfl (by kernel_rfl) (by kernel_rfl) (by kernel_rfl) (fun _ _ _ h => h) (Or.inl ⟨by kernel_rfl, fun w9 h9 => ?_⟩) HS1.out ?_
                          · go_simp
                          refine wpAnyH_done (by kernel_rfl) ?_ _
                          go_simp
                          go_wp2
                          go_ret
                          exact ⟨ret_int E2.out.symm, hbb ▸ HS1.out.2.bel⟩
                        · skip
                          cases q1 : decide (v.epoch < 0)
                          · skip
                            cases q2 : decide (1099511627776 < v.epoch)
                            · skip
                              have HG : Hid (SY = true → allD (vkB s) (1) = true) := fun hsy => (show allD (vkB s) (0 + 1) = true by rw [HS.out, HALL.out, HEK.out, HE.out, hsy]; have r1 := of_decide_eq_false q1; have r2 := of_decide_eq_false q2; simp; try omega)
                              have HB2 : Hid (SY = false → V = 1) := fun hsy => HBAD.out (HEK.out.trans (by rw [hsy]; simp))
                              clear HS HEK HBAD HE HALL
                              have HSB : Hid ((fun w' => (LG w w' b0 #[.string v.name, .int .i64 v.tenant, .int .i64 v.cpu, .int .i64 v.mem, .int .i64 v.zone, .int .i64 v.apart, .string v.node, .int .i64 v.epoch] 71) ∧ (LG w w' bb #[.slice an s.nodes.length kn, .slice (some ⟨g, o, none⟩) s.vms.length kv, .slice ae s.tenants.length ke, .int .i64 s.over, .int .i64 s.time] 37)) u0.drew) := ⟨HZ2.out.drew, HX2.out.drew⟩
                              refine wp_region_held (S := fun w' => (LG w w' b0 #[.string v.name, .int .i64 v.tenant, .int .i64 v.cpu, .int .i64 v.mem, .int .i64 v.zone, .int .i64 v.apart, .string v.node, .int .i64 v.epoch] 71) ∧ (LG w w' bb #[.slice an s.nodes.length kn, .slice (some ⟨g, o, none⟩) s.vms.length kv, .slice ae s.tenants.length ke, .int .i64 s.over, .int .i64 s.time] 37)) (by kernel_rfl) ?_
                              change wpAnyH _ _ _ _ _ _ _ _ (World.drew _)
                              refine wpAnyH_take (i := 0) (v := .agg #[.string v.name, .int .i64 v.tenant, .int .i64 v.cpu, .int .i64 v.mem, .int .i64 v.zone, .int .i64 v.apart, .string v.node, .int .i64 v.epoch]) rfl (by kernel_rfl) (by kernel_rfl) (by kernel_rfl) (fun _ _ _ h => h) (Or.inl ⟨by kernel_rfl, fun w9 h9 => ?_⟩) HSB.out ?_
                              · obtain ⟨hlg, hbx⟩ := h9; have z0 := hlg.cel 0 _ rfl; have z1 := hlg.cel 1 _ rfl; have z2 := hlg.cel 2 _ rfl; have z3 := hlg.cel 3 _ rfl; have z4 := hlg.cel 4 _ rfl; have z5 := hlg.cel 5 _ rfl; have z6 := hlg.cel 6 _ rfl; have z7 := hlg.cel 7 _ rfl; have x1 := hbx.cel 1 _ rfl; have x2 := hbx.cel 2 _ rfl; go_simp
                              refine wpAnyH_take (i := 1) (v := .pointer (some ⟨bb, 2, none⟩)) rfl (by kernel_rfl) (by kernel_rfl) (by kernel_rfl) (fun _ _ _ h => h) (Or.inl ⟨by kernel_rfl, fun w9 h9 => ?_⟩) HSB.out ?_
                              · go_simp
                              refine wpAnyH_take (i := 2) (v := .slice ae s.tenants.length ke) rfl (by kernel_rfl) (by kernel_rfl) (by kernel_rfl) (fun _ _ _ h => h) (Or.inl ⟨by kernel_rfl, fun w9 h9 => ?_⟩) HSB.out ?_
                              · obtain ⟨hlg, hbx⟩ := h9; have z0 := hlg.cel 0 _ rfl; have z1 := hlg.cel 1 _ rfl; have z2 := hlg.cel 2 _ rfl; have z3 := hlg.cel 3 _ rfl; have z4 := hlg.cel 4 _ rfl; have z5 := hlg.cel 5 _ rfl; have z6 := hlg.cel 6 _ rfl; have z7 := hlg.cel 7 _ rfl; have x1 := hbx.cel 1 _ rfl; have x2 := hbx.cel 2 _ rfl; go_simp
                              refine wpAnyH_take (i := 3) (v := .int .i64 (s.tenants.length : Nat)) rfl (by kernel_rfl) (by kernel_rfl) (by kernel_rfl) (fun _ _ _ h => h) (Or.inl ⟨by kernel_rfl, fun w9 h9 => ?_⟩) HSB.out ?_
                              · go_simp
                              refine held_one 4 (by kernel_rfl) rfl (by kernel_rfl) fun K hK => ?_
                              go_simp
                              go_wp2_with (go_at_call 27; refine Calls.mono (HV1.out _) ?_; rintro e u1 ⟨rfl, hb1⟩; have HS1 : Hid ((fun w' => (LG w w' b0 #[.string v.name, .int .i64 v.tenant, .int .i64 v.cpu, .int .i64 v.mem, .int .i64 v.zone, .int .i64 v.apart, .string v.node, .int .i64 v.epoch] 71) ∧ (LG w w' bb #[.slice an s.nodes.length kn, .slice (some ⟨g, o, none⟩) s.vms.length kv, .slice ae s.tenants.length ke, .int .i64 s.over, .int .i64 s.time] 37)) u1) := ⟨HSB.out.1.step hb1, HSB.out.2.step hb1⟩; clear hb1)
                              refine hK _ _ HS1.out ?_
                              clear hK K
                              refine wpAnyH_take (i := 5) (v := .bool false) rfl (by kernel_rfl) (by kernel_rfl) (by kernel_rfl) (fun _ _ _ h => h) (Or.inl ⟨by kernel_rfl, fun w9 h9 => ?_⟩) HS1.out ?_
                              · go_simp
                              refine wpAnyH_take (i := 6) (v := .bool false) rfl (by kernel_rfl) (by kernel_rfl) (by kernel_rfl) (fun _ _ _ h => h) (Or.inl ⟨by kernel_rfl, fun w9 h9 => ?_⟩) HS1.out ?_
                              · go_simp
                              refine wpAnyH_take (i := 7) (v := .int .i64 ((0 : Nat) : Int)) rfl (by kernel_rfl) (by kernel_rfl) (by kernel_rfl) (fun _ _ _ h => h) (Or.inl ⟨by kernel_rfl, fun w9 h9 => ?_⟩) HS1.out ?_
                              · go_simp
                              refine wpAnyH_take (i := 8) (v := .bool false) rfl (by kernel_rfl) (by kernel_rfl) (by kernel_rfl) (fun _ _ _ h => h) (Or.inl ⟨by kernel_rfl, fun w9 h9 => ?_⟩) HS1.out ?_
                              · go_simp; all_goals omega
                              refine wpAnyH_take (i := 9) (v := .bool false) rfl (by kernel_rfl) (by kernel_rfl) (by kernel_rfl) (fun _ _ _ h => h) (Or.inl ⟨by kernel_rfl, fun w9 h9 => ?_⟩) HS1.out ?_
                              · go_simp
                              refine wpAnyH_take (i := 10) (v := undef) rfl (by kernel_rfl) (by kernel_rfl) (by kernel_rfl) (fun _ _ _ h => h) (Or.inr ⟨by kernel_rfl, rfl⟩) HS1.out ?_
                              refine wpAnyH_take (i := 11) (v := undef) rfl (by kernel_rfl) (by kernel_rfl) (by kernel_rfl) (fun _ _ _ h => h) (Or.inr ⟨by kernel_rfl, rfl⟩) HS1.out ?_
                              refine wpAnyH_take (i := 12) (v := undef) rfl (by kernel_rfl) (by kernel_rfl) (by kernel_rfl) (fun _ _ _ h => h) (Or.inr ⟨by kernel_rfl, rfl⟩) HS1.out ?_
                              refine wpAnyH_take (i := 13) (v := undef) rfl (by kernel_rfl) (by kernel_rfl) (by kernel_rfl) (fun _ _ _ h => h) (Or.inr ⟨by kernel_rfl, rfl⟩) HS1.out ?_
                              refine wpAnyH_take (i := 14) (v := undef) rfl (by kernel_rfl) (by kernel_rfl) (by kernel_rfl) (fun _ _ _ h => h) (Or.inr ⟨by kernel_rfl, rfl⟩) HS1.out ?_
                              refine wpAnyH_take (i := 15) (v := undef) rfl (by kernel_rfl) (by kernel_rfl) (by kernel_rfl) (fun _ _ _ h => h) (Or.inr ⟨by kernel_rfl, rfl⟩) HS1.out ?_
                              refine wpAnyH_take (i := 16) (v := undef) rfl (by kernel_rfl) (by kernel_rfl) (by kernel_rfl) (fun _ _ _ h => h) (Or.inr ⟨by kernel_rfl, rfl⟩) HS1.out ?_
                              refine wpAnyH_take (i := 17) (v := undef) rfl (by kernel_rfl) (by kernel_rfl) (by kernel_rfl) (fun _ _ _ h => h) (Or.inr ⟨by kernel_rfl, rfl⟩) HS1.out ?_
                              refine wpAnyH_take (i := 18) (v := undef) rfl (by kernel_rfl) (by kernel_rfl) (by kernel_rfl) (fun _ _ _ h => h) (Or.inr ⟨by kernel_rfl, rfl⟩) HS1.out ?_
                              refine wpAnyH_take (i := 19) (v := undef) rfl (by kernel_rfl) (by kernel_rfl) (by kernel_rfl) (fun _ _ _ h => h) (Or.inr ⟨by kernel_rfl, rfl⟩) HS1.out ?_
                              refine wpAnyH_take (i := 20) (v := .bool false) rfl (by kernel_rfl) (by kernel_rfl) (by kernel_rfl) (fun _ _ _ h => h) (Or.inl ⟨by kernel_rfl, fun w9 h9 => ?_⟩) HS1.out ?_
                              · go_simp
                              refine wpAnyH_take (i := 21) (v := .bool false) rfl (by kernel_rfl) (by kernel_rfl) (by kernel_rfl) (fun _ _ _ h => h) (Or.inl ⟨by kernel_rfl, fun w9 h9 => ?_⟩) HS1.out ?_
                              · go_simp
                              refine wpAnyH_take (i := 22) (v := .bool false) rfl (by kernel_rfl) (by kernel_rfl) (by kernel_rfl) (fun _ _ _ h => h) (Or.inl ⟨by kernel_rfl, fun w9 h9 => ?_⟩) HS1.out ?_
                              · go_simp
                              refine wpAnyH_take (i := 23) (v := .pointer (some ⟨b0, 7, none⟩)) rfl (by kernel_rfl) (by kernel_rfl) (by kernel_rfl) (fun _ _ _ h => h) (Or.inl ⟨by kernel_rfl, fun w9 h9 => ?_⟩) HS1.out ?_
                              · go_simp
                              refine wpAnyH_take (i := 24) (v := .int .i64 v.epoch) rfl (by kernel_rfl) (by kernel_rfl) (by kernel_rfl) (fun _ _ _ h => h) (Or.inl ⟨by kernel_rfl, fun w9 h9 => ?_⟩) HS1.out ?_
                              · obtain ⟨hlg, hbx⟩ := h9; have z0 := hlg.cel 0 _ rfl; have z1 := hlg.cel 1 _ rfl; have z2 := hlg.cel 2 _ rfl; have z3 := hlg.cel 3 _ rfl; have z4 := hlg.cel 4 _ rfl; have z5 := hlg.cel 5 _ rfl; have z6 := hlg.cel 6 _ rfl; have z7 := hlg.cel 7 _ rfl; have x1 := hbx.cel 1 _ rfl; have x2 := hbx.cel 2 _ rfl; go_simp
                              refine wpAnyH_take (i := 25) (v := .bool false) rfl (by kernel_rfl) (by kernel_rfl) (by kernel_rfl) (fun _ _ _ h => h) (Or.inl ⟨by kernel_rfl, fun w9 h9 => ?_⟩) HS1.out ?_
                              · go_simp; all_goals omega
                              refine wpAnyH_take (i := 26) (v := .bool false) rfl (by kernel_rfl) (by kernel_rfl) (by kernel_rfl) (fun _ _ _ h => h) (Or.inl ⟨by kernel_rfl, fun w9 h9 => ?_⟩) HS1.out ?_
                              · go_simp
                              refine wpAnyH_take (i := 27) (v := .bool false) rfl (by kernel_rfl) (by kernel_rfl) (by kernel_rfl) (fun _ _ _ h => h) (Or.inl ⟨by kernel_rfl, fun w9 h9 => ?_⟩) HS1.out ?_
                              · go_simp
                              refine wpAnyH_take (i := 28) (v := .pointer (some ⟨b0, 7, none⟩)) rfl (by kernel_rfl) (by kernel_rfl) (by kernel_rfl) (fun _ _ _ h => h) (Or.inl ⟨by kernel_rfl, fun w9 h9 => ?_⟩) HS1.out ?_
                              · go_simp
                              refine wpAnyH_take (i := 29) (v := .int .i64 v.epoch) rfl (by kernel_rfl) (by kernel_rfl) (by kernel_rfl) (fun _ _ _ h => h) (Or.inl ⟨by kernel_rfl, fun w9 h9 => ?_⟩) HS1.out ?_
                              · obtain ⟨hlg, hbx⟩ := h9; have z0 := hlg.cel 0 _ rfl; have z1 := hlg.cel 1 _ rfl; have z2 := hlg.cel 2 _ rfl; have z3 := hlg.cel 3 _ rfl; have z4 := hlg.cel 4 _ rfl; have z5 := hlg.cel 5 _ rfl; have z6 := hlg.cel 6 _ rfl; have z7 := hlg.cel 7 _ rfl; have x1 := hbx.cel 1 _ rfl; have x2 := hbx.cel 2 _ rfl; go_simp
                              refine wpAnyH_take (i := 30) (v := .bool false) rfl (by kernel_rfl) (by kernel_rfl) (by kernel_rfl) (fun _ _ _ h => h) (Or.inl ⟨by kernel_rfl, fun w9 h9 => ?_⟩) HS1.out ?_
                              · go_simp; all_goals omega
                              refine wpAnyH_take (i := 31) (v := .bool false) rfl (by kernel_rfl) (by kernel_rfl) (by kernel_rfl) (fun _ _ _ h => h) (Or.inl ⟨by kernel_rfl, fun w9 h9 => ?_⟩) HS1.out ?_
                              · go_simp
                              refine wpAnyH_done (by kernel_rfl) ?_ _
                              go_simp
                              have z6 := HS1.out.1.cel 6 _ rfl
                              have zl := HS1.out.1.lt
                              cases hno : v.node.toList.isEmpty
                              rotate_left
                              · have E4 : Hid _ := HG.out (by rw [HSY.out, HNB.out, hno]; rfl)
                                clear HG HB2 HSY HNB
                                go_wp2
                                exact ⟨⟨1, hlt, by go_num, E4.out, HS1.out.2⟩, by simp [intOf]; omega⟩
                              have HSY2 : Hid (SY = (decide (0 ≤ ndX s v.node) && decide (hlV s (ndX s v.node).toNat v = 0))) := (show SY = _ by rw [HSY.out, HNB.out, hno, Bool.false_or])
                              clear HSY HNB
                              have x0 := HS1.out.2.cel 0 _ rfl
                              have x1 := HS1.out.2.cel 1 _ rfl
                              have x2 := HS1.out.2.cel 2 _ rfl
                              have x3 := HS1.out.2.cel 3 _ rfl
                              have x4 := HS1.out.2.cel 4 _ rfl
                              have xl := HS1.out.2.lt
                              go_upto_region 11 with (go_at_call 28; refine Calls.mono (HND.out _ _ HS1.out.2.aft) ?_; rintro e u2 ⟨rfl, hb2⟩)
                              have HY2 : Hid (LG w u2 bb #[.slice an s.nodes.length kn, .slice (some ⟨g, o, none⟩) s.vms.length kv, .slice ae s.tenants.length ke, .int .i64 s.over, .int .i64 s.time] 37) := HS1.out.2.step hb2
                              have HW2 : Hid (LG w u2 b0 #[.string v.name, .int .i64 v.tenant, .int .i64 v.cpu, .int .i64 v.mem, .int .i64 v.zone, .int .i64 v.apart, .string v.node, .int .i64 v.epoch] 71) := HS1.out.1.step hb2
                              clear hb2 HS1 HX2 HZ2 x0 x1 x2 x3 x4 xl z6 zl
                              have x0 := HY2.out.cel 0 _ rfl
                              have x1 := HY2.out.cel 1 _ rfl
                              have x2 := HY2.out.cel 2 _ rfl
                              have x3 := HY2.out.cel 3 _ rfl
                              have x4 := HY2.out.cel 4 _ rfl
                              have xl := HY2.out.lt
                              have z0 := HW2.out.cel 0 _ rfl
                              have z1 := HW2.out.cel 1 _ rfl
                              have z2 := HW2.out.cel 2 _ rfl
                              have z3 := HW2.out.cel 3 _ rfl
                              have z4 := HW2.out.cel 4 _ rfl
                              have z5 := HW2.out.cel 5 _ rfl
                              have z6 := HW2.out.cel 6 _ rfl
                              have z7 := HW2.out.cel 7 _ rfl
                              have zl := HW2.out.lt
                              rcases ndX_or s v.node with ⟨hx, _⟩ | ⟨q, hq, hx, _⟩
                              · have E4 : Hid (V = 1) := HB2.out (by rw [HSY2.out, hx]; rfl)
                                clear HG HB2 HSY2
                                rw [hx]
                                go_wp2
                                go_ret
                                exact ⟨ret_int E4.out.symm, hbb ▸ HY2.out.bel⟩
                              · have HSY3 : Hid (SY = decide (hlV s q v = 0)) := (show SY = _ by rw [HSY2.out, hx, decide_eq_true (show (0 : Int) ≤ (q : Int) by omega), Bool.true_and]; rfl)
                                have HH : Hid (∀ u, Aft w u → Calls Tryz.prog 29 #[.agg #[.slice an s.nodes.length kn, .slice (some ⟨g, o, none⟩) s.vms.length kv, .slice ae s.tenants.length ke, .int .i64 s.over, .int .i64 s.time], .int .i64 (q : Int), .agg #[.string v.name, .int .i64 v.tenant, .int .i64 v.cpu, .int .i64 v.mem, .int .i64 v.zone, .int .i64 v.apart, .string v.node, .int .i64 v.epoch]] u fun e w' => e = .returned (.int .i64 (hlV s q v)) ∧ Below u.heap.size u w') := fun u hu => HHO.out u q v hu hq
                                clear HSY2 HHO
                                rw [hx]
                                clear hx
                                generalize hlV s q v = HV at *
                                have hq0 : (0 : Int) ≤ (q : Int) := by omega
                                have hq1 : decide ((q : Int) < 0) = false := decide_eq_false (by omega)
                                cases hh : (HV != 0)
                                · have E4 : Hid _ := HG.out (by rw [HSY3.out]; simpa using hh)
                                  clear HG HB2 HSY3
                                  go_wp2_with (go_at_call 29; refine Calls.mono (HH.out _ HY2.out.aft) ?_; rintro e u3 ⟨rfl, hb3⟩; have HY3 : Hid (LG w u3 bb #[.slice an s.nodes.length kn, .slice (some ⟨g, o, none⟩) s.vms.length kv, .slice ae s.tenants.length ke, .int .i64 s.over, .int .i64 s.time] 37) := HY2.out.step hb3; clear hb3)
                                  exact ⟨⟨1, hlt, by go_num, E4.out, HY3.out⟩, by simp [intOf]; omega⟩
                                · have E4 : Hid (V = 1) := HB2.out (by rw [HSY3.out]; simpa using hh)
                                  clear HG HB2 HSY3
                                  go_wp2_with (go_at_call 29; refine Calls.mono (HH.out _ HY2.out.aft) ?_; rintro e u3 ⟨rfl, hb3⟩; have HY3 : Hid (LG w u3 bb #[.slice an s.nodes.length kn, .slice (some ⟨g, o, none⟩) s.vms.length kv, .slice ae s.tenants.length ke, .int .i64 s.over, .int .i64 s.time] 37) := HY2.out.step hb3; clear hb3)
                                  go_ret
                                  exact ⟨ret_int E4.out.symm, hbb ▸ HY3.out.bel⟩
                            · skip
                              have E2 : Hid (V = 1) := HBAD.out (HEK.out.trans (by rw [HE.out]; have r1 := of_decide_eq_false q1; have r2 := of_decide_eq_true q2; simp; try omega))
                              clear HS HEK HBAD HE HALL HSY HNB
                              have HSB : Hid ((fun w' => (LG w w' b0 #[.string v.name, .int .i64 v.tenant, .int .i64 v.cpu, .int .i64 v.mem, .int .i64 v.zone, .int .i64 v.apart, .string v.node, .int .i64 v.epoch] 71) ∧ (LG w w' bb #[.slice an s.nodes.length kn, .slice (some ⟨g, o, none⟩) s.vms.length kv, .slice ae s.tenants.length ke, .int .i64 s.over, .int .i64 s.time] 37)) u0.drew) := ⟨HZ2.out.drew, HX2.out.drew⟩
                              refine wp_region_held (S := fun w' => (LG w w' b0 #[.string v.name, .int .i64 v.tenant, .int .i64 v.cpu, .int .i64 v.mem, .int .i64 v.zone, .int .i64 v.apart, .string v.node, .int .i64 v.epoch] 71) ∧ (LG w w' bb #[.slice an s.nodes.length kn, .slice (some ⟨g, o, none⟩) s.vms.length kv, .slice ae s.tenants.length ke, .int .i64 s.over, .int .i64 s.time] 37)) (by kernel_rfl) ?_
                              change wpAnyH _ _ _ _ _ _ _ _ (World.drew _)
                              refine wpAnyH_take (i := 0) (v := .agg #[.string v.name, .int .i64 v.tenant, .int .i64 v.cpu, .int .i64 v.mem, .int .i64 v.zone, .int .i64 v.apart, .string v.node, .int .i64 v.epoch]) rfl (by kernel_rfl) (by kernel_rfl) (by kernel_rfl) (fun _ _ _ h => h) (Or.inl ⟨by kernel_rfl, fun w9 h9 => ?_⟩) HSB.out ?_
                              · obtain ⟨hlg, hbx⟩ := h9; have z0 := hlg.cel 0 _ rfl; have z1 := hlg.cel 1 _ rfl; have z2 := hlg.cel 2 _ rfl; have z3 := hlg.cel 3 _ rfl; have z4 := hlg.cel 4 _ rfl; have z5 := hlg.cel 5 _ rfl; have z6 := hlg.cel 6 _ rfl; have z7 := hlg.cel 7 _ rfl; have x1 := hbx.cel 1 _ rfl; have x2 := hbx.cel 2 _ rfl; go_simp
                              refine wpAnyH_take (i := 1) (v := .pointer (some ⟨bb, 2, none⟩)) rfl (by kernel_rfl) (by kernel_rfl) (by kernel_rfl) (fun _ _ _ h => h) (Or.inl ⟨by kernel_rfl, fun w9 h9 => ?_⟩) HSB.out ?_
                              · go_simp
                              refine wpAnyH_take (i := 2) (v := .slice ae s.tenants.length ke) rfl (by kernel_rfl) (by kernel_rfl) (by kernel_rfl) (fun _ _ _ h => h) (Or.inl ⟨by kernel_rfl, fun w9 h9 => ?_⟩) HSB.out ?_
                              · obtain ⟨hlg, hbx⟩ := h9; have z0 := hlg.cel 0 _ rfl; have z1 := hlg.cel 1 _ rfl; have z2 := hlg.cel 2 _ rfl; have z3 := hlg.cel 3 _ rfl; have z4 := hlg.cel 4 _ rfl; have z5 := hlg.cel 5 _ rfl; have z6 := hlg.cel 6 _ rfl; have z7 := hlg.cel 7 _ rfl; have x1 := hbx.cel 1 _ rfl; have x2 := hbx.cel 2 _ rfl; go_simp
                              refine wpAnyH_take (i := 3) (v := .int .i64 (s.tenants.length : Nat)) rfl (by kernel_rfl) (by kernel_rfl) (by kernel_rfl) (fun _ _ _ h => h) (Or.inl ⟨by kernel_rfl, fun w9 h9 => ?_⟩) HSB.out ?_
                              · go_simp
                              refine held_one 4 (by kernel_rfl) rfl (by kernel_rfl) fun K hK => ?_
                              go_simp
                              go_wp2_with (go_at_call 27; refine Calls.mono (HV1.out _) ?_; rintro e u1 ⟨rfl, hb1⟩; have HS1 : Hid ((fun w' => (LG w w' b0 #[.string v.name, .int .i64 v.tenant, .int .i64 v.cpu, .int .i64 v.mem, .int .i64 v.zone, .int .i64 v.apart, .string v.node, .int .i64 v.epoch] 71) ∧ (LG w w' bb #[.slice an s.nodes.length kn, .slice (some ⟨g, o, none⟩) s.vms.length kv, .slice ae s.tenants.length ke, .int .i64 s.over, .int .i64 s.time] 37)) u1) := ⟨HSB.out.1.step hb1, HSB.out.2.step hb1⟩; clear hb1)
                              refine hK _ _ HS1.out ?_
                              clear hK K
                              refine wpAnyH_take (i := 5) (v := .bool false) rfl (by kernel_rfl) (by kernel_rfl) (by kernel_rfl) (fun _ _ _ h => h) (Or.inl ⟨by kernel_rfl, fun w9 h9 => ?_⟩) HS1.out ?_
                              · go_simp
                              refine wpAnyH_take (i := 6) (v := .bool false) rfl (by kernel_rfl) (by kernel_rfl) (by kernel_rfl) (fun _ _ _ h => h) (Or.inl ⟨by kernel_rfl, fun w9 h9 => ?_⟩) HS1.out ?_
                              · go_simp
                              refine wpAnyH_take (i := 7) (v := .int .i64 ((0 : Nat) : Int)) rfl (by kernel_rfl) (by kernel_rfl) (by kernel_rfl) (fun _ _ _ h => h) (Or.inl ⟨by kernel_rfl, fun w9 h9 => ?_⟩) HS1.out ?_
                              · go_simp
                              refine wpAnyH_take (i := 8) (v := .bool false) rfl (by kernel_rfl) (by kernel_rfl) (by kernel_rfl) (fun _ _ _ h => h) (Or.inl ⟨by kernel_rfl, fun w9 h9 => ?_⟩) HS1.out ?_
                              · go_simp; all_goals omega
                              refine wpAnyH_take (i := 9) (v := .bool false) rfl (by kernel_rfl) (by kernel_rfl) (by kernel_rfl) (fun _ _ _ h => h) (Or.inl ⟨by kernel_rfl, fun w9 h9 => ?_⟩) HS1.out ?_
                              · go_simp
                              refine wpAnyH_take (i := 10) (v := undef) rfl (by kernel_rfl) (by kernel_rfl) (by kernel_rfl) (fun _ _ _ h => h) (Or.inr ⟨by kernel_rfl, rfl⟩) HS1.out ?_
                              refine wpAnyH_take (i := 11) (v := undef) rfl (by kernel_rfl) (by kernel_rfl) (by kernel_rfl) (fun _ _ _ h => h) (Or.inr ⟨by kernel_rfl, rfl⟩) HS1.out ?_
                              refine wpAnyH_take (i := 12) (v := undef) rfl (by kernel_rfl) (by kernel_rfl) (by kernel_rfl) (fun _ _ _ h => h) (Or.inr ⟨by kernel_rfl, rfl⟩) HS1.out ?_
                              refine wpAnyH_take (i := 13) (v := undef) rfl (by kernel_rfl) (by kernel_rfl) (by kernel_rfl) (fun _ _ _ h => h) (Or.inr ⟨by kernel_rfl, rfl⟩) HS1.out ?_
                              refine wpAnyH_take (i := 14) (v := undef) rfl (by kernel_rfl) (by kernel_rfl) (by kernel_rfl) (fun _ _ _ h => h) (Or.inr ⟨by kernel_rfl, rfl⟩) HS1.out ?_
                              refine wpAnyH_take (i := 15) (v := undef) rfl (by kernel_rfl) (by kernel_rfl) (by kernel_rfl) (fun _ _ _ h => h) (Or.inr ⟨by kernel_rfl, rfl⟩) HS1.out ?_
                              refine wpAnyH_take (i := 16) (v := undef) rfl (by kernel_rfl) (by kernel_rfl) (by kernel_rfl) (fun _ _ _ h => h) (Or.inr ⟨by kernel_rfl, rfl⟩) HS1.out ?_
                              refine wpAnyH_take (i := 17) (v := undef) rfl (by kernel_rfl) (by kernel_rfl) (by kernel_rfl) (fun _ _ _ h => h) (Or.inr ⟨by kernel_rfl, rfl⟩) HS1.out ?_
                              refine wpAnyH_take (i := 18) (v := undef) rfl (by kernel_rfl) (by kernel_rfl) (by kernel_rfl) (fun _ _ _ h => h) (Or.inr ⟨by kernel_rfl, rfl⟩) HS1.out ?_
                              refine wpAnyH_take (i := 19) (v := undef) rfl (by kernel_rfl) (by kernel_rfl) (by kernel_rfl) (fun _ _ _ h => h) (Or.inr ⟨by kernel_rfl, rfl⟩) HS1.out ?_
                              refine wpAnyH_take (i := 20) (v := .bool false) rfl (by kernel_rfl) (by kernel_rfl) (by kernel_rfl) (fun _ _ _ h => h) (Or.inl ⟨by kernel_rfl, fun w9 h9 => ?_⟩) HS1.out ?_
                              · go_simp
                              refine wpAnyH_take (i := 21) (v := .bool false) rfl (by kernel_rfl) (by kernel_rfl) (by kernel_rfl) (fun _ _ _ h => h) (Or.inl ⟨by kernel_rfl, fun w9 h9 => ?_⟩) HS1.out ?_
                              · go_simp
                              refine wpAnyH_take (i := 22) (v := .bool false) rfl (by kernel_rfl) (by kernel_rfl) (by kernel_rfl) (fun _ _ _ h => h) (Or.inl ⟨by kernel_rfl, fun w9 h9 => ?_⟩) HS1.out ?_
                              · go_simp
                              refine wpAnyH_take (i := 23) (v := .pointer (some ⟨b0, 7, none⟩)) rfl (by kernel_rfl) (by kernel_rfl) (by kernel_rfl) (fun _ _ _ h => h) (Or.inl ⟨by kernel_rfl, fun w9 h9 => ?_⟩) HS1.out ?_
                              · go_simp
                              refine wpAnyH_take (i := 24) (v := .int .i64 v.epoch) rfl (by kernel_rfl) (by kernel_rfl) (by kernel_rfl) (fun _ _ _ h => h) (Or.inl ⟨by kernel_rfl, fun w9 h9 => ?_⟩) HS1.out ?_
                              · obtain ⟨hlg, hbx⟩ := h9; have z0 := hlg.cel 0 _ rfl; have z1 := hlg.cel 1 _ rfl; have z2 := hlg.cel 2 _ rfl; have z3 := hlg.cel 3 _ rfl; have z4 := hlg.cel 4 _ rfl; have z5 := hlg.cel 5 _ rfl; have z6 := hlg.cel 6 _ rfl; have z7 := hlg.cel 7 _ rfl; have x1 := hbx.cel 1 _ rfl; have x2 := hbx.cel 2 _ rfl; go_simp
                              refine wpAnyH_take (i := 25) (v := .bool false) rfl (by kernel_rfl) (by kernel_rfl) (by kernel_rfl) (fun _ _ _ h => h) (Or.inl ⟨by kernel_rfl, fun w9 h9 => ?_⟩) HS1.out ?_
                              · go_simp; all_goals omega
                              refine wpAnyH_take (i := 26) (v := .bool false) rfl (by kernel_rfl) (by kernel_rfl) (by kernel_rfl) (fun _ _ _ h => h) (Or.inl ⟨by kernel_rfl, fun w9 h9 => ?_⟩) HS1.out ?_
                              · go_simp
                              refine wpAnyH_take (i := 27) (v := .bool false) rfl (by kernel_rfl) (by kernel_rfl) (by kernel_rfl) (fun _ _ _ h => h) (Or.inl ⟨by kernel_rfl, fun w9 h9 => ?_⟩) HS1.out ?_
                              · go_simp
                              refine wpAnyH_take (i := 28) (v := .pointer (some ⟨b0, 7, none⟩)) rfl (by kernel_rfl) (by kernel_rfl) (by kernel_rfl) (fun _ _ _ h => h) (Or.inl ⟨by kernel_rfl, fun w9 h9 => ?_⟩) HS1.out ?_
                              · go_simp
                              refine wpAnyH_take (i := 29) (v := .int .i64 v.epoch) rfl (by kernel_rfl) (by kernel_rfl) (by kernel_rfl) (fun _ _ _ h => h) (Or.inl ⟨by kernel_rfl, fun w9 h9 => ?_⟩) HS1.out ?_
                              · obtain ⟨hlg, hbx⟩ := h9; have z0 := hlg.cel 0 _ rfl; have z1 := hlg.cel 1 _ rfl; have z2 := hlg.cel 2 _ rfl; have z3 := hlg.cel 3 _ rfl; have z4 := hlg.cel 4 _ rfl; have z5 := hlg.cel 5 _ rfl; have z6 := hlg.cel 6 _ rfl; have z7 := hlg.cel 7 _ rfl; have x1 := hbx.cel 1 _ rfl; have x2 := hbx.cel 2 _ rfl; go_simp
                              refine wpAnyH_take (i := 30) (v := .bool true) rfl (by kernel_rfl) (by kernel_rfl) (by kernel_rfl) (fun _ _ _ h => h) (Or.inl ⟨by kernel_rfl, fun w9 h9 => ?_⟩) HS1.out ?_
                              · go_simp; all_goals omega
                              refine wpAnyH_take (i := 31) (v := .bool true) rfl (by kernel_rfl) (by kernel_rfl) (by kernel_rfl) (fun _ _ _ h => h) (Or.inl ⟨by kernel_rfl, fun w9 h9 => ?_⟩) HS1.out ?_
                              · go_simp
                              refine wpAnyH_done (by kernel_rfl) ?_ _
                              go_simp
                              go_wp2
                              go_ret
                              exact ⟨ret_int E2.out.symm, hbb ▸ HS1.out.2.bel⟩
                          · skip
                            have E2 : Hid (V = 1) := HBAD.out (HEK.out.trans (by rw [HE.out]; have r1 := of_decide_eq_true q1; simp; try omega))
                            clear HS HEK HBAD HE HALL HSY HNB
                            have HSB : Hid ((fun w' => (LG w w' b0 #[.string v.name, .int .i64 v.tenant, .int .i64 v.cpu, .int .i64 v.mem, .int .i64 v.zone, .int .i64 v.apart, .string v.node, .int .i64 v.epoch] 71) ∧ (LG w w' bb #[.slice an s.nodes.length kn, .slice (some ⟨g, o, none⟩) s.vms.length kv, .slice ae s.tenants.length ke, .int .i64 s.over, .int .i64 s.time] 37)) u0.drew) := ⟨HZ2.out.drew, HX2.out.drew⟩
                            refine wp_region_held (S := fun w' => (LG w w' b0 #[.string v.name, .int .i64 v.tenant, .int .i64 v.cpu, .int .i64 v.mem, .int .i64 v.zone, .int .i64 v.apart, .string v.node, .int .i64 v.epoch] 71) ∧ (LG w w' bb #[.slice an s.nodes.length kn, .slice (some ⟨g, o, none⟩) s.vms.length kv, .slice ae s.tenants.length ke, .int .i64 s.over, .int .i64 s.time] 37)) (by kernel_rfl) ?_
                            change wpAnyH _ _ _ _ _ _ _ _ (World.drew _)
                            refine wpAnyH_take (i := 0) (v := .agg #[.string v.name, .int .i64 v.tenant, .int .i64 v.cpu, .int .i64 v.mem, .int .i64 v.zone, .int .i64 v.apart, .string v.node, .int .i64 v.epoch]) rfl (by kernel_rfl) (by kernel_rfl) (by kernel_rfl) (fun _ _ _ h => h) (Or.inl ⟨by kernel_rfl, fun w9 h9 => ?_⟩) HSB.out ?_
                            · obtain ⟨hlg, hbx⟩ := h9; have z0 := hlg.cel 0 _ rfl; have z1 := hlg.cel 1 _ rfl; have z2 := hlg.cel 2 _ rfl; have z3 := hlg.cel 3 _ rfl; have z4 := hlg.cel 4 _ rfl; have z5 := hlg.cel 5 _ rfl; have z6 := hlg.cel 6 _ rfl; have z7 := hlg.cel 7 _ rfl; have x1 := hbx.cel 1 _ rfl; have x2 := hbx.cel 2 _ rfl; go_simp
                            refine wpAnyH_take (i := 1) (v := .pointer (some ⟨bb, 2, none⟩)) rfl (by kernel_rfl) (by kernel_rfl) (by kernel_rfl) (fun _ _ _ h => h) (Or.inl ⟨by kernel_rfl, fun w9 h9 => ?_⟩) HSB.out ?_
                            · go_simp
                            refine wpAnyH_take (i := 2) (v := .slice ae s.tenants.length ke) rfl (by kernel_rfl) (by kernel_rfl) (by kernel_rfl) (fun _ _ _ h => h) (Or.inl ⟨by kernel_rfl, fun w9 h9 => ?_⟩) HSB.out ?_
                            · obtain ⟨hlg, hbx⟩ := h9; have z0 := hlg.cel 0 _ rfl; have z1 := hlg.cel 1 _ rfl; have z2 := hlg.cel 2 _ rfl; have z3 := hlg.cel 3 _ rfl; have z4 := hlg.cel 4 _ rfl; have z5 := hlg.cel 5 _ rfl; have z6 := hlg.cel 6 _ rfl; have z7 := hlg.cel 7 _ rfl; have x1 := hbx.cel 1 _ rfl; have x2 := hbx.cel 2 _ rfl; go_simp
                            refine wpAnyH_take (i := 3) (v := .int .i64 (s.tenants.length : Nat)) rfl (by kernel_rfl) (by kernel_rfl) (by kernel_rfl) (fun _ _ _ h => h) (Or.inl ⟨by kernel_rfl, fun w9 h9 => ?_⟩) HSB.out ?_
                            · go_simp
                            refine held_one 4 (by kernel_rfl) rfl (by kernel_rfl) fun K hK => ?_
                            go_simp
                            go_wp2_with (go_at_call 27; refine Calls.mono (HV1.out _) ?_; rintro e u1 ⟨rfl, hb1⟩; have HS1 : Hid ((fun w' => (LG w w' b0 #[.string v.name, .int .i64 v.tenant, .int .i64 v.cpu, .int .i64 v.mem, .int .i64 v.zone, .int .i64 v.apart, .string v.node, .int .i64 v.epoch] 71) ∧ (LG w w' bb #[.slice an s.nodes.length kn, .slice (some ⟨g, o, none⟩) s.vms.length kv, .slice ae s.tenants.length ke, .int .i64 s.over, .int .i64 s.time] 37)) u1) := ⟨HSB.out.1.step hb1, HSB.out.2.step hb1⟩; clear hb1)
                            refine hK _ _ HS1.out ?_
                            clear hK K
                            refine wpAnyH_take (i := 5) (v := .bool false) rfl (by kernel_rfl) (by kernel_rfl) (by kernel_rfl) (fun _ _ _ h => h) (Or.inl ⟨by kernel_rfl, fun w9 h9 => ?_⟩) HS1.out ?_
                            · go_simp
                            refine wpAnyH_take (i := 6) (v := .bool false) rfl (by kernel_rfl) (by kernel_rfl) (by kernel_rfl) (fun _ _ _ h => h) (Or.inl ⟨by kernel_rfl, fun w9 h9 => ?_⟩) HS1.out ?_
                            · go_simp
                            refine wpAnyH_take (i := 7) (v := .int .i64 ((0 : Nat) : Int)) rfl (by kernel_rfl) (by kernel_rfl) (by kernel_rfl) (fun _ _ _ h => h) (Or.inl ⟨by kernel_rfl, fun w9 h9 => ?_⟩) HS1.out ?_
                            · go_simp
                            refine wpAnyH_take (i := 8) (v := .bool false) rfl (by kernel_rfl) (by kernel_rfl) (by kernel_rfl) (fun _ _ _ h => h) (Or.inl ⟨by kernel_rfl, fun w9 h9 => ?_⟩) HS1.out ?_
                            · go_simp; all_goals omega
                            refine wpAnyH_take (i := 9) (v := .bool false) rfl (by kernel_rfl) (by kernel_rfl) (by kernel_rfl) (fun _ _ _ h => h) (Or.inl ⟨by kernel_rfl, fun w9 h9 => ?_⟩) HS1.out ?_
                            · go_simp
                            refine wpAnyH_take (i := 10) (v := undef) rfl (by kernel_rfl) (by kernel_rfl) (by kernel_rfl) (fun _ _ _ h => h) (Or.inr ⟨by kernel_rfl, rfl⟩) HS1.out ?_
                            refine wpAnyH_take (i := 11) (v := undef) rfl (by kernel_rfl) (by kernel_rfl) (by kernel_rfl) (fun _ _ _ h => h) (Or.inr ⟨by kernel_rfl, rfl⟩) HS1.out ?_
                            refine wpAnyH_take (i := 12) (v := undef) rfl (by kernel_rfl) (by kernel_rfl) (by kernel_rfl) (fun _ _ _ h => h) (Or.inr ⟨by kernel_rfl, rfl⟩) HS1.out ?_
                            refine wpAnyH_take (i := 13) (v := undef) rfl (by kernel_rfl) (by kernel_rfl) (by kernel_rfl) (fun _ _ _ h => h) (Or.inr ⟨by kernel_rfl, rfl⟩) HS1.out ?_
                            refine wpAnyH_take (i := 14) (v := undef) rfl (by kernel_rfl) (by kernel_rfl) (by kernel_rfl) (fun _ _ _ h => h) (Or.inr ⟨by kernel_rfl, rfl⟩) HS1.out ?_
                            refine wpAnyH_take (i := 15) (v := undef) rfl (by kernel_rfl) (by kernel_rfl) (by kernel_rfl) (fun _ _ _ h => h) (Or.inr ⟨by kernel_rfl, rfl⟩) HS1.out ?_
                            refine wpAnyH_take (i := 16) (v := undef) rfl (by kernel_rfl) (by kernel_rfl) (by kernel_rfl) (fun _ _ _ h => h) (Or.inr ⟨by kernel_rfl, rfl⟩) HS1.out ?_
                            refine wpAnyH_take (i := 17) (v := undef) rfl (by kernel_rfl) (by kernel_rfl) (by kernel_rfl) (fun _ _ _ h => h) (Or.inr ⟨by kernel_rfl, rfl⟩) HS1.out ?_
                            refine wpAnyH_take (i := 18) (v := undef) rfl (by kernel_rfl) (by kernel_rfl) (by kernel_rfl) (fun _ _ _ h => h) (Or.inr ⟨by kernel_rfl, rfl⟩) HS1.out ?_
                            refine wpAnyH_take (i := 19) (v := undef) rfl (by kernel_rfl) (by kernel_rfl) (by kernel_rfl) (fun _ _ _ h => h) (Or.inr ⟨by kernel_rfl, rfl⟩) HS1.out ?_
                            refine wpAnyH_take (i := 20) (v := .bool false) rfl (by kernel_rfl) (by kernel_rfl) (by kernel_rfl) (fun _ _ _ h => h) (Or.inl ⟨by kernel_rfl, fun w9 h9 => ?_⟩) HS1.out ?_
                            · go_simp
                            refine wpAnyH_take (i := 21) (v := .bool false) rfl (by kernel_rfl) (by kernel_rfl) (by kernel_rfl) (fun _ _ _ h => h) (Or.inl ⟨by kernel_rfl, fun w9 h9 => ?_⟩) HS1.out ?_
                            · go_simp
                            refine wpAnyH_take (i := 22) (v := .bool false) rfl (by kernel_rfl) (by kernel_rfl) (by kernel_rfl) (fun _ _ _ h => h) (Or.inl ⟨by kernel_rfl, fun w9 h9 => ?_⟩) HS1.out ?_
                            · go_simp
                            refine wpAnyH_take (i := 23) (v := .pointer (some ⟨b0, 7, none⟩)) rfl (by kernel_rfl) (by kernel_rfl) (by kernel_rfl) (fun _ _ _ h => h) (Or.inl ⟨by kernel_rfl, fun w9 h9 => ?_⟩) HS1.out ?_
                            · go_simp
                            refine wpAnyH_take (i := 24) (v := .int .i64 v.epoch) rfl (by kernel_rfl) (by kernel_rfl) (by kernel_rfl) (fun _ _ _ h => h) (Or.inl ⟨by kernel_rfl, fun w9 h9 => ?_⟩) HS1.out ?_
                            · obtain ⟨hlg, hbx⟩ := h9; have z0 := hlg.cel 0 _ rfl; have z1 := hlg.cel 1 _ rfl; have z2 := hlg.cel 2 _ rfl; have z3 := hlg.cel 3 _ rfl; have z4 := hlg.cel 4 _ rfl; have z5 := hlg.cel 5 _ rfl; have z6 := hlg.cel 6 _ rfl; have z7 := hlg.cel 7 _ rfl; have x1 := hbx.cel 1 _ rfl; have x2 := hbx.cel 2 _ rfl; go_simp
                            refine wpAnyH_take (i := 25) (v := .bool true) rfl (by kernel_rfl) (by kernel_rfl) (by kernel_rfl) (fun _ _ _ h => h) (Or.inl ⟨by kernel_rfl, fun w9 h9 => ?_⟩) HS1.out ?_
                            · go_simp; all_goals omega
                            refine wpAnyH_take (i := 26) (v := .bool true) rfl (by kernel_rfl) (by kernel_rfl) (by kernel_rfl) (fun _ _ _ h => h) (Or.inl ⟨by kernel_rfl, fun w9 h9 => ?_⟩) HS1.out ?_
                            · go_simp
                            refine wpAnyH_take (i := 27) (v := .bool true) rfl (by kernel_rfl) (by kernel_rfl) (by kernel_rfl) (fun _ _ _ h => h) (Or.inl ⟨by kernel_rfl, fun w9 h9 => ?_⟩) HS1.out ?_
                            · go_simp
                            refine wpAnyH_take (i := 28) (v := undef) rfl (by kernel_rfl) (by kernel_rfl) (by kernel_rfl) (fun _ _ _ h => h) (Or.inr ⟨by kernel_rfl, rfl⟩) HS1.out ?_
                            refine wpAnyH_take (i := 29) (v := undef) rfl (by kernel_rfl) (by kernel_rfl) (by kernel_rfl) (fun _ _ _ h => h) (Or.inr ⟨by kernel_rfl, rfl⟩) HS1.out ?_
                            refine wpAnyH_take (i := 30) (v := undef) rfl (by kernel_rfl) (by kernel_rfl) (by kernel_rfl) (fun _ _ _ h => h) (Or.inr ⟨by kernel_rfl, rfl⟩) HS1.out ?_
                            refine wpAnyH_take (i := 31) (v := .bool true) rfl (by kernel_rfl) (by kernel_rfl) (by kernel_rfl) (fun _ _ _ h => h) (Or.inl ⟨by kernel_rfl, fun w9 h9 => ?_⟩) HS1.out ?_
                            · go_simp
                            refine wpAnyH_done (by kernel_rfl) ?_ _
                            go_simp
                            go_wp2
                            go_ret
                            exact ⟨ret_int E2.out.symm, hbb ▸ HS1.out.2.bel⟩
                      | j + 1, hlt, hk, hk0, hk1, HALL, HS, HBAD =>
                        obtain ⟨d0, d1, d2, d3, d4, d5, d6, d7⟩ := hc.below HB.out hg (j + 1) hlt
                        obtain ⟨y0, _⟩ := hc.below HB.out hg j (by omega)
                        have HEK : Hid (vkB s (j + 1) = (vmB s.tenants.length s.vms[j + 1] && tlt s.vms[j].name s.vms[j + 1].name && epB s.vms[j + 1] && styB s s.vms[j + 1])) := vkB_s hlt
                        generalize s.vms[j] = y at *
                        have hj1 : ((j + 1 : Nat) : Int) - 1 = (j : Int) := by omega
                        have hj2 : (j : Int) < (s.vms.length : Int) := by omega
                        have hj3 : (0 : Int) ≤ (j : Int) := by omega
                        have hj4 : decide ((0 : Int) < ((j + 1 : Nat) : Int)) = true := decide_eq_true (by omega)
                        have hj5 : IntKind.i64.wrap (j : Int) = (j : Int) := by rw [IntKind.wrap_i64]; omega
                        generalize s.vms[j + 1] = v at *
                        have HE : Hid (epB v = (decide (0 ≤ v.epoch) && decide (v.epoch ≤ 1099511627776))) := rfl
                        generalize epB v = EP at *
                        have HSY : Hid (styB s v = (noB v || (decide (0 ≤ ndX s v.node) && decide (hlV s (ndX s v.node).toNat v = 0)))) := rfl
                        generalize styB s v = SY at *
                        have HNB : Hid (noB v = v.node.toList.isEmpty) := noB_eq v
                        generalize noB v = NO at *
                        have HIV1 := HIV.out
                        have HV1 : Hid (∀ u, Calls Tryz.prog 27 #[.agg #[.string v.name, .int .i64 v.tenant, .int .i64 v.cpu, .int .i64 v.mem, .int .i64 v.zone, .int .i64 v.apart, .string v.node, .int .i64 v.epoch], .int .i64 (s.tenants.length : Nat)] u fun e w' => e = .returned (.bool (vmB s.tenants.length v)) ∧ Below u.heap.size u w') := fun u => HIV1 u v
                        clear HIV1
                        generalize vmB s.tenants.length v = VB at *
                        have hbl : Op.bytesLess y.name.toList v.name.toList = tlt y.name v.name := rfl
                        generalize tlt y.name v.name = TL at *
                        go_upto_region 7 with fail
                        have HX2 : Hid (LG w (wr.alloc (.cells #[.string v.name, .int .i64 v.tenant, .int .i64 v.cpu, .int .i64 v.mem, .int .i64 v.zone, .int .i64 v.apart, .string v.node, .int .i64 v.epoch] 71)) bb #[.slice an s.nodes.length kn, .slice (some ⟨g, o, none⟩) s.vms.length kv, .slice ae s.tenants.length ke, .int .i64 s.over, .int .i64 s.time] 37) := HX.out.next
                        have HZ2 : Hid (LG w (wr.alloc (.cells #[.string v.name, .int .i64 v.tenant, .int .i64 v.cpu, .int .i64 v.mem, .int .i64 v.zone, .int .i64 v.apart, .string v.node, .int .i64 v.epoch] 71)) wr.heap.size #[.string v.name, .int .i64 v.tenant, .int .i64 v.cpu, .int .i64 v.mem, .int .i64 v.zone, .int .i64 v.apart, .string v.node, .int .i64 v.epoch] 71) := LG.mk2 HB.out
                        have y1 : (wr.alloc (.cells #[.string v.name, .int .i64 v.tenant, .int .i64 v.cpu, .int .i64 v.mem, .int .i64 v.zone, .int .i64 v.apart, .string v.node, .int .i64 v.epoch] 71)).cell? ⟨g, o + j * 8, none⟩ = _ := ((bx1 wr _).cell (p := ⟨g, o + j * 8, none⟩) hgw).trans y0
                        have gl : g < (wr.alloc (.cells #[.string v.name, .int .i64 v.tenant, .int .i64 v.cpu, .int .i64 v.mem, .int .i64 v.zone, .int .i64 v.apart, .string v.node, .int .i64 v.epoch] 71)).heap.size := Nat.lt_of_lt_of_le hgw (bx1 wr _).size
                        clear d0 d1 d2 d3 d4 d5 d6 d7 hc c1 cl HX E1 HR HT HB hk0 hk1 y0
                        generalize (wr.alloc (.cells #[.string v.name, .int .i64 v.tenant, .int .i64 v.cpu, .int .i64 v.mem, .int .i64 v.zone, .int .i64 v.apart, .string v.node, .int .i64 v.epoch] 71)) = u0 at *
                        generalize wr.heap.size = b0 at *
                        cases VB
                        · skip
                          have E2 : Hid (V = 1) := HBAD.out (HEK.out.trans (by rw [HE.out]; simp; try omega))
                          clear HS HEK HBAD HE HALL HSY HNB
                          have HSB : Hid ((fun w' => (LG w w' b0 #[.string v.name, .int .i64 v.tenant, .int .i64 v.cpu, .int .i64 v.mem, .int .i64 v.zone, .int .i64 v.apart, .string v.node, .int .i64 v.epoch] 71) ∧ (LG w w' bb #[.slice an s.nodes.length kn, .slice (some ⟨g, o, none⟩) s.vms.length kv, .slice ae s.tenants.length ke, .int .i64 s.over, .int .i64 s.time] 37) ∧ w'.cell? ⟨g, o + j * 8, none⟩ = some (.string y.name) ∧ g < w'.heap.size) u0.drew) := ⟨HZ2.out.drew, HX2.out.drew, y1, gl⟩
                          refine wp_region_held (S := fun w' => (LG w w' b0 #[.string v.name, .int .i64 v.tenant, .int .i64 v.cpu, .int .i64 v.mem, .int .i64 v.zone, .int .i64 v.apart, .string v.node, .int .i64 v.epoch] 71) ∧ (LG w w' bb #[.slice an s.nodes.length kn, .slice (some ⟨g, o, none⟩) s.vms.length kv, .slice ae s.tenants.length ke, .int .i64 s.over, .int .i64 s.time] 37) ∧ w'.cell? ⟨g, o + j * 8, none⟩ = some (.string y.name) ∧ g < w'.heap.size) (by kernel_rfl) ?_
                          change wpAnyH _ _ _ _ _ _ _ _ (World.drew _)
                          refine wpAnyH_take (i := 0) (v := .agg #[.string v.name, .int .i64 v.tenant, .int .i64 v.cpu, .int .i64 v.mem, .int .i64 v.zone, .int .i64 v.apart, .string v.node, .int .i64 v.epoch]) rfl (by kernel_rfl) (by kernel_rfl) (by kernel_rfl) (fun _ _ _ h => h) (Or.inl ⟨by kernel_rfl, fun w9 h9 => ?_⟩) HSB.out ?_
                          · obtain ⟨hlg, hbx, y2, _⟩ := h9; have z0 := hlg.cel 0 _ rfl; have z1 := hlg.cel 1 _ rfl; have z2 := hlg.cel 2 _ rfl; have z3 := hlg.cel 3 _ rfl; have z4 := hlg.cel 4 _ rfl; have z5 := hlg.cel 5 _ rfl; have z6 := hlg.cel 6 _ rfl; have z7 := hlg.cel 7 _ rfl; have x1 := hbx.cel 1 _ rfl; have x2 := hbx.cel 2 _ rfl; go_simp
                          refine wpAnyH_take (i := 1) (v := .pointer (some ⟨bb, 2, none⟩)) rfl (by kernel_rfl) (by kernel_rfl) (by kernel_rfl) (fun _ _ _ h => h) (Or.inl ⟨by kernel_rfl, fun w9 h9 => ?_⟩) HSB.out ?_
                          · go_simp
                          refine wpAnyH_take (i := 2) (v := .slice ae s.tenants.length ke) rfl (by kernel_rfl) (by kernel_rfl) (by kernel_rfl) (fun _ _ _ h => h) (Or.inl ⟨by kernel_rfl, fun w9 h9 => ?_⟩) HSB.out ?_
                          · obtain ⟨hlg, hbx, y2, _⟩ := h9; have z0 := hlg.cel 0 _ rfl; have z1 := hlg.cel 1 _ rfl; have z2 := hlg.cel 2 _ rfl; have z3 := hlg.cel 3 _ rfl; have z4 := hlg.cel 4 _ rfl; have z5 := hlg.cel 5 _ rfl; have z6 := hlg.cel 6 _ rfl; have z7 := hlg.cel 7 _ rfl; have x1 := hbx.cel 1 _ rfl; have x2 := hbx.cel 2 _ rfl; go_simp
                          refine wpAnyH_take (i := 3) (v := .int .i64 (s.tenants.length : Nat)) rfl (by kernel_rfl) (by kernel_rfl) (by kernel_rfl) (fun _ _ _ h => h) (Or.inl ⟨by kernel_rfl, fun w9 h9 => ?_⟩) HSB.out ?_
                          · go_simp
                          refine held_one 4 (by kernel_rfl) rfl (by kernel_rfl) fun K hK => ?_
                          go_simp
                          go_wp2_with (go_at_call 27; refine Calls.mono (HV1.out _) ?_; rintro e u1 ⟨rfl, hb1⟩; have HS1 : Hid ((fun w' => (LG w w' b0 #[.string v.name, .int .i64 v.tenant, .int .i64 v.cpu, .int .i64 v.mem, .int .i64 v.zone, .int .i64 v.apart, .string v.node, .int .i64 v.epoch] 71) ∧ (LG w w' bb #[.slice an s.nodes.length kn, .slice (some ⟨g, o, none⟩) s.vms.length kv, .slice ae s.tenants.length ke, .int .i64 s.over, .int .i64 s.time] 37) ∧ w'.cell? ⟨g, o + j * 8, none⟩ = some (.string y.name) ∧ g < w'.heap.size) u1) := ⟨HSB.out.1.step hb1, HSB.out.2.1.step hb1, (hb1.cell (p := ⟨g, o + j * 8, none⟩) HSB.out.2.2.2).trans HSB.out.2.2.1, Nat.lt_of_lt_of_le HSB.out.2.2.2 hb1.size⟩; clear hb1)
                          refine hK _ _ HS1.out ?_
                          clear hK K
                          refine wpAnyH_take (i := 5) (v := .bool true) rfl (by kernel_rfl) (by kernel_rfl) (by kernel_rfl) (fun _ _ _ h => h) (Or.inl ⟨by kernel_rfl, fun w9 h9 => ?_⟩) HS1.out ?_
                          · go_simp
                          refine wpAnyH_take (i := 6) (v := .bool true) rfl (by kernel_rfl) (by kernel_rfl) (by kernel_rfl) (fun _ _ _ h => h) (Or.inl ⟨by kernel_rfl, fun w9 h9 => ?_⟩) HS1.out ?_
                          · go_simp
                          refine wpAnyH_take (i := 7) (v := undef) rfl (by kernel_rfl) (by kernel_rfl) (by kernel_rfl) (fun _ _ _ h => h) (Or.inr ⟨by kernel_rfl, rfl⟩) HS1.out ?_
                          refine wpAnyH_take (i := 8) (v := undef) rfl (by kernel_rfl) (by kernel_rfl) (by kernel_rfl) (fun _ _ _ h => h) (Or.inr ⟨by kernel_rfl, rfl⟩) HS1.out ?_
                          refine wpAnyH_take (i := 9) (v := undef) rfl (by kernel_rfl) (by kernel_rfl) (by kernel_rfl) (fun _ _ _ h => h) (Or.inr ⟨by kernel_rfl, rfl⟩) HS1.out ?_
                          refine wpAnyH_take (i := 10) (v := undef) rfl (by kernel_rfl) (by kernel_rfl) (by kernel_rfl) (fun _ _ _ h => h) (Or.inr ⟨by kernel_rfl, rfl⟩) HS1.out ?_
                          refine wpAnyH_take (i := 11) (v := undef) rfl (by kernel_rfl) (by kernel_rfl) (by kernel_rfl) (fun _ _ _ h => h) (Or.inr ⟨by kernel_rfl, rfl⟩) HS1.out ?_
                          refine wpAnyH_take (i := 12) (v := undef) rfl (by kernel_rfl) (by kernel_rfl) (by kernel_rfl) (fun _ _ _ h => h) (Or.inr ⟨by kernel_rfl, rfl⟩) HS1.out ?_
                          refine wpAnyH_take (i := 13) (v := undef) rfl (by kernel_rfl) (by kernel_rfl) (by kernel_rfl) (fun _ _ _ h => h) (Or.inr ⟨by kernel_rfl, rfl⟩) HS1.out ?_
                          refine wpAnyH_take (i := 14) (v := undef) rfl (by kernel_rfl) (by kernel_rfl) (by kernel_rfl) (fun _ _ _ h => h) (Or.inr ⟨by kernel_rfl, rfl⟩) HS1.out ?_
                          refine wpAnyH_take (i := 15) (v := undef) rfl (by kernel_rfl) (by kernel_rfl) (by kernel_rfl) (fun _ _ _ h => h) (Or.inr ⟨by kernel_rfl, rfl⟩) HS1.out ?_
                          refine wpAnyH_take (i := 16) (v := undef) rfl (by kernel_rfl) (by kernel_rfl) (by kernel_rfl) (fun _ _ _ h => h) (Or.inr ⟨by kernel_rfl, rfl⟩) HS1.out ?_
                          refine wpAnyH_take (i := 17) (v := undef) rfl (by kernel_rfl) (by kernel_rfl) (by kernel_rfl) (fun _ _ _ h => h) (Or.inr ⟨by kernel_rfl, rfl⟩) HS1.out ?_
                          refine wpAnyH_take (i := 18) (v := undef) rfl (by kernel_rfl) (by kernel_rfl) (by kernel_rfl) (fun _ _ _ h => h) (Or.inr ⟨by kernel_rfl, rfl⟩) HS1.out ?_
                          refine wpAnyH_take (i := 19) (v := undef) rfl (by kernel_rfl) (by kernel_rfl) (by kernel_rfl) (fun _ _ _ h => h) (Or.inr ⟨by kernel_rfl, rfl⟩) HS1.out ?_
                          refine wpAnyH_take (i := 20) (v := undef) rfl (by kernel_rfl) (by kernel_rfl) (by kernel_rfl) (fun _ _ _ h => h) (Or.inr ⟨by kernel_rfl, rfl⟩) HS1.out ?_
                          refine wpAnyH_take (i := 21) (v := .bool true) rfl (by kernel_rfl) (by kernel_rfl) (by kernel_rfl) (fun _ _ _ h => h) (Or.inl ⟨by kernel_rfl, fun w9 h9 => ?_⟩) HS1.out ?_
                          · go_simp
                          refine wpAnyH_take (i := 22) (v := .bool true) rfl (by kernel_rfl) (by kernel_rfl) (by kernel_rfl) (fun _ _ _ h => h) (Or.inl ⟨by kernel_rfl, fun w9 h9 => ?_⟩) HS1.out ?_
                          · go_simp
                          refine wpAnyH_take (i := 23) (v := undef) rfl (by kernel_rfl) (by kernel_rfl) (by kernel_rfl) (fun _ _ _ h => h) (Or.inr ⟨by kernel_rfl, rfl⟩) HS1.out ?_
                          refine wpAnyH_take (i := 24) (v := undef) rfl (by kernel_rfl) (by kernel_rfl) (by kernel_rfl) (fun _ _ _ h => h) (Or.inr ⟨by kernel_rfl, rfl⟩) HS1.out ?_
                          refine wpAnyH_take (i := 25) (v := undef) rfl (by kernel_rfl) (by kernel_rfl) (by kernel_rfl) (fun _ _ _ h => h) (Or.inr ⟨by kernel_rfl, rfl⟩) HS1.out ?_
                          refine wpAnyH_take (i := 26) (v := .bool true) rfl (by kernel_rfl) (by kernel_rfl) (by kernel_rfl) (fun _ _ _ h => h) (Or.inl ⟨by kernel_rfl, fun w9 h9 => ?_⟩) HS1.out ?_
                          · go_simp
                          refine wpAnyH_take (i := 27) (v := .bool true) rfl (by kernel_rfl) (by kernel_rfl) (by kernel_rfl) (fun _ _ _ h => h) (Or.inl ⟨by kernel_rfl, fun w9 h9 => ?_⟩) HS1.out ?_
                          · go_simp
                          refine wpAnyH_take (i := 28) (v := undef) rfl (by kernel_rfl) (by kernel_rfl) (by kernel_rfl) (fun _ _ _ h => h) (Or.inr ⟨by kernel_rfl, rfl⟩) HS1.out ?_
                          refine wpAnyH_take (i := 29) (v := undef) rfl (by kernel_rfl) (by kernel_rfl) (by kernel_rfl) (fun _ _ _ h => h) (Or.inr ⟨by kernel_rfl, rfl⟩) HS1.out ?_
                          refine wpAnyH_take (i := 30) (v := undef) rfl (by kernel_rfl) (by kernel_rfl) (by kernel_rfl) (fun _ _ _ h => h) (Or.inr ⟨by kernel_rfl, rfl⟩) HS1.out ?_
                          refine wpAnyH_take (i := 31) (v := .bool true) rfl (by kernel_rfl) (by kernel_rfl) (by kernel_rfl) (fun _ _ _ h => h) (Or.inl ⟨by kernel_rfl, fun w9 h9 => ?_⟩) HS1.out ?_
                          · go_simp
                          refine wpAnyH_done (by kernel_rfl) ?_ _
                          go_simp
                          go_wp2
                          go_ret
                          exact ⟨ret_int E2.out.symm, hbb ▸ HS1.out.2.1.bel⟩
                        · skip
                          cases TL
                          · skip
                            have E2 : Hid (V = 1) := HBAD.out (HEK.out.trans (by rw [HE.out]; simp; try omega))
                            clear HS HEK HBAD HE HALL HSY HNB
                            have HSB : Hid ((fun w' => (LG w w' b0 #[.string v.name, .int .i64 v.tenant, .int .i64 v.cpu, .int .i64 v.mem, .int .i64 v.zone, .int .i64 v.apart, .string v.node, .int .i64 v.epoch] 71) ∧ (LG w w' bb #[.slice an s.nodes.length kn, .slice (some ⟨g, o, none⟩) s.vms.length kv, .slice ae s.tenants.length ke, .int .i64 s.over, .int .i64 s.time] 37) ∧ w'.cell? ⟨g, o + j * 8, none⟩ = some (.string y.name) ∧ g < w'.heap.size) u0.drew) := ⟨HZ2.out.drew, HX2.out.drew, y1, gl⟩
                            refine wp_region_held (S := fun w' => (LG w w' b0 #[.string v.name, .int .i64 v.tenant, .int .i64 v.cpu, .int .i64 v.mem, .int .i64 v.zone, .int .i64 v.apart, .string v.node, .int .i64 v.epoch] 71) ∧ (LG w w' bb #[.slice an s.nodes.length kn, .slice (some ⟨g, o, none⟩) s.vms.length kv, .slice ae s.tenants.length ke, .int .i64 s.over, .int .i64 s.time] 37) ∧ w'.cell? ⟨g, o + j * 8, none⟩ = some (.string y.name) ∧ g < w'.heap.size) (by kernel_rfl) ?_
                            change wpAnyH _ _ _ _ _ _ _ _ (World.drew _)
                            refine wpAnyH_take (i := 0) (v := .agg #[.string v.name, .int .i64 v.tenant, .int .i64 v.cpu, .int .i64 v.mem, .int .i64 v.zone, .int .i64 v.apart, .string v.node, .int .i64 v.epoch]) rfl (by kernel_rfl) (by kernel_rfl) (by kernel_rfl) (fun _ _ _ h => h) (Or.inl ⟨by kernel_rfl, fun w9 h9 => ?_⟩) HSB.out ?_
                            · obtain ⟨hlg, hbx, y2, _⟩ := h9; have z0 := hlg.cel 0 _ rfl; have z1 := hlg.cel 1 _ rfl; have z2 := hlg.cel 2 _ rfl; have z3 := hlg.cel 3 _ rfl; have z4 := hlg.cel 4 _ rfl; have z5 := hlg.cel 5 _ rfl; have z6 := hlg.cel 6 _ rfl; have z7 := hlg.cel 7 _ rfl; have x1 := hbx.cel 1 _ rfl; have x2 := hbx.cel 2 _ rfl; go_simp
                            refine wpAnyH_take (i := 1) (v := .pointer (some ⟨bb, 2, none⟩)) rfl (by kernel_rfl) (by kernel_rfl) (by kernel_rfl) (fun _ _ _ h => h) (Or.inl ⟨by kernel_rfl, fun w9 h9 => ?_⟩) HSB.out ?_
                            · go_simp
                            refine wpAnyH_take (i := 2) (v := .slice ae s.tenants.length ke) rfl (by kernel_rfl) (by kernel_rfl) (by kernel_rfl) (fun _ _ _ h => h) (Or.inl ⟨by kernel_rfl, fun w9 h9 => ?_⟩) HSB.out ?_
                            · obtain ⟨hlg, hbx, y2, _⟩ := h9; have z0 := hlg.cel 0 _ rfl; have z1 := hlg.cel 1 _ rfl; have z2 := hlg.cel 2 _ rfl; have z3 := hlg.cel 3 _ rfl; have z4 := hlg.cel 4 _ rfl; have z5 := hlg.cel 5 _ rfl; have z6 := hlg.cel 6 _ rfl; have z7 := hlg.cel 7 _ rfl; have x1 := hbx.cel 1 _ rfl; have x2 := hbx.cel 2 _ rfl; go_simp
                            refine wpAnyH_take (i := 3) (v := .int .i64 (s.tenants.length : Nat)) rfl (by kernel_rfl) (by kernel_rfl) (by kernel_rfl) (fun _ _ _ h => h) (Or.inl ⟨by kernel_rfl, fun w9 h9 => ?_⟩) HSB.out ?_
                            · go_simp
                            refine held_one 4 (by kernel_rfl) rfl (by kernel_rfl) fun K hK => ?_
                            go_simp
                            go_wp2_with (go_at_call 27; refine Calls.mono (HV1.out _) ?_; rintro e u1 ⟨rfl, hb1⟩; have HS1 : Hid ((fun w' => (LG w w' b0 #[.string v.name, .int .i64 v.tenant, .int .i64 v.cpu, .int .i64 v.mem, .int .i64 v.zone, .int .i64 v.apart, .string v.node, .int .i64 v.epoch] 71) ∧ (LG w w' bb #[.slice an s.nodes.length kn, .slice (some ⟨g, o, none⟩) s.vms.length kv, .slice ae s.tenants.length ke, .int .i64 s.over, .int .i64 s.time] 37) ∧ w'.cell? ⟨g, o + j * 8, none⟩ = some (.string y.name) ∧ g < w'.heap.size) u1) := ⟨HSB.out.1.step hb1, HSB.out.2.1.step hb1, (hb1.cell (p := ⟨g, o + j * 8, none⟩) HSB.out.2.2.2).trans HSB.out.2.2.1, Nat.lt_of_lt_of_le HSB.out.2.2.2 hb1.size⟩; clear hb1)
                            refine hK _ _ HS1.out ?_
                            clear hK K
                            refine wpAnyH_take (i := 5) (v := .bool false) rfl (by kernel_rfl) (by kernel_rfl) (by kernel_rfl) (fun _ _ _ h => h) (Or.inl ⟨by kernel_rfl, fun w9 h9 => ?_⟩) HS1.out ?_
                            · go_simp
                            refine wpAnyH_take (i := 6) (v := .bool false) rfl (by kernel_rfl) (by kernel_rfl) (by kernel_rfl) (fun _ _ _ h => h) (Or.inl ⟨by kernel_rfl, fun w9 h9 => ?_⟩) HS1.out ?_
                            · go_simp
                            refine wpAnyH_take (i := 7) (v := .int .i64 ((j + 1 : Nat) : Int)) rfl (by kernel_rfl) (by kernel_rfl) (by kernel_rfl) (fun _ _ _ h => h) (Or.inl ⟨by kernel_rfl, fun w9 h9 => ?_⟩) HS1.out ?_
                            · go_simp
                            refine wpAnyH_take (i := 8) (v := .bool true) rfl (by kernel_rfl) (by kernel_rfl) (by kernel_rfl) (fun _ _ _ h => h) (Or.inl ⟨by kernel_rfl, fun w9 h9 => ?_⟩) HS1.out ?_
                            · go_simp; all_goals omega
                            refine wpAnyH_take (i := 9) (v := .bool true) rfl (by kernel_rfl) (by kernel_rfl) (by kernel_rfl) (fun _ _ _ h => h) (Or.inl ⟨by kernel_rfl, fun w9 h9 => ?_⟩) HS1.out ?_
                            · go_simp
                            refine wpAnyH_take (i := 10) (v := .pointer (some ⟨bb, 1, none⟩)) rfl (by kernel_rfl) (by kernel_rfl) (by kernel_rfl) (fun _ _ _ h => h) (Or.inl ⟨by kernel_rfl, fun w9 h9 => ?_⟩) HS1.out ?_
                            · go_simp
                            refine wpAnyH_take (i := 11) (v := .slice (some ⟨g, o, none⟩) s.vms.length kv) rfl (by kernel_rfl) (by kernel_rfl) (by kernel_rfl) (fun _ _ _ h => h) (Or.inl ⟨by kernel_rfl, fun w9 h9 => ?_⟩) HS1.out ?_
                            · obtain ⟨hlg, hbx, y2, _⟩ := h9; have z0 := hlg.cel 0 _ rfl; have z1 := hlg.cel 1 _ rfl; have z2 := hlg.cel 2 _ rfl; have z3 := hlg.cel 3 _ rfl; have z4 := hlg.cel 4 _ rfl; have z5 := hlg.cel 5 _ rfl; have z6 := hlg.cel 6 _ rfl; have z7 := hlg.cel 7 _ rfl; have x1 := hbx.cel 1 _ rfl; have x2 := hbx.cel 2 _ rfl; go_simp
                            refine wpAnyH_take (i := 12) (v := .int .i64 ((j + 1 : Nat) : Int)) rfl (by kernel_rfl) (by kernel_rfl) (by kernel_rfl) (fun _ _ _ h => h) (Or.inl ⟨by kernel_rfl, fun w9 h9 => ?_⟩) HS1.out ?_
                            · go_simp
                            refine wpAnyH_take (i := 13) (v := .int .i64 (j : Int)) rfl (by kernel_rfl) (by kernel_rfl) (by kernel_rfl) (fun _ _ _ h => h) (Or.inl ⟨by kernel_rfl, fun w9 h9 => ?_⟩) HS1.out ?_
                            · go_simp
                            refine wpAnyH_take (i := 14) (v := .pointer (some ⟨g, o + j * 8, none⟩)) rfl (by kernel_rfl) (by kernel_rfl) (by kernel_rfl) (fun _ _ _ h => h) (Or.inl ⟨by kernel_rfl, fun w9 h9 => ?_⟩) HS1.out ?_
                            · go_simp
                            refine wpAnyH_take (i := 15) (v := .pointer (some ⟨g, o + j * 8, none⟩)) rfl (by kernel_rfl) (by kernel_rfl) (by kernel_rfl) (fun _ _ _ h => h) (Or.inl ⟨by kernel_rfl, fun w9 h9 => ?_⟩) HS1.out ?_
                            · go_simp
                            refine wpAnyH_take (i := 16) (v := .string y.name) rfl (by kernel_rfl) (by kernel_rfl) (by kernel_rfl) (fun _ _ _ h => h) (Or.inl ⟨by kernel_rfl, fun w9 h9 => ?_⟩) HS1.out ?_
                            · obtain ⟨hlg, hbx, y2, _⟩ := h9; have z0 := hlg.cel 0 _ rfl; have z1 := hlg.cel 1 _ rfl; have z2 := hlg.cel 2 _ rfl; have z3 := hlg.cel 3 _ rfl; have z4 := hlg.cel 4 _ rfl; have z5 := hlg.cel 5 _ rfl; have z6 := hlg.cel 6 _ rfl; have z7 := hlg.cel 7 _ rfl; have x1 := hbx.cel 1 _ rfl; have x2 := hbx.cel 2 _ rfl; go_simp
                            refine wpAnyH_take (i := 17) (v := .pointer (some ⟨b0, 0, none⟩)) rfl (by kernel_rfl) (by kernel_rfl) (by kernel_rfl) (fun _ _ _ h => h) (Or.inl ⟨by kernel_rfl, fun w9 h9 => ?_⟩) HS1.out ?_
                            · go_simp
                            refine wpAnyH_take (i := 18) (v := .string v.name) rfl (by kernel_rfl) (by kernel_rfl) (by kernel_rfl) (fun _ _ _ h => h) (Or.inl ⟨by kernel_rfl, fun w9 h9 => ?_⟩) HS1.out ?_
                            · obtain ⟨hlg, hbx, y2, _⟩ := h9; have z0 := hlg.cel 0 _ rfl; have z1 := hlg.cel 1 _ rfl; have z2 := hlg.cel 2 _ rfl; have z3 := hlg.cel 3 _ rfl; have z4 := hlg.cel 4 _ rfl; have z5 := hlg.cel 5 _ rfl; have z6 := hlg.cel 6 _ rfl; have z7 := hlg.cel 7 _ rfl; have x1 := hbx.cel 1 _ rfl; have x2 := hbx.cel 2 _ rfl; go_simp
                            refine wpAnyH_take (i := 19) (v := .bool true) rfl (by kernel_rfl) (by kernel_rfl) (by kernel_rfl) (fun _ _ _ h => h) (Or.inl ⟨by kernel_rfl, fun w9 h9 => ?_⟩) HS1.out ?_
                            · go_simp; all_goals omega
                            refine wpAnyH_take (i := 20) (v := .bool true) rfl (by kernel_rfl) (by kernel_rfl) (by kernel_rfl) (fun _ _ _ h => h) (Or.inl ⟨by kernel_rfl, fun w9 h9 => ?_⟩) HS1.out ?_
                            · go_simp
                            refine wpAnyH_take (i := 21) (v := .bool true) rfl (by kernel_rfl) (by kernel_rfl) (by kernel_rfl) (fun _ _ _ h => h) (Or.inl ⟨by kernel_rfl, fun w9 h9 => ?_⟩) HS1.out ?_
                            · go_simp
                            refine wpAnyH_take (i := 22) (v := .bool true) rfl (by kernel_rfl) (by kernel_rfl) (by kernel_rfl) (fun _ _ _ h => h) (Or.inl ⟨by kernel_rfl, fun w9 h9 => ?_⟩) HS1.out ?_
                            · go_simp
                            refine wpAnyH_take (i := 23) (v := undef) rfl (by kernel_rfl) (by kernel_rfl) (by kernel_rfl) (fun _ _ _ h => h) (Or.inr ⟨by kernel_rfl, rfl⟩) HS1.out ?_
                            refine wpAnyH_take (i := 24) (v := undef) rfl (by kernel_rfl) (by kernel_rfl) (by kernel_rfl) (fun _ _ _ h => h) (Or.inr ⟨by kernel_rfl, rfl⟩) HS1.out ?_
                            refine wpAnyH_take (i := 25) (v := undef) rfl (by kernel_rfl) (by kernel_rfl) (by kernel_rfl) (fun _ _ _ h => h) (Or.inr ⟨by kernel_rfl, rfl⟩) HS1.out ?_
                            refine wpAnyH_take (i := 26) (v := .bool true) rfl (by kernel_rfl) (by kernel_rfl) (by kernel_rfl) (fun _ _ _ h => h) (Or.inl ⟨by kernel_rfl, fun w9 h9 => ?_⟩) HS1.out ?_
                            · go_simp
                            refine wpAnyH_take (i := 27) (v := .bool true) rfl (by kernel_rfl) (by kernel_rfl) (by kernel_rfl) (fun _ _ _ h => h) (Or.inl ⟨by kernel_rfl, fun w9 h9 => ?_⟩) HS1.out ?_
                            · go_simp
                            refine wpAnyH_take (i := 28) (v := undef) rfl (by kernel_rfl) (by kernel_rfl) (by kernel_rfl) (fun _ _ _ h => h) (Or.inr ⟨by kernel_rfl, rfl⟩) HS1.out ?_
                            refine wpAnyH_take (i := 29) (v := undef) rfl (by kernel_rfl) (by kernel_rfl) (by kernel_rfl) (fun _ _ _ h => h) (Or.inr ⟨by kernel_rfl, rfl⟩) HS1.out ?_
                            refine wpAnyH_take (i := 30) (v := undef) rfl (by kernel_rfl) (by kernel_rfl) (by kernel_rfl) (fun _ _ _ h => h) (Or.inr ⟨by kernel_rfl, rfl⟩) HS1.out ?_
                            refine wpAnyH_take (i := 31) (v := .bool true) rfl (by kernel_rfl) (by kernel_rfl) (by kernel_rfl) (fun _ _ _ h => h) (Or.inl ⟨by kernel_rfl, fun w9 h9 => ?_⟩) HS1.out ?_
                            · go_simp
                            refine wpAnyH_done (by kernel_rfl) ?_ _
                            go_simp
                            go_wp2
                            go_ret
                            exact ⟨ret_int E2.out.symm, hbb ▸ HS1.out.2.1.bel⟩
                          · skip
                            cases q2 : decide (v.epoch < 0)
                            · skip
                              cases q3 : decide (1099511627776 < v.epoch)
                              · skip
                                have HG : Hid (SY = true → allD (vkB s) (j + 1 + 1) = true) := fun hsy => (show allD (vkB s) (j + 1 + 1) = true by rw [HS.out, HALL.out, HEK.out, HE.out, hsy]; have r2 := of_decide_eq_false q2; have r3 := of_decide_eq_false q3; simp; try omega)
                                have HB2 : Hid (SY = false → V = 1) := fun hsy => HBAD.out (HEK.out.trans (by rw [hsy]; simp))
                                clear HS HEK HBAD HE HALL
                                have HSB : Hid ((fun w' => (LG w w' b0 #[.string v.name, .int .i64 v.tenant, .int .i64 v.cpu, .int .i64 v.mem, .int .i64 v.zone, .int .i64 v.apart, .string v.node, .int .i64 v.epoch] 71) ∧ (LG w w' bb #[.slice an s.nodes.length kn, .slice (some ⟨g, o, none⟩) s.vms.length kv, .slice ae s.tenants.length ke, .int .i64 s.over, .int .i64 s.time] 37) ∧ w'.cell? ⟨g, o + j * 8, none⟩ = some (.string y.name) ∧ g < w'.heap.size) u0.drew) := ⟨HZ2.out.drew, HX2.out.drew, y1, gl⟩
                                refine wp_region_held (S := fun w' => (LG w w' b0 #[.string v.name, .int .i64 v.tenant, .int .i64 v.cpu, .int .i64 v.mem, .int .i64 v.zone, .int .i64 v.apart, .string v.node, .int .i64 v.epoch] 71) ∧ (LG w w' bb #[.slice an s.nodes.length kn, .slice (some ⟨g, o, none⟩) s.vms.length kv, .slice ae s.tenants.length ke, .int .i64 s.over, .int .i64 s.time] 37) ∧ w'.cell? ⟨g, o + j * 8, none⟩ = some (.string y.name) ∧ g < w'.heap.size) (by kernel_rfl) ?_
                                change wpAnyH _ _ _ _ _ _ _ _ (World.drew _)
                                refine wpAnyH_take (i := 0) (v := .agg #[.string v.name, .int .i64 v.tenant, .int .i64 v.cpu, .int .i64 v.mem, .int .i64 v.zone, .int .i64 v.apart, .string v.node, .int .i64 v.epoch]) rfl (by kernel_rfl) (by kernel_rfl) (by kernel_rfl) (fun _ _ _ h => h) (Or.inl ⟨by kernel_rfl, fun w9 h9 => ?_⟩) HSB.out ?_
                                · obtain ⟨hlg, hbx, y2, _⟩ := h9; have z0 := hlg.cel 0 _ rfl; have z1 := hlg.cel 1 _ rfl; have z2 := hlg.cel 2 _ rfl; have z3 := hlg.cel 3 _ rfl; have z4 := hlg.cel 4 _ rfl; have z5 := hlg.cel 5 _ rfl; have z6 := hlg.cel 6 _ rfl; have z7 := hlg.cel 7 _ rfl; have x1 := hbx.cel 1 _ rfl; have x2 := hbx.cel 2 _ rfl; go_simp
                                refine wpAnyH_take (i := 1) (v := .pointer (some ⟨bb, 2, none⟩)) rfl (by kernel_rfl) (by kernel_rfl) (by kernel_rfl) (fun _ _ _ h => h) (Or.inl ⟨by kernel_rfl, fun w9 h9 => ?_⟩) HSB.out ?_
                                · go_simp
                                refine wpAnyH_take (i := 2) (v := .slice ae s.tenants.length ke) rfl (by kernel_rfl) (by kernel_rfl) (by kernel_rfl) (fun _ _ _ h => h) (Or.inl ⟨by kernel_rfl, fun w9 h9 => ?_⟩) HSB.out ?_
                                · obtain ⟨hlg, hbx, y2, _⟩ := h9; have z0 := hlg.cel 0 _ rfl; have z1 := hlg.cel 1 _ rfl; have z2 := hlg.cel 2 _ rfl; have z3 := hlg.cel 3 _ rfl; have z4 := hlg.cel 4 _ rfl; have z5 := hlg.cel 5 _ rfl; have z6 := hlg.cel 6 _ rfl; have z7 := hlg.cel 7 _ rfl; have x1 := hbx.cel 1 _ rfl; have x2 := hbx.cel 2 _ rfl; go_simp
                                refine wpAnyH_take (i := 3) (v := .int .i64 (s.tenants.length : Nat)) rfl (by kernel_rfl) (by kernel_rfl) (by kernel_rfl) (fun _ _ _ h => h) (Or.inl ⟨by kernel_rfl, fun w9 h9 => ?_⟩) HSB.out ?_
                                · go_simp
                                refine held_one 4 (by kernel_rfl) rfl (by kernel_rfl) fun K hK => ?_
                                go_simp
                                go_wp2_with (go_at_call 27; refine Calls.mono (HV1.out _) ?_; rintro e u1 ⟨rfl, hb1⟩; have HS1 : Hid ((fun w' => (LG w w' b0 #[.string v.name, .int .i64 v.tenant, .int .i64 v.cpu, .int .i64 v.mem, .int .i64 v.zone, .int .i64 v.apart, .string v.node, .int .i64 v.epoch] 71) ∧ (LG w w' bb #[.slice an s.nodes.length kn, .slice (some ⟨g, o, none⟩) s.vms.length kv, .slice ae s.tenants.length ke, .int .i64 s.over, .int .i64 s.time] 37) ∧ w'.cell? ⟨g, o + j * 8, none⟩ = some (.string y.name) ∧ g < w'.heap.size) u1) := ⟨HSB.out.1.step hb1, HSB.out.2.1.step hb1, (hb1.cell (p := ⟨g, o + j * 8, none⟩) HSB.out.2.2.2).trans HSB.out.2.2.1, Nat.lt_of_lt_of_le HSB.out.2.2.2 hb1.size⟩; clear hb1)
                                refine hK _ _ HS1.out ?_
                                clear hK K
                                refine wpAnyH_take (i := 5) (v := .bool false) rfl (by kernel_rfl) (by kernel_rfl) (by kernel_rfl) (fun _ _ _ h => h) (Or.inl ⟨by kernel_rfl, fun w9 h9 => ?_⟩) HS1.out ?_
                                · go_simp
                                refine wpAnyH_take (i := 6) (v := .bool false) rfl (by kernel_rfl) (by kernel_rfl) (by kernel_rfl) (fun _ _ _ h => h) (Or.inl ⟨by kernel_rfl, fun w9 h9 => ?_⟩) HS1.out ?_
                                · go_simp
                                refine wpAnyH_take (i := 7) (v := .int .i64 ((j + 1 : Nat) : Int)) rfl (by kernel_rfl) (by kernel_rfl) (by kernel_rfl) (fun _ _ _ h => h) (Or.inl ⟨by kernel_rfl, fun w9 h9 => ?_⟩) HS1.out ?_
                                · go_simp
                                refine wpAnyH_take (i := 8) (v := .bool true) rfl (by kernel_rfl) (by kernel_rfl) (by kernel_rfl) (fun _ _ _ h => h) (Or.inl ⟨by kernel_rfl, fun w9 h9 => ?_⟩) HS1.out ?_
                                · go_simp; all_goals omega
                                refine wpAnyH_take (i := 9) (v := .bool true) rfl (by kernel_rfl) (by kernel_rfl) (by kernel_rfl) (fun _ _ _ h => h) (Or.inl ⟨by kernel_rfl, fun w9 h9 => ?_⟩) HS1.out ?_
                                · go_simp
                                refine wpAnyH_take (i := 10) (v := .pointer (some ⟨bb, 1, none⟩)) rfl (by kernel_rfl) (by kernel_rfl) (by kernel_rfl) (fun _ _ _ h => h) (Or.inl ⟨by kernel_rfl, fun w9 h9 => ?_⟩) HS1.out ?_
                                · go_simp
                                refine wpAnyH_take (i := 11) (v := .slice (some ⟨g, o, none⟩) s.vms.length kv) rfl (by kernel_rfl) (by kernel_rfl) (by kernel_rfl) (fun _ _ _ h => h) (Or.inl ⟨by kernel_rfl, fun w9 h9 => ?_⟩) HS1.out ?_
                                · obtain ⟨hlg, hbx, y2, _⟩ := h9; have z0 := hlg.cel 0 _ rfl; have z1 := hlg.cel 1 _ rfl; have z2 := hlg.cel 2 _ rfl; have z3 := hlg.cel 3 _ rfl; have z4 := hlg.cel 4 _ rfl; have z5 := hlg.cel 5 _ rfl; have z6 := hlg.cel 6 _ rfl; have z7 := hlg.cel 7 _ rfl; have x1 := hbx.cel 1 _ rfl; have x2 := hbx.cel 2 _ rfl; go_simp
                                refine wpAnyH_take (i := 12) (v := .int .i64 ((j + 1 : Nat) : Int)) rfl (by kernel_rfl) (by kernel_rfl) (by kernel_rfl) (fun _ _ _ h => h) (Or.inl ⟨by kernel_rfl, fun w9 h9 => ?_⟩) HS1.out ?_
                                · go_simp
                                refine wpAnyH_take (i := 13) (v := .int .i64 (j : Int)) rfl (by kernel_rfl) (by kernel_rfl) (by kernel_rfl) (fun _ _ _ h => h) (Or.inl ⟨by kernel_rfl, fun w9 h9 => ?_⟩) HS1.out ?_
                                · go_simp
                                refine wpAnyH_take (i := 14) (v := .pointer (some ⟨g, o + j * 8, none⟩)) rfl (by kernel_rfl) (by kernel_rfl) (by kernel_rfl) (fun _ _ _ h => h) (Or.inl ⟨by kernel_rfl, fun w9 h9 => ?_⟩) HS1.out ?_
                                · go_simp
                                refine wpAnyH_take (i := 15) (v := .pointer (some ⟨g, o + j * 8, none⟩)) rfl (by kernel_rfl) (by kernel_rfl) (by kernel_rfl) (fun _ _ _ h => h) (Or.inl ⟨by kernel_rfl, fun w9 h9 => ?_⟩) HS1.out ?_
                                · go_simp
                                refine wpAnyH_take (i := 16) (v := .string y.name) rfl (by kernel_rfl) (by kernel_rfl) (by kernel_rfl) (fun _ _ _ h => h) (Or.inl ⟨by kernel_rfl, fun w9 h9 => ?_⟩) HS1.out ?_
                                · obtain ⟨hlg, hbx, y2, _⟩ := h9; have z0 := hlg.cel 0 _ rfl; have z1 := hlg.cel 1 _ rfl; have z2 := hlg.cel 2 _ rfl; have z3 := hlg.cel 3 _ rfl; have z4 := hlg.cel 4 _ rfl; have z5 := hlg.cel 5 _ rfl; have z6 := hlg.cel 6 _ rfl; have z7 := hlg.cel 7 _ rfl; have x1 := hbx.cel 1 _ rfl; have x2 := hbx.cel 2 _ rfl; go_simp
                                refine wpAnyH_take (i := 17) (v := .pointer (some ⟨b0, 0, none⟩)) rfl (by kernel_rfl) (by kernel_rfl) (by kernel_rfl) (fun _ _ _ h => h) (Or.inl ⟨by kernel_rfl, fun w9 h9 => ?_⟩) HS1.out ?_
                                · go_simp
                                refine wpAnyH_take (i := 18) (v := .string v.name) rfl (by kernel_rfl) (by kernel_rfl) (by kernel_rfl) (fun _ _ _ h => h) (Or.inl ⟨by kernel_rfl, fun w9 h9 => ?_⟩) HS1.out ?_
                                · obtain ⟨hlg, hbx, y2, _⟩ := h9; have z0 := hlg.cel 0 _ rfl; have z1 := hlg.cel 1 _ rfl; have z2 := hlg.cel 2 _ rfl; have z3 := hlg.cel 3 _ rfl; have z4 := hlg.cel 4 _ rfl; have z5 := hlg.cel 5 _ rfl; have z6 := hlg.cel 6 _ rfl; have z7 := hlg.cel 7 _ rfl; have x1 := hbx.cel 1 _ rfl; have x2 := hbx.cel 2 _ rfl; go_simp
                                refine wpAnyH_take (i := 19) (v := .bool false) rfl (by kernel_rfl) (by kernel_rfl) (by kernel_rfl) (fun _ _ _ h => h) (Or.inl ⟨by kernel_rfl, fun w9 h9 => ?_⟩) HS1.out ?_
                                · go_simp; all_goals omega
                                refine wpAnyH_take (i := 20) (v := .bool false) rfl (by kernel_rfl) (by kernel_rfl) (by kernel_rfl) (fun _ _ _ h => h) (Or.inl ⟨by kernel_rfl, fun w9 h9 => ?_⟩) HS1.out ?_
                                · go_simp
                                refine wpAnyH_take (i := 21) (v := .bool false) rfl (by kernel_rfl) (by kernel_rfl) (by kernel_rfl) (fun _ _ _ h => h) (Or.inl ⟨by kernel_rfl, fun w9 h9 => ?_⟩) HS1.out ?_
                                · go_simp
                                refine wpAnyH_take (i := 22) (v := .bool false) rfl (by kernel_rfl) (by kernel_rfl) (by kernel_rfl) (fun _ _ _ h => h) (Or.inl ⟨by kernel_rfl, fun w9 h9 => ?_⟩) HS1.out ?_
                                · go_simp
                                refine wpAnyH_take (i := 23) (v := .pointer (some ⟨b0, 7, none⟩)) rfl (by kernel_rfl) (by kernel_rfl) (by kernel_rfl) (fun _ _ _ h => h) (Or.inl ⟨by kernel_rfl, fun w9 h9 => ?_⟩) HS1.out ?_
                                · go_simp
                                refine wpAnyH_take (i := 24) (v := .int .i64 v.epoch) rfl (by kernel_rfl) (by kernel_rfl) (by kernel_rfl) (fun _ _ _ h => h) (Or.inl ⟨by kernel_rfl, fun w9 h9 => ?_⟩) HS1.out ?_
                                · obtain ⟨hlg, hbx, y2, _⟩ := h9; have z0 := hlg.cel 0 _ rfl; have z1 := hlg.cel 1 _ rfl; have z2 := hlg.cel 2 _ rfl; have z3 := hlg.cel 3 _ rfl; have z4 := hlg.cel 4 _ rfl; have z5 := hlg.cel 5 _ rfl; have z6 := hlg.cel 6 _ rfl; have z7 := hlg.cel 7 _ rfl; have x1 := hbx.cel 1 _ rfl; have x2 := hbx.cel 2 _ rfl; go_simp
                                refine wpAnyH_take (i := 25) (v := .bool false) rfl (by kernel_rfl) (by kernel_rfl) (by kernel_rfl) (fun _ _ _ h => h) (Or.inl ⟨by kernel_rfl, fun w9 h9 => ?_⟩) HS1.out ?_
                                · go_simp; all_goals omega
                                refine wpAnyH_take (i := 26) (v := .bool false) rfl (by kernel_rfl) (by kernel_rfl) (by kernel_rfl) (fun _ _ _ h => h) (Or.inl ⟨by kernel_rfl, fun w9 h9 => ?_⟩) HS1.out ?_
                                · go_simp
                                refine wpAnyH_take (i := 27) (v := .bool false) rfl (by kernel_rfl) (by kernel_rfl) (by kernel_rfl) (fun _ _ _ h => h) (Or.inl ⟨by kernel_rfl, fun w9 h9 => ?_⟩) HS1.out ?_
                                · go_simp
                                refine wpAnyH_take (i := 28) (v := .pointer (some ⟨b0, 7, none⟩)) rfl (by kernel_rfl) (by kernel_rfl) (by kernel_rfl) (fun _ _ _ h => h) (Or.inl ⟨by kernel_rfl, fun w9 h9 => ?_⟩) HS1.out ?_
                                · go_simp
                                refine wpAnyH_take (i := 29) (v := .int .i64 v.epoch) rfl (by kernel_rfl) (by kernel_rfl) (by kernel_rfl) (fun _ _ _ h => h) (Or.inl ⟨by kernel_rfl, fun w9 h9 => ?_⟩) HS1.out ?_
                                · obtain ⟨hlg, hbx, y2, _⟩ := h9; have z0 := hlg.cel 0 _ rfl; have z1 := hlg.cel 1 _ rfl; have z2 := hlg.cel 2 _ rfl; have z3 := hlg.cel 3 _ rfl; have z4 := hlg.cel 4 _ rfl; have z5 := hlg.cel 5 _ rfl; have z6 := hlg.cel 6 _ rfl; have z7 := hlg.cel 7 _ rfl; have x1 := hbx.cel 1 _ rfl; have x2 := hbx.cel 2 _ rfl; go_simp
                                refine wpAnyH_take (i := 30) (v := .bool false) rfl (by kernel_rfl) (by kernel_rfl) (by kernel_rfl) (fun _ _ _ h => h) (Or.inl ⟨by kernel_rfl, fun w9 h9 => ?_⟩) HS1.out ?_
                                · go_simp; all_goals omega
                                refine wpAnyH_take (i := 31) (v := .bool false) rfl (by kernel_rfl) (by kernel_rfl) (by kernel_rfl) (fun _ _ _ h => h) (Or.inl ⟨by kernel_rfl, fun w9 h9 => ?_⟩) HS1.out ?_
                                · go_simp
                                refine wpAnyH_done (by kernel_rfl) ?_ _
                                go_simp
                                have z6 := HS1.out.1.cel 6 _ rfl
                                have zl := HS1.out.1.lt
                                cases hno : v.node.toList.isEmpty
                                rotate_left
                                · have E4 : Hid _ := HG.out (by rw [HSY.out, HNB.out, hno]; rfl)
                                  clear HG HB2 HSY HNB
                                  go_wp2
                                  exact ⟨⟨j + 1 + 1, hlt, by go_num, E4.out, HS1.out.2.1⟩, by simp [intOf]; omega⟩
                                have HSY2 : Hid (SY = (decide (0 ≤ ndX s v.node) && decide (hlV s (ndX s v.node).toNat v = 0))) := (show SY = _ by rw [HSY.out, HNB.out, hno, Bool.false_or])
                                clear HSY HNB
                                have x0 := HS1.out.2.1.cel 0 _ rfl
                                have x1 := HS1.out.2.1.cel 1 _ rfl
                                have x2 := HS1.out.2.1.cel 2 _ rfl
                                have x3 := HS1.out.2.1.cel 3 _ rfl
                                have x4 := HS1.out.2.1.cel 4 _ rfl
                                have xl := HS1.out.2.1.lt
                                go_upto_region 11 with (go_at_call 28; refine Calls.mono (HND.out _ _ HS1.out.2.1.aft) ?_; rintro e u2 ⟨rfl, hb2⟩)
                                have HY2 : Hid (LG w u2 bb #[.slice an s.nodes.length kn, .slice (some ⟨g, o, none⟩) s.vms.length kv, .slice ae s.tenants.length ke, .int .i64 s.over, .int .i64 s.time] 37) := HS1.out.2.1.step hb2
                                have HW2 : Hid (LG w u2 b0 #[.string v.name, .int .i64 v.tenant, .int .i64 v.cpu, .int .i64 v.mem, .int .i64 v.zone, .int .i64 v.apart, .string v.node, .int .i64 v.epoch] 71) := HS1.out.1.step hb2
                                clear hb2 HS1 HX2 HZ2 x0 x1 x2 x3 x4 xl z6 zl
                                have x0 := HY2.out.cel 0 _ rfl
                                have x1 := HY2.out.cel 1 _ rfl
                                have x2 := HY2.out.cel 2 _ rfl
                                have x3 := HY2.out.cel 3 _ rfl
                                have x4 := HY2.out.cel 4 _ rfl
                                have xl := HY2.out.lt
                                have z0 := HW2.out.cel 0 _ rfl
                                have z1 := HW2.out.cel 1 _ rfl
                                have z2 := HW2.out.cel 2 _ rfl
                                have z3 := HW2.out.cel 3 _ rfl
                                have z4 := HW2.out.cel 4 _ rfl
                                have z5 := HW2.out.cel 5 _ rfl
                                have z6 := HW2.out.cel 6 _ rfl
                                have z7 := HW2.out.cel 7 _ rfl
                                have zl := HW2.out.lt
                                rcases ndX_or s v.node with ⟨hx, _⟩ | ⟨q, hq, hx, _⟩
                                · have E4 : Hid (V = 1) := HB2.out (by rw [HSY2.out, hx]; rfl)
                                  clear HG HB2 HSY2
                                  rw [hx]
                                  go_wp2
                                  go_ret
                                  exact ⟨ret_int E4.out.symm, hbb ▸ HY2.out.bel⟩
                                · have HSY3 : Hid (SY = decide (hlV s q v = 0)) := (show SY = _ by rw [HSY2.out, hx, decide_eq_true (show (0 : Int) ≤ (q : Int) by omega), Bool.true_and]; rfl)
                                  have HH : Hid (∀ u, Aft w u → Calls Tryz.prog 29 #[.agg #[.slice an s.nodes.length kn, .slice (some ⟨g, o, none⟩) s.vms.length kv, .slice ae s.tenants.length ke, .int .i64 s.over, .int .i64 s.time], .int .i64 (q : Int), .agg #[.string v.name, .int .i64 v.tenant, .int .i64 v.cpu, .int .i64 v.mem, .int .i64 v.zone, .int .i64 v.apart, .string v.node, .int .i64 v.epoch]] u fun e w' => e = .returned (.int .i64 (hlV s q v)) ∧ Below u.heap.size u w') := fun u hu => HHO.out u q v hu hq
                                  clear HSY2 HHO
                                  rw [hx]
                                  clear hx
                                  generalize hlV s q v = HV at *
                                  have hq0 : (0 : Int) ≤ (q : Int) := by omega
                                  have hq1 : decide ((q : Int) < 0) = false := decide_eq_false (by omega)
                                  cases hh : (HV != 0)
                                  · have E4 : Hid _ := HG.out (by rw [HSY3.out]; simpa using hh)
                                    clear HG HB2 HSY3
                                    go_wp2_with (go_at_call 29; refine Calls.mono (HH.out _ HY2.out.aft) ?_; rintro e u3 ⟨rfl, hb3⟩; have HY3 : Hid (LG w u3 bb #[.slice an s.nodes.length kn, .slice (some ⟨g, o, none⟩) s.vms.length kv, .slice ae s.tenants.length ke, .int .i64 s.over, .int .i64 s.time] 37) := HY2.out.step hb3; clear hb3)
                                    exact ⟨⟨j + 1 + 1, hlt, by go_num, E4.out, HY3.out⟩, by simp [intOf]; omega⟩
                                  · have E4 : Hid (V = 1) := HB2.out (by rw [HSY3.out]; simpa using hh)
                                    clear HG HB2 HSY3
                                    go_wp2_with (go_at_call 29; refine Calls.mono (HH.out _ HY2.out.aft) ?_; rintro e u3 ⟨rfl, hb3⟩; have HY3 : Hid (LG w u3 bb #[.slice an s.nodes.length kn, .slice (some ⟨g, o, none⟩) s.vms.length kv, .slice ae s.tenants.length ke, .int .i64 s.over, .int .i64 s.time] 37) := HY2.out.step hb3; clear hb3)
                                    go_ret
                                    exact ⟨ret_int E4.out.symm, hbb ▸ HY3.out.bel⟩
                              · skip
                                have E2 : Hid (V = 1) := HBAD.out (HEK.out.trans (by rw [HE.out]; have r2 := of_decide_eq_false q2; have r3 := of_decide_eq_true q3; simp; try omega))
                                clear HS HEK HBAD HE HALL HSY HNB
                                have HSB : Hid ((fun w' => (LG w w' b0 #[.string v.name, .int .i64 v.tenant, .int .i64 v.cpu, .int .i64 v.mem, .int .i64 v.zone, .int .i64 v.apart, .string v.node, .int .i64 v.epoch] 71) ∧ (LG w w' bb #[.slice an s.nodes.length kn, .slice (some ⟨g, o, none⟩) s.vms.length kv, .slice ae s.tenants.length ke, .int .i64 s.over, .int .i64 s.time] 37) ∧ w'.cell? ⟨g, o + j * 8, none⟩ = some (.string y.name) ∧ g < w'.heap.size) u0.drew) := ⟨HZ2.out.drew, HX2.out.drew, y1, gl⟩
                                refine wp_region_held (S := fun w' => (LG w w' b0 #[.string v.name, .int .i64 v.tenant, .int .i64 v.cpu, .int .i64 v.mem, .int .i64 v.zone, .int .i64 v.apart, .string v.node, .int .i64 v.epoch] 71) ∧ (LG w w' bb #[.slice an s.nodes.length kn, .slice (some ⟨g, o, none⟩) s.vms.length kv, .slice ae s.tenants.length ke, .int .i64 s.over, .int .i64 s.time] 37) ∧ w'.cell? ⟨g, o + j * 8, none⟩ = some (.string y.name) ∧ g < w'.heap.size) (by kernel_rfl) ?_
                                change wpAnyH _ _ _ _ _ _ _ _ (World.drew _)
                                refine wpAnyH_take (i := 0) (v := .agg #[.string v.name, .int .i64 v.tenant, .int .i64 v.cpu, .int .i64 v.mem, .int .i64 v.zone, .int .i64 v.apart, .string v.node, .int .i64 v.epoch]) rfl (by kernel_rfl) (by kernel_rfl) (by kernel_rfl) (fun _ _ _ h => h) (Or.inl ⟨by kernel_rfl, fun w9 h9 => ?_⟩) HSB.out ?_
                                · obtain ⟨hlg, hbx, y2, _⟩ := h9; have z0 := hlg.cel 0 _ rfl; have z1 := hlg.cel 1 _ rfl; have z2 := hlg.cel 2 _ rfl; have z3 := hlg.cel 3 _ rfl; have z4 := hlg.cel 4 _ rfl; have z5 := hlg.cel 5 _ rfl; have z6 := hlg.cel 6 _ rfl; have z7 := hlg.cel 7 _ rfl; have x1 := hbx.cel 1 _ rfl; have x2 := hbx.cel 2 _ rfl; go_simp
                                refine wpAnyH_take (i := 1) (v := .pointer (some ⟨bb, 2, none⟩)) rfl (by kernel_rfl) (by kernel_rfl) (by kernel_rfl) (fun _ _ _ h => h) (Or.inl ⟨by kernel_rfl, fun w9 h9 => ?_⟩) HSB.out ?_
                                · go_simp
                                refine wpAnyH_take (i := 2) (v := .slice ae s.tenants.length ke) rfl (by kernel_rfl) (by kernel_rfl) (by kernel_rfl) (fun _ _ _ h => h) (Or.inl ⟨by kernel_rfl, fun w9 h9 => ?_⟩) HSB.out ?_
                                · obtain ⟨hlg, hbx, y2, _⟩ := h9; have z0 := hlg.cel 0 _ rfl; have z1 := hlg.cel 1 _ rfl; have z2 := hlg.cel 2 _ rfl; have z3 := hlg.cel 3 _ rfl; have z4 := hlg.cel 4 _ rfl; have z5 := hlg.cel 5 _ rfl; have z6 := hlg.cel 6 _ rfl; have z7 := hlg.cel 7 _ rfl; have x1 := hbx.cel 1 _ rfl; have x2 := hbx.cel 2 _ rfl; go_simp
                                refine wpAnyH_take (i := 3) (v := .int .i64 (s.tenants.length : Nat)) rfl (by kernel_rfl) (by kernel_rfl) (by kernel_rfl) (fun _ _ _ h => h) (Or.inl ⟨by kernel_rfl, fun w9 h9 => ?_⟩) HSB.out ?_
                                · go_simp
                                refine held_one 4 (by kernel_rfl) rfl (by kernel_rfl) fun K hK => ?_
                                go_simp
                                go_wp2_with (go_at_call 27; refine Calls.mono (HV1.out _) ?_; rintro e u1 ⟨rfl, hb1⟩; have HS1 : Hid ((fun w' => (LG w w' b0 #[.string v.name, .int .i64 v.tenant, .int .i64 v.cpu, .int .i64 v.mem, .int .i64 v.zone, .int .i64 v.apart, .string v.node, .int .i64 v.epoch] 71) ∧ (LG w w' bb #[.slice an s.nodes.length kn, .slice (some ⟨g, o, none⟩) s.vms.length kv, .slice ae s.tenants.length ke, .int .i64 s.over, .int .i64 s.time] 37) ∧ w'.cell? ⟨g, o + j * 8, none⟩ = some (.string y.name) ∧ g < w'.heap.size) u1) := ⟨HSB.out.1.step hb1, HSB.out.2.1.step hb1, (hb1.cell (p := ⟨g, o + j * 8, none⟩) HSB.out.2.2.2).trans HSB.out.2.2.1, Nat.lt_of_lt_of_le HSB.out.2.2.2 hb1.size⟩; clear hb1)
                                refine hK _ _ HS1.out ?_
                                clear hK K
                                refine wpAnyH_take (i := 5) (v := .bool false) rfl (by kernel_rfl) (by kernel_rfl) (by kernel_rfl) (fun _ _ _ h => h) (Or.inl ⟨by kernel_rfl, fun w9 h9 => ?_⟩) HS1.out ?_
                                · go_simp
                                refine wpAnyH_take (i := 6) (v := .bool false) rfl (by kernel_rfl) (by kernel_rfl) (by kernel_rfl) (fun _ _ _ h => h) (Or.inl ⟨by kernel_rfl, fun w9 h9 => ?_⟩) HS1.out ?_
                                · go_simp
                                refine wpAnyH_take (i := 7) (v := .int .i64 ((j + 1 : Nat) : Int)) rfl (by kernel_rfl) (by kernel_rfl) (by kernel_rfl) (fun _ _ _ h => h) (Or.inl ⟨by kernel_rfl, fun w9 h9 => ?_⟩) HS1.out ?_
                                · go_simp
                                refine wpAnyH_take (i := 8) (v := .bool true) rfl (by kernel_rfl) (by kernel_rfl) (by kernel_rfl) (fun _ _ _ h => h) (Or.inl ⟨by kernel_rfl, fun w9 h9 => ?_⟩) HS1.out ?_
                                · go_simp; all_goals omega
                                refine wpAnyH_take (i := 9) (v := .bool true) rfl (by kernel_rfl) (by kernel_rfl) (by kernel_rfl) (fun _ _ _ h => h) (Or.inl ⟨by kernel_rfl, fun w9 h9 => ?_⟩) HS1.out ?_
                                · go_simp
                                refine wpAnyH_take (i := 10) (v := .pointer (some ⟨bb, 1, none⟩)) rfl (by kernel_rfl) (by kernel_rfl) (by kernel_rfl) (fun _ _ _ h => h) (Or.inl ⟨by kernel_rfl, fun w9 h9 => ?_⟩) HS1.out ?_
                                · go_simp
                                refine wpAnyH_take (i := 11) (v := .slice (some ⟨g, o, none⟩) s.vms.length kv) rfl (by kernel_rfl) (by kernel_rfl) (by kernel_rfl) (fun _ _ _ h => h) (Or.inl ⟨by kernel_rfl, fun w9 h9 => ?_⟩) HS1.out ?_
                                · obtain ⟨hlg, hbx, y2, _⟩ := h9; have z0 := hlg.cel 0 _ rfl; have z1 := hlg.cel 1 _ rfl; have z2 := hlg.cel 2 _ rfl; have z3 := hlg.cel 3 _ rfl; have z4 := hlg.cel 4 _ rfl; have z5 := hlg.cel 5 _ rfl; have z6 := hlg.cel 6 _ rfl; have z7 := hlg.cel 7 _ rfl; have x1 := hbx.cel 1 _ rfl; have x2 := hbx.cel 2 _ rfl; go_simp
                                refine wpAnyH_take (i := 12) (v := .int .i64 ((j + 1 : Nat) : Int)) rfl (by kernel_rfl) (by kernel_rfl) (by kernel_rfl) (fun _ _ _ h => h) (Or.inl ⟨by kernel_rfl, fun w9 h9 => ?_⟩) HS1.out ?_
                                · go_simp
                                refine wpAnyH_take (i := 13) (v := .int .i64 (j : Int)) rfl (by kernel_rfl) (by kernel_rfl) (by kernel_rfl) (fun _ _ _ h => h) (Or.inl ⟨by kernel_rfl, fun w9 h9 => ?_⟩) HS1.out ?_
                                · go_simp
                                refine wpAnyH_take (i := 14) (v := .pointer (some ⟨g, o + j * 8, none⟩)) rfl (by kernel_rfl) (by kernel_rfl) (by kernel_rfl) (fun _ _ _ h => h) (Or.inl ⟨by kernel_rfl, fun w9 h9 => ?_⟩) HS1.out ?_
                                · go_simp
                                refine wpAnyH_take (i := 15) (v := .pointer (some ⟨g, o + j * 8, none⟩)) rfl (by kernel_rfl) (by kernel_rfl) (by kernel_rfl) (fun _ _ _ h => h) (Or.inl ⟨by kernel_rfl, fun w9 h9 => ?_⟩) HS1.out ?_
                                · go_simp
                                refine wpAnyH_take (i := 16) (v := .string y.name) rfl (by kernel_rfl) (by kernel_rfl) (by kernel_rfl) (fun _ _ _ h => h) (Or.inl ⟨by kernel_rfl, fun w9 h9 => ?_⟩) HS1.out ?_
                                · obtain ⟨hlg, hbx, y2, _⟩ := h9; have z0 := hlg.cel 0 _ rfl; have z1 := hlg.cel 1 _ rfl; have z2 := hlg.cel 2 _ rfl; have z3 := hlg.cel 3 _ rfl; have z4 := hlg.cel 4 _ rfl; have z5 := hlg.cel 5 _ rfl; have z6 := hlg.cel 6 _ rfl; have z7 := hlg.cel 7 _ rfl; have x1 := hbx.cel 1 _ rfl; have x2 := hbx.cel 2 _ rfl; go_simp
                                refine wpAnyH_take (i := 17) (v := .pointer (some ⟨b0, 0, none⟩)) rfl (by kernel_rfl) (by kernel_rfl) (by kernel_rfl) (fun _ _ _ h => h) (Or.inl ⟨by kernel_rfl, fun w9 h9 => ?_⟩) HS1.out ?_
                                · go_simp
                                refine wpAnyH_take (i := 18) (v := .string v.name) rfl (by kernel_rfl) (by kernel_rfl) (by kernel_rfl) (fun _ _ _ h => h) (Or.inl ⟨by kernel_rfl, fun w9 h9 => ?_⟩) HS1.out ?_
                                · obtain ⟨hlg, hbx, y2, _⟩ := h9; have z0 := hlg.cel 0 _ rfl; have z1 := hlg.cel 1 _ rfl; have z2 := hlg.cel 2 _ rfl; have z3 := hlg.cel 3 _ rfl; have z4 := hlg.cel 4 _ rfl; have z5 := hlg.cel 5 _ rfl; have z6 := hlg.cel 6 _ rfl; have z7 := hlg.cel 7 _ rfl; have x1 := hbx.cel 1 _ rfl; have x2 := hbx.cel 2 _ rfl; go_simp
                                refine wpAnyH_take (i := 19) (v := .bool false) rfl (by kernel_rfl) (by kernel_rfl) (by kernel_rfl) (fun _ _ _ h => h) (Or.inl ⟨by kernel_rfl, fun w9 h9 => ?_⟩) HS1.out ?_
                                · go_simp; all_goals omega
                                refine wpAnyH_take (i := 20) (v := .bool false) rfl (by kernel_rfl) (by kernel_rfl) (by kernel_rfl) (fun _ _ _ h => h) (Or.inl ⟨by kernel_rfl, fun w9 h9 => ?_⟩) HS1.out ?_
                                · go_simp
                                refine wpAnyH_take (i := 21) (v := .bool false) rfl (by kernel_rfl) (by kernel_rfl) (by kernel_rfl) (fun _ _ _ h => h) (Or.inl ⟨by kernel_rfl, fun w9 h9 => ?_⟩) HS1.out ?_
                                · go_simp
                                refine wpAnyH_take (i := 22) (v := .bool false) rfl (by kernel_rfl) (by kernel_rfl) (by kernel_rfl) (fun _ _ _ h => h) (Or.inl ⟨by kernel_rfl, fun w9 h9 => ?_⟩) HS1.out ?_
                                · go_simp
                                refine wpAnyH_take (i := 23) (v := .pointer (some ⟨b0, 7, none⟩)) rfl (by kernel_rfl) (by kernel_rfl) (by kernel_rfl) (fun _ _ _ h => h) (Or.inl ⟨by kernel_rfl, fun w9 h9 => ?_⟩) HS1.out ?_
                                · go_simp
                                refine wpAnyH_take (i := 24) (v := .int .i64 v.epoch) rfl (by kernel_rfl) (by kernel_rfl) (by kernel_rfl) (fun _ _ _ h => h) (Or.inl ⟨by kernel_rfl, fun w9 h9 => ?_⟩) HS1.out ?_
                                · obtain ⟨hlg, hbx, y2, _⟩ := h9; have z0 := hlg.cel 0 _ rfl; have z1 := hlg.cel 1 _ rfl; have z2 := hlg.cel 2 _ rfl; have z3 := hlg.cel 3 _ rfl; have z4 := hlg.cel 4 _ rfl; have z5 := hlg.cel 5 _ rfl; have z6 := hlg.cel 6 _ rfl; have z7 := hlg.cel 7 _ rfl; have x1 := hbx.cel 1 _ rfl; have x2 := hbx.cel 2 _ rfl; go_simp
                                refine wpAnyH_take (i := 25) (v := .bool false) rfl (by kernel_rfl) (by kernel_rfl) (by kernel_rfl) (fun _ _ _ h => h) (Or.inl ⟨by kernel_rfl, fun w9 h9 => ?_⟩) HS1.out ?_
                                · go_simp; all_goals omega
                                refine wpAnyH_take (i := 26) (v := .bool false) rfl (by kernel_rfl) (by kernel_rfl) (by kernel_rfl) (fun _ _ _ h => h) (Or.inl ⟨by kernel_rfl, fun w9 h9 => ?_⟩) HS1.out ?_
                                · go_simp
                                refine wpAnyH_take (i := 27) (v := .bool false) rfl (by kernel_rfl) (by kernel_rfl) (by kernel_rfl) (fun _ _ _ h => h) (Or.inl ⟨by kernel_rfl, fun w9 h9 => ?_⟩) HS1.out ?_
                                · go_simp
                                refine wpAnyH_take (i := 28) (v := .pointer (some ⟨b0, 7, none⟩)) rfl (by kernel_rfl) (by kernel_rfl) (by kernel_rfl) (fun _ _ _ h => h) (Or.inl ⟨by kernel_rfl, fun w9 h9 => ?_⟩) HS1.out ?_
                                · go_simp
                                refine wpAnyH_take (i := 29) (v := .int .i64 v.epoch) rfl (by kernel_rfl) (by kernel_rfl) (by kernel_rfl) (fun _ _ _ h => h) (Or.inl ⟨by kernel_rfl, fun w9 h9 => ?_⟩) HS1.out ?_
                                · obtain ⟨hlg, hbx, y2, _⟩ := h9; have z0 := hlg.cel 0 _ rfl; have z1 := hlg.cel 1 _ rfl; have z2 := hlg.cel 2 _ rfl; have z3 := hlg.cel 3 _ rfl; have z4 := hlg.cel 4 _ rfl; have z5 := hlg.cel 5 _ rfl; have z6 := hlg.cel 6 _ rfl; have z7 := hlg.cel 7 _ rfl; have x1 := hbx.cel 1 _ rfl; have x2 := hbx.cel 2 _ rfl; go_simp
                                refine wpAnyH_take (i := 30) (v := .bool true) rfl (by kernel_rfl) (by kernel_rfl) (by kernel_rfl) (fun _ _ _ h => h) (Or.inl ⟨by kernel_rfl, fun w9 h9 => ?_⟩) HS1.out ?_
                                · go_simp; all_goals omega
                                refine wpAnyH_take (i := 31) (v := .bool true) rfl (by kernel_rfl) (by kernel_rfl) (by kernel_rfl) (fun _ _ _ h => h) (Or.inl ⟨by kernel_rfl, fun w9 h9 => ?_⟩) HS1.out ?_
                                · go_simp
                                refine wpAnyH_done (by kernel_rfl) ?_ _
                                go_simp
                                go_wp2
                                go_ret
                                exact ⟨ret_int E2.out.symm, hbb ▸ HS1.out.2.1.bel⟩
                            · skip
                              have E2 : Hid (V = 1) := HBAD.out (HEK.out.trans (by rw [HE.out]; have r2 := of_decide_eq_true q2; simp; try omega))
                              clear HS HEK HBAD HE HALL HSY HNB
                              have HSB : Hid ((fun w' => (LG w w' b0 #[.string v.name, .int .i64 v.tenant, .int .i64 v.cpu, .int .i64 v.mem, .int .i64 v.zone, .int .i64 v.apart, .string v.node, .int .i64 v.epoch] 71) ∧ (LG w w' bb #[.slice an s.nodes.length kn, .slice (some ⟨g, o, none⟩) s.vms.length kv, .slice ae s.tenants.length ke, .int .i64 s.over, .int .i64 s.time] 37) ∧ w'.cell? ⟨g, o + j * 8, none⟩ = some (.string y.name) ∧ g < w'.heap.size) u0.drew) := ⟨HZ2.out.drew, HX2.out.drew, y1, gl⟩
                              refine wp_region_held (S := fun w' => (LG w w' b0 #[.string v.name, .int .i64 v.tenant, .int .i64 v.cpu, .int .i64 v.mem, .int .i64 v.zone, .int .i64 v.apart, .string v.node, .int .i64 v.epoch] 71) ∧ (LG w w' bb #[.slice an s.nodes.length kn, .slice (some ⟨g, o, none⟩) s.vms.length kv, .slice ae s.tenants.length ke, .int .i64 s.over, .int .i64 s.time] 37) ∧ w'.cell? ⟨g, o + j * 8, none⟩ = some (.string y.name) ∧ g < w'.heap.size) (by kernel_rfl) ?_
                              change wpAnyH _ _ _ _ _ _ _ _ (World.drew _)
                              refine wpAnyH_take (i := 0) (v := .agg #[.string v.name, .int .i64 v.tenant, .int .i64 v.cpu, .int .i64 v.mem, .int .i64 v.zone, .int .i64 v.apart, .string v.node, .int .i64 v.epoch]) rfl (by kernel_rfl) (by kernel_rfl) (by kernel_rfl) (fun _ _ _ h => h) (Or.inl ⟨by kernel_rfl, fun w9 h9 => ?_⟩) HSB.out ?_
                              · obtain ⟨hlg, hbx, y2, _⟩ := h9; have z0 := hlg.cel 0 _ rfl; have z1 := hlg.cel 1 _ rfl; have z2 := hlg.cel 2 _ rfl; have z3 := hlg.cel 3 _ rfl; have z4 := hlg.cel 4 _ rfl; have z5 := hlg.cel 5 _ rfl; have z6 := hlg.cel 6 _ rfl; have z7 := hlg.cel 7 _ rfl; have x1 := hbx.cel 1 _ rfl; have x2 := hbx.cel 2 _ rfl; go_simp
                              refine wpAnyH_take (i := 1) (v := .pointer (some ⟨bb, 2, none⟩)) rfl (by kernel_rfl) (by kernel_rfl) (by kernel_rfl) (fun _ _ _ h => h) (Or.inl ⟨by kernel_rfl, fun w9 h9 => ?_⟩) HSB.out ?_
                              · go_simp
                              refine wpAnyH_take (i := 2) (v := .slice ae s.tenants.length ke) rfl (by kernel_rfl) (by kernel_rfl) (by kernel_rfl) (fun _ _ _ h => h) (Or.inl ⟨by kernel_rfl, fun w9 h9 => ?_⟩) HSB.out ?_
                              · obtain ⟨hlg, hbx, y2, _⟩ := h9; have z0 := hlg.cel 0 _ rfl; have z1 := hlg.cel 1 _ rfl; have z2 := hlg.cel 2 _ rfl; have z3 := hlg.cel 3 _ rfl; have z4 := hlg.cel 4 _ rfl; have z5 := hlg.cel 5 _ rfl; have z6 := hlg.cel 6 _ rfl; have z7 := hlg.cel 7 _ rfl; have x1 := hbx.cel 1 _ rfl; have x2 := hbx.cel 2 _ rfl; go_simp
                              refine wpAnyH_take (i := 3) (v := .int .i64 (s.tenants.length : Nat)) rfl (by kernel_rfl) (by kernel_rfl) (by kernel_rfl) (fun _ _ _ h => h) (Or.inl ⟨by kernel_rfl, fun w9 h9 => ?_⟩) HSB.out ?_
                              · go_simp
                              refine held_one 4 (by kernel_rfl) rfl (by kernel_rfl) fun K hK => ?_
                              go_simp
                              go_wp2_with (go_at_call 27; refine Calls.mono (HV1.out _) ?_; rintro e u1 ⟨rfl, hb1⟩; have HS1 : Hid ((fun w' => (LG w w' b0 #[.string v.name, .int .i64 v.tenant, .int .i64 v.cpu, .int .i64 v.mem, .int .i64 v.zone, .int .i64 v.apart, .string v.node, .int .i64 v.epoch] 71) ∧ (LG w w' bb #[.slice an s.nodes.length kn, .slice (some ⟨g, o, none⟩) s.vms.length kv, .slice ae s.tenants.length ke, .int .i64 s.over, .int .i64 s.time] 37) ∧ w'.cell? ⟨g, o + j * 8, none⟩ = some (.string y.name) ∧ g < w'.heap.size) u1) := ⟨HSB.out.1.step hb1, HSB.out.2.1.step hb1, (hb1.cell (p := ⟨g, o + j * 8, none⟩) HSB.out.2.2.2).trans HSB.out.2.2.1, Nat.lt_of_lt_of_le HSB.out.2.2.2 hb1.size⟩; clear hb1)
                              refine hK _ _ HS1.out ?_
                              clear hK K
                              refine wpAnyH_take (i := 5) (v := .bool false) rfl (by kernel_rfl) (by kernel_rfl) (by kernel_rfl) (fun _ _ _ h => h) (Or.inl ⟨by kernel_rfl, fun w9 h9 => ?_⟩) HS1.out ?_
                              · go_simp
                              refine wpAnyH_take (i := 6) (v := .bool false) rfl (by kernel_rfl) (by kernel_rfl) (by kernel_rfl) (fun _ _ _ h => h) (Or.inl ⟨by kernel_rfl, fun w9 h9 => ?_⟩) HS1.out ?_
                              · go_simp
                              refine wpAnyH_take (i := 7) (v := .int .i64 ((j + 1 : Nat) : Int)) rfl (by kernel_rfl) (by kernel_rfl) (by kernel_rfl) (fun _ _ _ h => h) (Or.inl ⟨by kernel_rfl, fun w9 h9 => ?_⟩) HS1.out ?_
                              · go_simp
                              refine wpAnyH_take (i := 8) (v := .bool true) rfl (by kernel_rfl) (by kernel_rfl) (by kernel_rfl) (fun _ _ _ h => h) (Or.inl ⟨by kernel_rfl, fun w9 h9 => ?_⟩) HS1.out ?_
                              · go_simp; all_goals omega
                              refine wpAnyH_take (i := 9) (v := .bool true) rfl (by kernel_rfl) (by kernel_rfl) (by kernel_rfl) (fun _ _ _ h => h) (Or.inl ⟨by kernel_rfl, fun w9 h9 => ?_⟩) HS1.out ?_
                              · go_simp
                              refine wpAnyH_take (i := 10) (v := .pointer (some ⟨bb, 1, none⟩)) rfl (by kernel_rfl) (by kernel_rfl) (by kernel_rfl) (fun _ _ _ h => h) (Or.inl ⟨by kernel_rfl, fun w9 h9 => ?_⟩) HS1.out ?_
                              · go_simp
                              refine wpAnyH_take (i := 11) (v := .slice (some ⟨g, o, none⟩) s.vms.length kv) rfl (by kernel_rfl) (by kernel_rfl) (by kernel_rfl) (fun _ _ _ h => h) (Or.inl ⟨by kernel_rfl, fun w9 h9 => ?_⟩) HS1.out ?_
                              · obtain ⟨hlg, hbx, y2, _⟩ := h9; have z0 := hlg.cel 0 _ rfl; have z1 := hlg.cel 1 _ rfl; have z2 := hlg.cel 2 _ rfl; have z3 := hlg.cel 3 _ rfl; have z4 := hlg.cel 4 _ rfl; have z5 := hlg.cel 5 _ rfl; have z6 := hlg.cel 6 _ rfl; have z7 := hlg.cel 7 _ rfl; have x1 := hbx.cel 1 _ rfl; have x2 := hbx.cel 2 _ rfl; go_simp
                              refine wpAnyH_take (i := 12) (v := .int .i64 ((j + 1 : Nat) : Int)) rfl (by kernel_rfl) (by kernel_rfl) (by kernel_rfl) (fun _ _ _ h => h) (Or.inl ⟨by kernel_rfl, fun w9 h9 => ?_⟩) HS1.out ?_
                              · go_simp
                              refine wpAnyH_take (i := 13) (v := .int .i64 (j : Int)) rfl (by kernel_rfl) (by kernel_rfl) (by kernel_rfl) (fun _ _ _ h => h) (Or.inl ⟨by kernel_rfl, fun w9 h9 => ?_⟩) HS1.out ?_
                              · go_simp
                              refine wpAnyH_take (i := 14) (v := .pointer (some ⟨g, o + j * 8, none⟩)) rfl (by kernel_rfl) (by kernel_rfl) (by kernel_rfl) (fun _ _ _ h => h) (Or.inl ⟨by kernel_rfl, fun w9 h9 => ?_⟩) HS1.out ?_
                              · go_simp
                              refine wpAnyH_take (i := 15) (v := .pointer (some ⟨g, o + j * 8, none⟩)) rfl (by kernel_rfl) (by kernel_rfl) (by kernel_rfl) (fun _ _ _ h => h) (Or.inl ⟨by kernel_rfl, fun w9 h9 => ?_⟩) HS1.out ?_
                              · go_simp
                              refine wpAnyH_take (i := 16) (v := .string y.name) rfl (by kernel_rfl) (by kernel_rfl) (by kernel_rfl) (fun _ _ _ h => h) (Or.inl ⟨by kernel_rfl, fun w9 h9 => ?_⟩) HS1.out ?_
                              · obtain ⟨hlg, hbx, y2, _⟩ := h9; have z0 := hlg.cel 0 _ rfl; have z1 := hlg.cel 1 _ rfl; have z2 := hlg.cel 2 _ rfl; have z3 := hlg.cel 3 _ rfl; have z4 := hlg.cel 4 _ rfl; have z5 := hlg.cel 5 _ rfl; have z6 := hlg.cel 6 _ rfl; have z7 := hlg.cel 7 _ rfl; have x1 := hbx.cel 1 _ rfl; have x2 := hbx.cel 2 _ rfl; go_simp
                              refine wpAnyH_take (i := 17) (v := .pointer (some ⟨b0, 0, none⟩)) rfl (by kernel_rfl) (by kernel_rfl) (by kernel_rfl) (fun _ _ _ h => h) (Or.inl ⟨by kernel_rfl, fun w9 h9 => ?_⟩) HS1.out ?_
                              · go_simp
                              refine wpAnyH_take (i := 18) (v := .string v.name) rfl (by kernel_rfl) (by kernel_rfl) (by kernel_rfl) (fun _ _ _ h => h) (Or.inl ⟨by kernel_rfl, fun w9 h9 => ?_⟩) HS1.out ?_
                              · obtain ⟨hlg, hbx, y2, _⟩ := h9; have z0 := hlg.cel 0 _ rfl; have z1 := hlg.cel 1 _ rfl; have z2 := hlg.cel 2 _ rfl; have z3 := hlg.cel 3 _ rfl; have z4 := hlg.cel 4 _ rfl; have z5 := hlg.cel 5 _ rfl; have z6 := hlg.cel 6 _ rfl; have z7 := hlg.cel 7 _ rfl; have x1 := hbx.cel 1 _ rfl; have x2 := hbx.cel 2 _ rfl; go_simp
                              refine wpAnyH_take (i := 19) (v := .bool false) rfl (by kernel_rfl) (by kernel_rfl) (by kernel_rfl) (fun _ _ _ h => h) (Or.inl ⟨by kernel_rfl, fun w9 h9 => ?_⟩) HS1.out ?_
                              · go_simp; all_goals omega
                              refine wpAnyH_take (i := 20) (v := .bool false) rfl (by kernel_rfl) (by kernel_rfl) (by kernel_rfl) (fun _ _ _ h => h) (Or.inl ⟨by kernel_rfl, fun w9 h9 => ?_⟩) HS1.out ?_
                              · go_simp
                              refine wpAnyH_take (i := 21) (v := .bool false) rfl (by kernel_rfl) (by kernel_rfl) (by kernel_rfl) (fun _ _ _ h => h) (Or.inl ⟨by kernel_rfl, fun w9 h9 => ?_⟩) HS1.out ?_
                              · go_simp
                              refine wpAnyH_take (i := 22) (v := .bool false) rfl (by kernel_rfl) (by kernel_rfl) (by kernel_rfl) (fun _ _ _ h => h) (Or.inl ⟨by kernel_rfl, fun w9 h9 => ?_⟩) HS1.out ?_
                              · go_simp
                              refine wpAnyH_take (i := 23) (v := .pointer (some ⟨b0, 7, none⟩)) rfl (by kernel_rfl) (by kernel_rfl) (by kernel_rfl) (fun _ _ _ h => h) (Or.inl ⟨by kernel_rfl, fun w9 h9 => ?_⟩) HS1.out ?_
                              · go_simp
                              refine wpAnyH_take (i := 24) (v := .int .i64 v.epoch) rfl (by kernel_rfl) (by kernel_rfl) (by kernel_rfl) (fun _ _ _ h => h) (Or.inl ⟨by kernel_rfl, fun w9 h9 => ?_⟩) HS1.out ?_
                              · obtain ⟨hlg, hbx, y2, _⟩ := h9; have z0 := hlg.cel 0 _ rfl; have z1 := hlg.cel 1 _ rfl; have z2 := hlg.cel 2 _ rfl; have z3 := hlg.cel 3 _ rfl; have z4 := hlg.cel 4 _ rfl; have z5 := hlg.cel 5 _ rfl; have z6 := hlg.cel 6 _ rfl; have z7 := hlg.cel 7 _ rfl; have x1 := hbx.cel 1 _ rfl; have x2 := hbx.cel 2 _ rfl; go_simp
                              refine wpAnyH_take (i := 25) (v := .bool true) rfl (by kernel_rfl) (by kernel_rfl) (by kernel_rfl) (fun _ _ _ h => h) (Or.inl ⟨by kernel_rfl, fun w9 h9 => ?_⟩) HS1.out ?_
                              · go_simp; all_goals omega
                              refine wpAnyH_take (i := 26) (v := .bool true) rfl (by kernel_rfl) (by kernel_rfl) (by kernel_rfl) (fun _ _ _ h => h) (Or.inl ⟨by kernel_rfl, fun w9 h9 => ?_⟩) HS1.out ?_
                              · go_simp
                              refine wpAnyH_take (i := 27) (v := .bool true) rfl (by kernel_rfl) (by kernel_rfl) (by kernel_rfl) (fun _ _ _ h => h) (Or.inl ⟨by kernel_rfl, fun w9 h9 => ?_⟩) HS1.out ?_
                              · go_simp
                              refine wpAnyH_take (i := 28) (v := undef) rfl (by kernel_rfl) (by kernel_rfl) (by kernel_rfl) (fun _ _ _ h => h) (Or.inr ⟨by kernel_rfl, rfl⟩) HS1.out ?_
                              refine wpAnyH_take (i := 29) (v := undef) rfl (by kernel_rfl) (by kernel_rfl) (by kernel_rfl) (fun _ _ _ h => h) (Or.inr ⟨by kernel_rfl, rfl⟩) HS1.out ?_
                              refine wpAnyH_take (i := 30) (v := undef) rfl (by kernel_rfl) (by kernel_rfl) (by kernel_rfl) (fun _ _ _ h => h) (Or.inr ⟨by kernel_rfl, rfl⟩) HS1.out ?_
                              refine wpAnyH_take (i := 31) (v := .bool true) rfl (by kernel_rfl) (by kernel_rfl) (by kernel_rfl) (fun _ _ _ h => h) (Or.inl ⟨by kernel_rfl, fun w9 h9 => ?_⟩) HS1.out ?_
                              · go_simp
                              refine wpAnyH_done (by kernel_rfl) ?_ _
                              go_simp
                              go_wp2
                              go_ret
                              exact ⟨ret_int E2.out.symm, hbb ▸ HS1.out.2.1.bel⟩
                    · obtain rfl : k = s.vms.length := by omega
                      have hnl : ¬ ((s.vms.length : Nat) : Int) < (s.vms.length : Int) := by omega
                      have E3 : Hid (V = if allD (tkB s) s.tenants.length = true then 0 else 1) := (show V = _ by rw [E1.out, HALL.out, Bool.true_and])
                      clear E1 HALL HND HHO HIV
                      go_wp2
                      clear c1 cl
                      go_loopw [6] (fun i wr => ∃ k : Nat, k ≤ s.tenants.length ∧ i = .int .i64 k ∧ allD (tkB s) k = true ∧ LG w wr bb #[.slice an s.nodes.length kn, .slice av s.vms.length kv, .slice ae s.tenants.length ke, .int .i64 s.over, .int .i64 s.time] 37) (fun i _ => s.tenants.length - (intOf i).toNat)
                      case atStart => exact ⟨0, Nat.zero_le _, rfl, rfl, HX.out⟩
                      case round =>
                        obtain ⟨k, hk, rfl, hall, hb⟩ := hrel
                        clear HX HB
                        have HX : Hid (LG w wr bb #[.slice an s.nodes.length kn, .slice av s.vms.length kv, .slice ae s.tenants.length ke, .int .i64 s.over, .int .i64 s.time] 37) := hb
                        have HB : Hid (Below w.heap.size w wr) := hb.bel
                        have HALL : Hid (allD (tkB s) k = true) := hall
                        clear hall hb
                        have c2 := HX.out.cel 2 _ rfl
                        have cl := HX.out.lt
                        by_cases hlt : k < s.tenants.length
                        · skip
                          obtain ⟨g, o, cap2, hv, _, hg, hc⟩ := HT.out.resolve_left (fun h => by rw [h.1] at hlt; simp at hlt)
                          injection hv with hv1 hv2 hv3
                          subst hv1 hv3
                          have hgw : g < wr.heap.size := Nat.lt_of_lt_of_le hg HB.out.size
                          have hk0 : (0 : Int) ≤ (k : Int) := by omega
                          have hk1 : (k : Int) < (s.tenants.length : Int) := by omega
                          obtain ⟨d0, d1, d2⟩ := hc.below HB.out hg k hlt
                          have HS : Hid (allD (tkB s) (k + 1) = (allD (tkB s) k && tkB s k)) := allD_succ _ _
                          have HBAD : Hid (tkB s k = false → V = 1) := fun hh => by rw [E3.out, allD_bad hlt hh]; rfl
                          have HEK : Hid (tkB s k = (tntB s.tenants[k] && decide (usC s k ≤ s.tenants[k].cpu) && decide (usM s k ≤ s.tenants[k].mem))) := tkB_at hlt
                          have HU1 : Hid (∀ u, Aft w u → Calls Tryz.prog 30 #[.agg #[.slice an s.nodes.length kn, .slice av s.vms.length kv, .slice (some ⟨g, o, none⟩) s.tenants.length ke, .int .i64 s.over, .int .i64 s.time], .int .i64 (k : Int)] u fun e w' => e = .returned (.tuple #[.int .i64 (usC s k), .int .i64 (usM s k)]) ∧ Below u.heap.size u w') := fun u hu => HUS.out u _ hu
                          generalize s.tenants[k] = z at *
                          generalize usC s k = UC at *
                          generalize usM s k = UM at *
                          have HE : Hid (tntB z = (decide (0 ≤ z.cpu) && decide (z.cpu ≤ 10000) && decide (0 ≤ z.mem) && decide (z.mem ≤ 10000) && decide (0 ≤ z.bill) && decide (z.bill ≤ 1152921504606846976))) := rfl
                          generalize tntB z = NB2 at *
                          clear hc E3 HR HT
                          go_upto_region 17 with fail
                          have HX2 : Hid (LG w (wr.alloc (.cells #[.int .i64 z.cpu, .int .i64 z.mem, .int .i64 z.bill] 76)) bb #[.slice an s.nodes.length kn, .slice av s.vms.length kv, .slice (some ⟨g, o, none⟩) s.tenants.length ke, .int .i64 s.over, .int .i64 s.time] 37) := HX.out.next
                          have HZ2 : Hid (LG w (wr.alloc (.cells #[.int .i64 z.cpu, .int .i64 z.mem, .int .i64 z.bill] 76)) wr.heap.size #[.int .i64 z.cpu, .int .i64 z.mem, .int .i64 z.bill] 76) := LG.mk2 HB.out
                          clear d0 d1 d2 c2 cl HX HB hk0 hk1 hgw
                          generalize (wr.alloc (.cells #[.int .i64 z.cpu, .int .i64 z.mem, .int .i64 z.bill] 76)) = u0 at *
                          generalize wr.heap.size = b0 at *
                          have c0 := HX2.out.cel 0 _ rfl
                          have c1 := HX2.out.cel 1 _ rfl
                          have c2 := HX2.out.cel 2 _ rfl
                          have c3 := HX2.out.cel 3 _ rfl
                          have c4 := HX2.out.cel 4 _ rfl
                          have cl := HX2.out.lt
                          go_upto_region 18 with (go_at_call 30; refine Calls.mono (HU1.out _ HX2.out.aft) ?_; rintro e u1 ⟨rfl, hb1⟩)
                          have HX3 : Hid (LG w u1 bb #[.slice an s.nodes.length kn, .slice av s.vms.length kv, .slice (some ⟨g, o, none⟩) s.tenants.length ke, .int .i64 s.over, .int .i64 s.time] 37) := HX2.out.step hb1
                          have HZ3 : Hid (LG w u1 b0 #[.int .i64 z.cpu, .int .i64 z.mem, .int .i64 z.bill] 76) := HZ2.out.step hb1
                          clear hb1 HX2 HZ2 HU1 HUS c0 c1 c2 c3 c4 cl
                          have z0 := HZ3.out.cel 0 _ rfl
                          have z1 := HZ3.out.cel 1 _ rfl
                          have z2 := HZ3.out.cel 2 _ rfl
                          have zl := HZ3.out.lt
                          cases q0 : decide (z.cpu < 0)
                          · skip
                            cases q1 : decide (10000 < z.cpu)
                            · skip
                              cases q2 : decide (z.mem < 0)
                              · skip
                                cases q3 : decide (10000 < z.mem)
                                · skip
                                  cases q4 : decide (z.bill < 0)
                                  · skip
                                    cases q5 : decide (1152921504606846976 < z.bill)
                                    · skip
                                      cases q6 : decide (z.cpu < UC)
                                      · skip
                                        cases q7 : decide (z.mem < UM)
                                        · skip
                                          have E2 : Hid (allD (tkB s) (k + 1) = true) := (show allD (tkB s) (k + 1) = true by rw [HS.out, HALL.out, HEK.out, HE.out]; have r0 := of_decide_eq_false q0; have r1 := of_decide_eq_false q1; have r2 := of_decide_eq_false q2; have r3 := of_decide_eq_false q3; have r4 := of_decide_eq_false q4; have r5 := of_decide_eq_false q5; have r6 := of_decide_eq_false q6; have r7 := of_decide_eq_false q7; simp; try omega)
                                          clear HS HEK HBAD HE HALL
                                          go_wp2
                                          exact ⟨⟨k + 1, hlt, by go_num, E2.out, HX3.out⟩, by simp [intOf]; omega⟩
                                        · skip
                                          have E2 : Hid (V = 1) := HBAD.out (HEK.out.trans (by rw [HE.out]; have r0 := of_decide_eq_false q0; have r1 := of_decide_eq_false q1; have r2 := of_decide_eq_false q2; have r3 := of_decide_eq_false q3; have r4 := of_decide_eq_false q4; have r5 := of_decide_eq_false q5; have r6 := of_decide_eq_false q6; have r7 := of_decide_eq_true q7; simp; try omega))
                                          clear HS HEK HBAD HE HALL
                                          go_wp2
                                          go_ret
                                          exact ⟨ret_int E2.out.symm, hbb ▸ HX3.out.bel⟩
                                      · skip
                                        have E2 : Hid (V = 1) := HBAD.out (HEK.out.trans (by rw [HE.out]; have r0 := of_decide_eq_false q0; have r1 := of_decide_eq_false q1; have r2 := of_decide_eq_false q2; have r3 := of_decide_eq_false q3; have r4 := of_decide_eq_false q4; have r5 := of_decide_eq_false q5; have r6 := of_decide_eq_true q6; simp; try omega))
                                        clear HS HEK HBAD HE HALL
                                        go_wp2
                                        go_ret
                                        exact ⟨ret_int E2.out.symm, hbb ▸ HX3.out.bel⟩
                                    · skip
                                      have E2 : Hid (V = 1) := HBAD.out (HEK.out.trans (by rw [HE.out]; have r0 := of_decide_eq_false q0; have r1 := of_decide_eq_false q1; have r2 := of_decide_eq_false q2; have r3 := of_decide_eq_false q3; have r4 := of_decide_eq_false q4; have r5 := of_decide_eq_true q5; simp; try omega))
                                      clear HS HEK HBAD HE HALL
                                      go_wp2
                                      go_ret
                                      exact ⟨ret_int E2.out.symm, hbb ▸ HX3.out.bel⟩
                                  · skip
                                    have E2 : Hid (V = 1) := HBAD.out (HEK.out.trans (by rw [HE.out]; have r0 := of_decide_eq_false q0; have r1 := of_decide_eq_false q1; have r2 := of_decide_eq_false q2; have r3 := of_decide_eq_false q3; have r4 := of_decide_eq_true q4; simp; try omega))
                                    clear HS HEK HBAD HE HALL
                                    go_wp2
                                    go_ret
                                    exact ⟨ret_int E2.out.symm, hbb ▸ HX3.out.bel⟩
                                · skip
                                  have E2 : Hid (V = 1) := HBAD.out (HEK.out.trans (by rw [HE.out]; have r0 := of_decide_eq_false q0; have r1 := of_decide_eq_false q1; have r2 := of_decide_eq_false q2; have r3 := of_decide_eq_true q3; simp; try omega))
                                  clear HS HEK HBAD HE HALL
                                  go_wp2
                                  go_ret
                                  exact ⟨ret_int E2.out.symm, hbb ▸ HX3.out.bel⟩
                              · skip
                                have E2 : Hid (V = 1) := HBAD.out (HEK.out.trans (by rw [HE.out]; have r0 := of_decide_eq_false q0; have r1 := of_decide_eq_false q1; have r2 := of_decide_eq_true q2; simp; try omega))
                                clear HS HEK HBAD HE HALL
                                go_wp2
                                go_ret
                                exact ⟨ret_int E2.out.symm, hbb ▸ HX3.out.bel⟩
                            · skip
                              have E2 : Hid (V = 1) := HBAD.out (HEK.out.trans (by rw [HE.out]; have r0 := of_decide_eq_false q0; have r1 := of_decide_eq_true q1; simp; try omega))
                              clear HS HEK HBAD HE HALL
                              go_wp2
                              go_ret
                              exact ⟨ret_int E2.out.symm, hbb ▸ HX3.out.bel⟩
                          · skip
                            have E2 : Hid (V = 1) := HBAD.out (HEK.out.trans (by rw [HE.out]; have r0 := of_decide_eq_true q0; simp; try omega))
                            clear HS HEK HBAD HE HALL
                            go_wp2
                            go_ret
                            exact ⟨ret_int E2.out.symm, hbb ▸ HX3.out.bel⟩
                        · obtain rfl : k = s.tenants.length := by omega
                          have hnl : ¬ ((s.tenants.length : Nat) : Int) < (s.tenants.length : Int) := by omega
                          have E2 : Hid (V = 0) := (show V = 0 by rw [E3.out, HALL.out]; rfl)
                          go_wp2
                          go_ret
                          exact ⟨ret_int E2.out.symm, hbb ▸ HB.out⟩
                · skip
                  have E2 : Hid (V = 1) := (show V = 1 by rw [E.out, show lnB s = false by unfold lnB; have r0 := of_decide_eq_false q0; have r1 := of_decide_eq_false q1; have r2 := of_decide_eq_false q2; have r3 := of_decide_eq_false q3; have r5 := of_decide_eq_false q5; have r6 := of_decide_eq_false q6; have r7 := of_decide_eq_true q7; simp; omega]; simp)
                  clear E
                  go_enter Tryz.func12, Tryz.ntmps12
                  go_upto_region 1 with fail
                  generalize (w.alloc (.cells #[.slice an s.nodes.length kn, .slice av s.vms.length kv, .slice ae s.tenants.length ke, .int .i64 s.over, .int .i64 s.time] 37)) = u0 at *
                  have k0 := HL0.out.cel 0 _ rfl
                  have k1 := HL0.out.cel 1 _ rfl
                  have k2 := HL0.out.cel 2 _ rfl
                  have k3 := HL0.out.cel 3 _ rfl
                  have k4 := HL0.out.cel 4 _ rfl
                  have kl := HL0.out.lt
                  go_wp2_with (go_at_call 26; refine Calls.mono (HNO.out _ HL0.out.aft) ?_; rintro e u1 ⟨rfl, hb1⟩; have HL1 : Hid (LG w u1 w.heap.size #[.slice an s.nodes.length kn, .slice av s.vms.length kv, .slice ae s.tenants.length ke, .int .i64 s.over, .int .i64 s.time] 37) := HL0.out.step hb1; clear hb1; have k1 := HL1.out.cel 1 _ rfl; have k2 := HL1.out.cel 2 _ rfl; have kl := HL1.out.lt)
                  go_ret
                  exact ⟨ret_int E2.out.symm, HL1.out.bel⟩
              · skip
                have E2 : Hid (V = 1) := (show V = 1 by rw [E.out, show lnB s = false by unfold lnB; have r0 := of_decide_eq_false q0; have r1 := of_decide_eq_false q1; have r2 := of_decide_eq_false q2; have r3 := of_decide_eq_false q3; have r5 := of_decide_eq_false q5; have r6 := of_decide_eq_true q6; simp; omega]; simp)
                clear E
                go_enter Tryz.func12, Tryz.ntmps12
                go_upto_region 1 with fail
                generalize (w.alloc (.cells #[.slice an s.nodes.length kn, .slice av s.vms.length kv, .slice ae s.tenants.length ke, .int .i64 s.over, .int .i64 s.time] 37)) = u0 at *
                have k0 := HL0.out.cel 0 _ rfl
                have k1 := HL0.out.cel 1 _ rfl
                have k2 := HL0.out.cel 2 _ rfl
                have k3 := HL0.out.cel 3 _ rfl
                have k4 := HL0.out.cel 4 _ rfl
                have kl := HL0.out.lt
                go_wp2_with (go_at_call 26; refine Calls.mono (HNO.out _ HL0.out.aft) ?_; rintro e u1 ⟨rfl, hb1⟩; have HL1 : Hid (LG w u1 w.heap.size #[.slice an s.nodes.length kn, .slice av s.vms.length kv, .slice ae s.tenants.length ke, .int .i64 s.over, .int .i64 s.time] 37) := HL0.out.step hb1; clear hb1; have k1 := HL1.out.cel 1 _ rfl; have k2 := HL1.out.cel 2 _ rfl; have kl := HL1.out.lt)
                go_ret
                exact ⟨ret_int E2.out.symm, HL1.out.bel⟩
            · skip
              have E2 : Hid (V = 1) := (show V = 1 by rw [E.out, show lnB s = false by unfold lnB; have r0 := of_decide_eq_false q0; have r1 := of_decide_eq_false q1; have r2 := of_decide_eq_false q2; have r3 := of_decide_eq_false q3; have r5 := of_decide_eq_true q5; simp; omega]; simp)
              clear E
              go_enter Tryz.func12, Tryz.ntmps12
              go_upto_region 1 with fail
              generalize (w.alloc (.cells #[.slice an s.nodes.length kn, .slice av s.vms.length kv, .slice ae s.tenants.length ke, .int .i64 s.over, .int .i64 s.time] 37)) = u0 at *
              have k0 := HL0.out.cel 0 _ rfl
              have k1 := HL0.out.cel 1 _ rfl
              have k2 := HL0.out.cel 2 _ rfl
              have k3 := HL0.out.cel 3 _ rfl
              have k4 := HL0.out.cel 4 _ rfl
              have kl := HL0.out.lt
              go_wp2_with (go_at_call 26; refine Calls.mono (HNO.out _ HL0.out.aft) ?_; rintro e u1 ⟨rfl, hb1⟩; have HL1 : Hid (LG w u1 w.heap.size #[.slice an s.nodes.length kn, .slice av s.vms.length kv, .slice ae s.tenants.length ke, .int .i64 s.over, .int .i64 s.time] 37) := HL0.out.step hb1; clear hb1; have k1 := HL1.out.cel 1 _ rfl; have k2 := HL1.out.cel 2 _ rfl; have kl := HL1.out.lt)
              go_ret
              exact ⟨ret_int E2.out.symm, HL1.out.bel⟩
        · skip
          have E2 : Hid (V = 1) := (show V = 1 by rw [E.out, show ovB s = false by unfold ovB; have r0 := of_decide_eq_false q0; have r1 := of_decide_eq_false q1; have r2 := of_decide_eq_false q2; have r3 := of_decide_eq_true q3; simp; omega]; simp)
          clear E
          go_enter Tryz.func12, Tryz.ntmps12
          go_upto_region 1 with fail
          generalize (w.alloc (.cells #[.slice an s.nodes.length kn, .slice av s.vms.length kv, .slice ae s.tenants.length ke, .int .i64 s.over, .int .i64 s.time] 37)) = u0 at *
          have k0 := HL0.out.cel 0 _ rfl
          have k1 := HL0.out.cel 1 _ rfl
          have k2 := HL0.out.cel 2 _ rfl
          have k3 := HL0.out.cel 3 _ rfl
          have k4 := HL0.out.cel 4 _ rfl
          have kl := HL0.out.lt
          go_wp2
          go_ret
          exact ⟨ret_int E2.out.symm, HL0.out.bel⟩
      · skip
        have E2 : Hid (V = 1) := (show V = 1 by rw [E.out, show ovB s = false by unfold ovB; have r0 := of_decide_eq_false q0; have r1 := of_decide_eq_false q1; have r2 := of_decide_eq_true q2; simp; omega]; simp)
        clear E
        go_enter Tryz.func12, Tryz.ntmps12
        go_upto_region 1 with fail
        generalize (w.alloc (.cells #[.slice an s.nodes.length kn, .slice av s.vms.length kv, .slice ae s.tenants.length ke, .int .i64 s.over, .int .i64 s.time] 37)) = u0 at *
        have k0 := HL0.out.cel 0 _ rfl
        have k1 := HL0.out.cel 1 _ rfl
        have k2 := HL0.out.cel 2 _ rfl
        have k3 := HL0.out.cel 3 _ rfl
        have k4 := HL0.out.cel 4 _ rfl
        have kl := HL0.out.lt
        go_wp2
        go_ret
        exact ⟨ret_int E2.out.symm, HL0.out.bel⟩
    · skip
      have E2 : Hid (V = 1) := (show V = 1 by rw [E.out, show ovB s = false by unfold ovB; have r0 := of_decide_eq_false q0; have r1 := of_decide_eq_true q1; simp; omega]; simp)
      clear E
      go_enter Tryz.func12, Tryz.ntmps12
      go_upto_region 1 with fail
      generalize (w.alloc (.cells #[.slice an s.nodes.length kn, .slice av s.vms.length kv, .slice ae s.tenants.length ke, .int .i64 s.over, .int .i64 s.time] 37)) = u0 at *
      have k0 := HL0.out.cel 0 _ rfl
      have k1 := HL0.out.cel 1 _ rfl
      have k2 := HL0.out.cel 2 _ rfl
      have k3 := HL0.out.cel 3 _ rfl
      have k4 := HL0.out.cel 4 _ rfl
      have kl := HL0.out.lt
      go_wp2
      go_ret
      exact ⟨ret_int E2.out.symm, HL0.out.bel⟩
  · skip
    have E2 : Hid (V = 1) := (show V = 1 by rw [E.out, show ovB s = false by unfold ovB; have r0 := of_decide_eq_true q0; simp; omega]; simp)
    clear E
    go_enter Tryz.func12, Tryz.ntmps12
    go_upto_region 1 with fail
    generalize (w.alloc (.cells #[.slice an s.nodes.length kn, .slice av s.vms.length kv, .slice ae s.tenants.length ke, .int .i64 s.over, .int .i64 s.time] 37)) = u0 at *
    have k0 := HL0.out.cel 0 _ rfl
    have k1 := HL0.out.cel 1 _ rfl
    have k2 := HL0.out.cel 2 _ rfl
    have k3 := HL0.out.cel 3 _ rfl
    have k4 := HL0.out.cel 4 _ rfl
    have kl := HL0.out.lt
    go_wp2
    go_ret
    exact ⟨ret_int E2.out.symm, HL0.out.bel⟩
end Go.Proofs.YtalpcjclahkgnaaGreat
