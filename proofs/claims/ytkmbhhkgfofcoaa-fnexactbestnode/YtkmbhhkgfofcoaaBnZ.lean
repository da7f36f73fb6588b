import Derived.Test.YtkmbhhkgfofcoaaBnX
import Derived.Test.YtkmbhhkgfofcoaaCs4
import Derived.BigQuiet
import Derived.Deep.QuietTactic
import Derived.Test.YtkmbhhkgfofcoaaCr12
namespace Go.Proofs.Ytkmbhhkgfofcoaa
open Go.ChangeShapes Go.WideShapes Go.ChangeAt Go.RowKit

set_option maxRecDepth 100000 in
set_option maxHeartbeats 4000000 in
theorem l22May_any {w : World} {s : CL} {a : CA} (h : CLRows w s a) (hl : CLlen s) (nm : ByteArray) (v : VMC) : Calls Try.prog 32 #[clA s a, .string nm, .agg #[.string v.name, .int .i64 v.tenant, .int .i64 v.cpu, .int .i64 v.mem, .int .i64 v.zone, .int .i64 v.apart, .string v.node, .int .i64 v.epoch]] w fun e w' => e = .returned (.int .i64 (myV s nm v)) ∧ Below w.heap.size w w' := by
  have HND : Hid (∀ u, Aft w u → Calls Try.prog 22 #[clA s a, .string nm] u fun e w' => e = .returned (.int .i64 (ndX s nm)) ∧ Below u.heap.size u w') := fun u hu => l22Node_any (h.below hu.out) hl.lnodes.1 nm
  have HHO : Hid (∀ u q, Aft w u → q < s.nodes.length → Calls Try.prog 23 #[clA s a, .int .i64 (q : Nat), .agg #[.string v.name, .int .i64 v.tenant, .int .i64 v.cpu, .int .i64 v.mem, .int .i64 v.zone, .int .i64 v.apart, .string v.node, .int .i64 v.epoch]] u fun e w' => e = .returned (.int .i64 (hlV s q v)) ∧ Below u.heap.size u w') := fun u q hu hq => l22Hold_any (h.below hu.out) hl.lvms.1 q hq v
  obtain ⟨an, kn, av, kv, ae, ke, e⟩ := h.sl
  subst e
  have HRN : Hid (NODrow w (.slice an s.nodes.length kn) s.nodes) := h.rnodes
  clear h hl
  have HL0 : Hid (LG w ((w.alloc (.cells #[.slice an s.nodes.length kn, .slice av s.vms.length kv, .slice ae s.tenants.length ke, .int .i64 s.over, .int .i64 s.time] 33)).alloc (.cells #[.string v.name, .int .i64 v.tenant, .int .i64 v.cpu, .int .i64 v.mem, .int .i64 v.zone, .int .i64 v.apart, .string v.node, .int .i64 v.epoch] 41)) w.heap.size #[.slice an s.nodes.length kn, .slice av s.vms.length kv, .slice ae s.tenants.length ke, .int .i64 s.over, .int .i64 s.time] 33) := (LG.new w _ _).next
  have HV0 : Hid (LG w ((w.alloc (.cells #[.slice an s.nodes.length kn, .slice av s.vms.length kv, .slice ae s.tenants.length ke, .int .i64 s.over, .int .i64 s.time] 33)).alloc (.cells #[.string v.name, .int .i64 v.tenant, .int .i64 v.cpu, .int .i64 v.mem, .int .i64 v.zone, .int .i64 v.apart, .string v.node, .int .i64 v.epoch] 41)) (w.heap.size + 1) #[.string v.name, .int .i64 v.tenant, .int .i64 v.cpu, .int .i64 v.mem, .int .i64 v.zone, .int .i64 v.apart, .string v.node, .int .i64 v.epoch] 41) := (LG.mk2 (LG.new w _ _).bel).cast (by simp)
  have HE : Hid (myV s nm v = if ndX s nm < 0 then 5 else if opnB (ndA s (ndX s nm).toNat) = false then 6 else hlV s (ndX s nm).toNat v) := rfl
  unfold clA clC at HND HHO
  unfold clA clC
  simp only at HND HHO ⊢
  generalize myV s nm v = V at *
  go_enter Try.func32, Try.ntmps32
  go_upto_region 1 with fail
  generalize ((w.alloc (.cells #[.slice an s.nodes.length kn, .slice av s.vms.length kv, .slice ae s.tenants.length ke, .int .i64 s.over, .int .i64 s.time] 33)).alloc (.cells #[.string v.name, .int .i64 v.tenant, .int .i64 v.cpu, .int .i64 v.mem, .int .i64 v.zone, .int .i64 v.apart, .string v.node, .int .i64 v.epoch] 41)) = u0 at *
  generalize hvb : w.heap.size + 1 = bv at HV0 ⊢
  generalize hbb : w.heap.size = bc at HL0 ⊢
  have k0 := HL0.out.cel 0 _ rfl
  have k1 := HL0.out.cel 1 _ rfl
  have k2 := HL0.out.cel 2 _ rfl
  have k3 := HL0.out.cel 3 _ rfl
  have k4 := HL0.out.cel 4 _ rfl
  have kl := HL0.out.lt
  have v0 := HV0.out.cel 0 _ rfl
  have v1 := HV0.out.cel 1 _ rfl
  have v2 := HV0.out.cel 2 _ rfl
  have v3 := HV0.out.cel 3 _ rfl
  have v4 := HV0.out.cel 4 _ rfl
  have v5 := HV0.out.cel 5 _ rfl
  have v6 := HV0.out.cel 6 _ rfl
  have v7 := HV0.out.cel 7 _ rfl
  have vl := HV0.out.lt
  go_upto_region 2 with (go_at_call 22; refine Calls.mono (HND.out _ HL0.out.aft) ?_; rintro e w1 ⟨rfl, hb⟩)
  have HL1 : Hid (LG w w1 bc #[.slice an s.nodes.length kn, .slice av s.vms.length kv, .slice ae s.tenants.length ke, .int .i64 s.over, .int .i64 s.time] 33) := HL0.out.step hb
  have HV1 : Hid (LG w w1 bv #[.string v.name, .int .i64 v.tenant, .int .i64 v.cpu, .int .i64 v.mem, .int .i64 v.zone, .int .i64 v.apart, .string v.node, .int .i64 v.epoch] 41) := HV0.out.step hb
  clear hb HL0 HV0 HND k0 k1 k2 k3 k4 kl v0 v1 v2 v3 v4 v5 v6 v7 vl
  have k0 := HL1.out.cel 0 _ rfl
  have k1 := HL1.out.cel 1 _ rfl
  have k2 := HL1.out.cel 2 _ rfl
  have k3 := HL1.out.cel 3 _ rfl
  have k4 := HL1.out.cel 4 _ rfl
  have kl := HL1.out.lt
  have v0 := HV1.out.cel 0 _ rfl
  have v1 := HV1.out.cel 1 _ rfl
  have v2 := HV1.out.cel 2 _ rfl
  have v3 := HV1.out.cel 3 _ rfl
  have v4 := HV1.out.cel 4 _ rfl
  have v5 := HV1.out.cel 5 _ rfl
  have v6 := HV1.out.cel 6 _ rfl
  have v7 := HV1.out.cel 7 _ rfl
  have vl := HV1.out.lt
  rcases ndX_or s nm with ⟨hx, _⟩ | ⟨q, hq, hx, _⟩
  · have E2 : Hid (V = 5) := HE.out.trans (if_pos (by rw [hx]; decide))
    clear HE HHO
    rw [hx]
    clear hx
    go_wp2
    go_ret
    exact ⟨ret_int E2.out.symm, hbb ▸ HL1.out.bel⟩
  have HE2 : Hid (V = if opnB s.nodes[q] = false then 6 else hlV s q v) := (show V = _ by rw [HE.out, hx, if_neg (by omega), show ((q : Int).toNat) = q from rfl, ndA_at hq])
  have HH : Hid (∀ u, Aft w u → Calls Try.prog 23 #[.agg #[.slice an s.nodes.length kn, .slice av s.vms.length kv, .slice ae s.tenants.length ke, .int .i64 s.over, .int .i64 s.time], .int .i64 (q : Int), .agg #[.string v.name, .int .i64 v.tenant, .int .i64 v.cpu, .int .i64 v.mem, .int .i64 v.zone, .int .i64 v.apart, .string v.node, .int .i64 v.epoch]] u fun e w' => e = .returned (.int .i64 (hlV s q v)) ∧ Below u.heap.size u w') := fun u hu => HHO.out u q hu hq
  rw [hx]
  clear hx HE HHO
  have hq0 : (0 : Int) ≤ (q : Int) := by omega
  have hq1 : (q : Int) < (s.nodes.length : Int) := by omega
  have hq2 : decide ((q : Int) < 0) = false := decide_eq_false (by omega)
  have HOP : Hid (∀ u, Calls Try.prog 53 #[.agg #[.string s.nodes[q].name, .int .i64 s.nodes[q].cpu, .int .i64 s.nodes[q].mem, .int .i64 s.nodes[q].zone, .int .i64 s.nodes[q].beat, .bool s.nodes[q].fenced, .bool s.nodes[q].closed]] u fun e w' => e = .returned (.bool (opnB s.nodes[q])) ∧ Below u.heap.size u w') := fun u => l22Open_any _ u
  obtain ⟨g, o, cap2, hv, _, hg, hc⟩ := HRN.out.resolve_left (fun h => by rw [h.1] at hq; simp at hq)
  injection hv with hv1 hv2 hv3
  subst hv1 hv3
  obtain ⟨d0, d1, d2, d3, d4, d5, d6⟩ := hc.below HL1.out.bel hg q hq
  have hgw : g < w1.heap.size := Nat.lt_of_lt_of_le hg HL1.out.bel.size
  clear hc HRN
  generalize s.nodes[q] = n at *
  generalize opnB n = O at *
  generalize hlV s q v = FV at *
  cases O
  · have E2 : Hid (V = 6) := HE2.out
    clear HE2 HH
    go_wp2_with (go_at_call 53; refine Calls.mono (HOP.out _) ?_; rintro e w2 ⟨rfl, hb⟩)
    go_ret
    exact ⟨ret_int E2.out.symm, hbb ▸ (HL1.out.step hb).bel⟩
  · have E2 : Hid (V = FV) := HE2.out
    clear HE2
    go_upto_region 6 with (go_at_call 53; refine Calls.mono (HOP.out _) ?_; rintro e w2 ⟨rfl, hb⟩)
    have HL2 : Hid (LG w w2 bc #[.slice (some ⟨g, o, none⟩) s.nodes.length kn, .slice av s.vms.length kv, .slice ae s.tenants.length ke, .int .i64 s.over, .int .i64 s.time] 33) := HL1.out.step hb
    have HV2 : Hid (LG w w2 bv #[.string v.name, .int .i64 v.tenant, .int .i64 v.cpu, .int .i64 v.mem, .int .i64 v.zone, .int .i64 v.apart, .string v.node, .int .i64 v.epoch] 41) := HV1.out.step hb
    clear hb HL1 HV1 HOP d0 d1 d2 d3 d4 d5 d6 hgw k0 k1 k2 k3 k4 kl v0 v1 v2 v3 v4 v5 v6 v7 vl
    have k0 := HL2.out.cel 0 _ rfl
    have k1 := HL2.out.cel 1 _ rfl
    have k2 := HL2.out.cel 2 _ rfl
    have k3 := HL2.out.cel 3 _ rfl
    have k4 := HL2.out.cel 4 _ rfl
    have kl := HL2.out.lt
    have v0 := HV2.out.cel 0 _ rfl
    have v1 := HV2.out.cel 1 _ rfl
    have v2 := HV2.out.cel 2 _ rfl
    have v3 := HV2.out.cel 3 _ rfl
    have v4 := HV2.out.cel 4 _ rfl
    have v5 := HV2.out.cel 5 _ rfl
    have v6 := HV2.out.cel 6 _ rfl
    have v7 := HV2.out.cel 7 _ rfl
    have vl := HV2.out.lt
    go_wp2_with (go_at_call 23; refine Calls.mono (HH.out _ HL2.out.aft) ?_; rintro e w3 ⟨rfl, hb⟩)
    go_ret
    exact ⟨ret_int E2.out.symm, hbb ▸ (HL2.out.step hb).bel⟩
set_option maxRecDepth 100000 in
set_option maxHeartbeats 4000000 in
theorem specMH_any {w : World} {s : CL} {a : CA} (h : CLRows w s a) (hl : CLlen s) (nm : ByteArray) (v : VMC) : Calls Try.prog 12 #[clA s a, .string nm, .agg #[.string v.name, .int .i64 v.tenant, .int .i64 v.cpu, .int .i64 v.mem, .int .i64 v.zone, .int .i64 v.apart, .string v.node, .int .i64 v.epoch]] w fun e w' => e = .returned (.int .i64 (mhV s nm v)) ∧ Below w.heap.size w w' := by
  have HCF : Hid (∀ u, Aft w u → Calls Try.prog 7 #[clA s a] u fun e w' => e = .returned (.int .i64 (cfV s)) ∧ Below u.heap.size u w') := fun u hu => specCF_any (h.below hu.out) hl
  have HMY : Hid (∀ u, Aft w u → Calls Try.prog 32 #[clA s a, .string nm, .agg #[.string v.name, .int .i64 v.tenant, .int .i64 v.cpu, .int .i64 v.mem, .int .i64 v.zone, .int .i64 v.apart, .string v.node, .int .i64 v.epoch]] u fun e w' => e = .returned (.int .i64 (myV s nm v)) ∧ Below u.heap.size u w') := fun u hu => l22May_any (h.below hu.out) hl nm v
  have HIV : Hid (∀ u, Calls Try.prog 21 #[.agg #[.string v.name, .int .i64 v.tenant, .int .i64 v.cpu, .int .i64 v.mem, .int .i64 v.zone, .int .i64 v.apart, .string v.node, .int .i64 v.epoch], .int .i64 (s.tenants.length : Nat)] u fun e w' => e = .returned (.bool (vmB s.tenants.length v)) ∧ Below u.heap.size u w') := fun u => l22IsVm_any v _ u
  obtain ⟨an, kn, av, kv, ae, ke, e⟩ := h.sl
  subst e
  clear h hl
  have HL0 : Hid (LG w ((w.alloc (.cells #[.slice an s.nodes.length kn, .slice av s.vms.length kv, .slice ae s.tenants.length ke, .int .i64 s.over, .int .i64 s.time] 33)).alloc (.cells #[.string v.name, .int .i64 v.tenant, .int .i64 v.cpu, .int .i64 v.mem, .int .i64 v.zone, .int .i64 v.apart, .string v.node, .int .i64 v.epoch] 41)) w.heap.size #[.slice an s.nodes.length kn, .slice av s.vms.length kv, .slice ae s.tenants.length ke, .int .i64 s.over, .int .i64 s.time] 33) := (LG.new w _ _).next
  have HV0 : Hid (LG w ((w.alloc (.cells #[.slice an s.nodes.length kn, .slice av s.vms.length kv, .slice ae s.tenants.length ke, .int .i64 s.over, .int .i64 s.time] 33)).alloc (.cells #[.string v.name, .int .i64 v.tenant, .int .i64 v.cpu, .int .i64 v.mem, .int .i64 v.zone, .int .i64 v.apart, .string v.node, .int .i64 v.epoch] 41)) (w.heap.size + 1) #[.string v.name, .int .i64 v.tenant, .int .i64 v.cpu, .int .i64 v.mem, .int .i64 v.zone, .int .i64 v.apart, .string v.node, .int .i64 v.epoch] 41) := (LG.mk2 (LG.new w _ _).bel).cast (by simp)
  have HE : Hid (mhV s nm v = if 65536 < (nm.size : Int) then 2 else if cfB s = false then 1 else if vmB s.tenants.length v = false then 1 else myV s nm v) := rfl
  have HC0 : Hid (cfV s = if cfB s = true then 0 else 1) := rfl
  unfold clA clC at HCF HMY
  unfold clA clC
  simp only at HCF HMY ⊢
  generalize mhV s nm v = V at *
  generalize myV s nm v = MY at *
  generalize cfV s = CV at *
  generalize cfB s = R at *
  generalize vmB s.tenants.length v = VB at *
  go_enter Try.func12, Try.ntmps12
  go_upto_region 1 with fail
  generalize ((w.alloc (.cells #[.slice an s.nodes.length kn, .slice av s.vms.length kv, .slice ae s.tenants.length ke, .int .i64 s.over, .int .i64 s.time] 33)).alloc (.cells #[.string v.name, .int .i64 v.tenant, .int .i64 v.cpu, .int .i64 v.mem, .int .i64 v.zone, .int .i64 v.apart, .string v.node, .int .i64 v.epoch] 41)) = u0 at *
  generalize hvb : w.heap.size + 1 = bv at HV0 ⊢
  generalize hbb : w.heap.size = bc at HL0 ⊢
  cases t1 : decide (65536 < (nm.size : Int))
  rotate_left
  · have E2 : Hid (V = 2) := HE.out.trans (if_pos (of_decide_eq_true t1))
    clear HE
    go_wp2
    go_ret
    exact ⟨ret_int E2.out.symm, hbb ▸ HL0.out.bel⟩
  have HE1 : Hid (V = if R = false then 1 else if VB = false then 1 else MY) := HE.out.trans (if_neg (of_decide_eq_false t1))
  clear HE
  have k0 := HL0.out.cel 0 _ rfl
  have k1 := HL0.out.cel 1 _ rfl
  have k2 := HL0.out.cel 2 _ rfl
  have k3 := HL0.out.cel 3 _ rfl
  have k4 := HL0.out.cel 4 _ rfl
  have kl := HL0.out.lt
  have v0 := HV0.out.cel 0 _ rfl
  have v1 := HV0.out.cel 1 _ rfl
  have v2 := HV0.out.cel 2 _ rfl
  have v3 := HV0.out.cel 3 _ rfl
  have v4 := HV0.out.cel 4 _ rfl
  have v5 := HV0.out.cel 5 _ rfl
  have v6 := HV0.out.cel 6 _ rfl
  have v7 := HV0.out.cel 7 _ rfl
  have vl := HV0.out.lt
  cases R
  · have E2 : Hid (V = 1) := HE1.out
    have hcv : CV = 1 := HC0.out
    subst hcv
    clear HE1 HC0
    go_wp2_with (go_at_call 7; refine Calls.mono (HCF.out _ HL0.out.aft) ?_; rintro e w1 ⟨rfl, hb⟩)
    go_ret
    exact ⟨ret_int E2.out.symm, hbb ▸ (HL0.out.step hb).bel⟩
  have hcv : CV = 0 := HC0.out
  subst hcv
  clear HC0
  cases VB
  · have E2 : Hid (V = 1) := HE1.out
    clear HE1
    go_wp2_with (first | (go_at_call 7; refine Calls.mono (HCF.out _ HL0.out.aft) ?_; rintro e w1 ⟨rfl, hb⟩; have HL1 : Hid (LG w w1 bc #[.slice an s.nodes.length kn, .slice av s.vms.length kv, .slice ae s.tenants.length ke, .int .i64 s.over, .int .i64 s.time] 33) := HL0.out.step hb; have HV1 : Hid (LG w w1 bv #[.string v.name, .int .i64 v.tenant, .int .i64 v.cpu, .int .i64 v.mem, .int .i64 v.zone, .int .i64 v.apart, .string v.node, .int .i64 v.epoch] 41) := HV0.out.step hb; clear hb; have p2 := HL1.out.cel 2 _ rfl; have pl := HL1.out.lt; have y0 := HV1.out.cel 0 _ rfl; have y1 := HV1.out.cel 1 _ rfl; have y2 := HV1.out.cel 2 _ rfl; have y3 := HV1.out.cel 3 _ rfl; have y4 := HV1.out.cel 4 _ rfl; have y5 := HV1.out.cel 5 _ rfl; have y6 := HV1.out.cel 6 _ rfl; have y7 := HV1.out.cel 7 _ rfl; have yl := HV1.out.lt) | (go_at_call 21; refine Calls.mono (HIV.out _) ?_; rintro e w2 ⟨rfl, hb⟩; have HL2 : Hid (LG w w2 bc #[.slice an s.nodes.length kn, .slice av s.vms.length kv, .slice ae s.tenants.length ke, .int .i64 s.over, .int .i64 s.time] 33) := HL1.out.step hb; have HV2 : Hid (LG w w2 bv #[.string v.name, .int .i64 v.tenant, .int .i64 v.cpu, .int .i64 v.mem, .int .i64 v.zone, .int .i64 v.apart, .string v.node, .int .i64 v.epoch] 41) := HV1.out.step hb; clear hb))
    go_ret
    exact ⟨ret_int E2.out.symm, hbb ▸ HL2.out.bel⟩
  have E2 : Hid (V = MY) := HE1.out
  clear HE1
  go_upto_region 5 with (first | (go_at_call 7; refine Calls.mono (HCF.out _ HL0.out.aft) ?_; rintro e w1 ⟨rfl, hb⟩; have HL1 : Hid (LG w w1 bc #[.slice an s.nodes.length kn, .slice av s.vms.length kv, .slice ae s.tenants.length ke, .int .i64 s.over, .int .i64 s.time] 33) := HL0.out.step hb; have HV1 : Hid (LG w w1 bv #[.string v.name, .int .i64 v.tenant, .int .i64 v.cpu, .int .i64 v.mem, .int .i64 v.zone, .int .i64 v.apart, .string v.node, .int .i64 v.epoch] 41) := HV0.out.step hb; clear hb; have p2 := HL1.out.cel 2 _ rfl; have pl := HL1.out.lt; have y0 := HV1.out.cel 0 _ rfl; have y1 := HV1.out.cel 1 _ rfl; have y2 := HV1.out.cel 2 _ rfl; have y3 := HV1.out.cel 3 _ rfl; have y4 := HV1.out.cel 4 _ rfl; have y5 := HV1.out.cel 5 _ rfl; have y6 := HV1.out.cel 6 _ rfl; have y7 := HV1.out.cel 7 _ rfl; have yl := HV1.out.lt) | (go_at_call 21; refine Calls.mono (HIV.out _) ?_; rintro e w2 ⟨rfl, hb⟩; have HL2 : Hid (LG w w2 bc #[.slice an s.nodes.length kn, .slice av s.vms.length kv, .slice ae s.tenants.length ke, .int .i64 s.over, .int .i64 s.time] 33) := HL1.out.step hb; have HV2 : Hid (LG w w2 bv #[.string v.name, .int .i64 v.tenant, .int .i64 v.cpu, .int .i64 v.mem, .int .i64 v.zone, .int .i64 v.apart, .string v.node, .int .i64 v.epoch] 41) := HV1.out.step hb; clear hb))
  clear HL0 HV0 HL1 HV1 k0 k1 k2 k3 k4 kl v0 v1 v2 v3 v4 v5 v6 v7 vl p2 pl y0 y1 y2 y3 y4 y5 y6 y7 yl
  have k0 := HL2.out.cel 0 _ rfl
  have k1 := HL2.out.cel 1 _ rfl
  have k2 := HL2.out.cel 2 _ rfl
  have k3 := HL2.out.cel 3 _ rfl
  have k4 := HL2.out.cel 4 _ rfl
  have kl := HL2.out.lt
  have v0 := HV2.out.cel 0 _ rfl
  have v1 := HV2.out.cel 1 _ rfl
  have v2 := HV2.out.cel 2 _ rfl
  have v3 := HV2.out.cel 3 _ rfl
  have v4 := HV2.out.cel 4 _ rfl
  have v5 := HV2.out.cel 5 _ rfl
  have v6 := HV2.out.cel 6 _ rfl
  have v7 := HV2.out.cel 7 _ rfl
  have vl := HV2.out.lt
  go_wp2_with (go_at_call 32; refine Calls.mono (HMY.out _ HL2.out.aft) ?_; rintro e w3 ⟨rfl, hb⟩)
  go_ret
  exact ⟨ret_int E2.out.symm, hbb ▸ (HL2.out.step hb).bel⟩

def smS (p : VMC → Bool) (a : Int) (xs : List VMC) : Int := xs.foldl (fun c x => if p x then wrap64 (c - x.mem) else c) a
theorem smS_succ {p : VMC → Bool} {a : Int} {xs : List VMC} {k : Nat} (h : k < xs.length) : smS p a (xs.take (k + 1)) = if p xs[k] then wrap64 (smS p a (xs.take k) - xs[k].mem) else smS p a (xs.take k) := by
  unfold smS
  rw [List.take_succ_eq_append_getElem h, List.foldl_append]
  rfl
/-- What is left of a node's memory without a machine of a name. -/
def leV (s : CL) (k : Nat) (nm : ByteArray) : Int := smS (onB s k nm) (ndA s k).mem s.vms
def bsS (s : CL) (v : VMC) (t : ByteArray × Int) (k : Nat) : ByteArray × Int := if (decide (myV s (ndA s k).name v = 0) && (t.1.toList.isEmpty || decide (t.2 < leV s k v.name))) = true then ((ndA s k).name, leV s k v.name) else t
def bsK (s : CL) (v : VMC) (j : Nat) : ByteArray × Int := (List.range j).foldl (bsS s v) (⟨#[]⟩, 0)
theorem bsK_succ (s : CL) (v : VMC) (j : Nat) : bsK s v (j + 1) = bsS s v (bsK s v j) j := by simp [bsK, List.range_succ]
def bnV (s : CL) (v : VMC) : ByteArray := if cfB s = false then ⟨#[]⟩ else if vmB s.tenants.length v = false then ⟨#[]⟩ else (bsK s v s.nodes.length).1
set_option maxRecDepth 100000 in
set_option maxHeartbeats 4000000 in
theorem l22Left_any {w : World} {s : CL} {a : CA} (h : CLRows w s a) (hl : s.vms.length ≤ 1048576) (q : Nat) (hq : q < s.nodes.length) (nm : ByteArray) : Calls Try.prog 64 #[clA s a, .int .i64 q, .string nm] w fun e w' => e = .returned (.int .i64 (leV s q nm)) ∧ Below w.heap.size w w' := by
  obtain ⟨an, kn, av, kv, ae, ke, e⟩ := h.sl
  subst e
  have HRN : Hid (NODrow w (.slice an s.nodes.length kn) s.nodes) := h.rnodes
  have HR : Hid (VMCrow w (.slice av s.vms.length kv) s.vms) := h.rvms
  clear h
  have HE : Hid (leV s q nm = smS (onB s q nm) s.nodes[q].mem (s.vms.take s.vms.length)) := by rw [List.take_length, ← ndA_at hq]; rfl
  have HON : Hid (∀ x, onB s q nm x = ((x.node.toList == s.nodes[q].name.toList) && !(x.name.toList == nm.toList))) := by rw [← ndA_at hq]; exact fun x => rfl
  generalize leV s q nm = V at *
  have HL0 : Hid (LG w (w.alloc (.cells #[.slice an s.nodes.length kn, .slice av s.vms.length kv, .slice ae s.tenants.length ke, .int .i64 s.over, .int .i64 s.time] 33)) w.heap.size #[.slice an s.nodes.length kn, .slice av s.vms.length kv, .slice ae s.tenants.length ke, .int .i64 s.over, .int .i64 s.time] 33) := LG.new w _ _
  obtain ⟨g, o, cap2, hv, _, hg, hc⟩ := HRN.out.resolve_left (fun h => by rw [h.1] at hq; simp at hq)
  injection hv with hv1 hv2 hv3
  subst hv1 hv3
  obtain ⟨d0, _, d2, _⟩ := hc.below HL0.out.bel hg q hq
  have hk0 : (0 : Int) ≤ (q : Int) := by omega
  have hk1 : (q : Int) < (s.nodes.length : Int) := by omega
  have hgu : g < (w.alloc (.cells #[.slice (some ⟨g, o, none⟩) s.nodes.length kn, .slice av s.vms.length kv, .slice ae s.tenants.length ke, .int .i64 s.over, .int .i64 s.time] 33)).heap.size := Nat.lt_of_lt_of_le hg HL0.out.bel.size
  unfold clA clC
  simp only
  go_enter Try.func64, Try.ntmps64
  go_upto_region 1 with fail
  generalize (w.alloc (.cells #[.slice (some ⟨g, o, none⟩) s.nodes.length kn, .slice av s.vms.length kv, .slice ae s.tenants.length ke, .int .i64 s.over, .int .i64 s.time] 33)) = u0 at *
  have c0 := HL0.out.cel 0 _ rfl
  have cl := HL0.out.lt
  have HN0 : Hid (∀ u, Below u0.heap.size u0 u → u.cell? ⟨g, o + q * 7, none⟩ = some (.string s.nodes[q].name)) := fun u hu => (hu.cell (p := ⟨g, o + q * 7, none⟩) hgu).trans d0
  generalize s.nodes[q] = n at *
  clear hc HRN
  go_wp2
  clear c0 cl d0 d2
  have HG0 : Hid (g < w.heap.size) := hg
  have HNW : Hid (∀ u, Below w.heap.size u0 u → u.cell? ⟨g, o + q * 7, none⟩ = some (.string n.name)) := fun u hu => (hu.cell (p := ⟨g, o + q * 7, none⟩) hg).trans (HN0.out u0 (Below.refl _ _))
  clear HN0 hgu hg
  have HU0 : Hid (Below w.heap.size w u0) := HL0.out.bel
  generalize hbb : w.heap.size = bb at HL0 ⊢
  go_loopw [7, 8] (fun c i wr => ∃ k : Nat, k ≤ s.vms.length ∧ c = .int .i64 (smS (onB s q nm) n.mem (s.vms.take k)) ∧ i = .int .i64 k ∧ Below w.heap.size u0 wr ∧ LG w wr bb #[.slice (some ⟨g, o, none⟩) s.nodes.length kn, .slice av s.vms.length kv, .slice ae s.tenants.length ke, .int .i64 s.over, .int .i64 s.time] 33) (fun _ i _ => s.vms.length - (intOf i).toNat)
  case atStart => exact ⟨0, Nat.zero_le _, rfl, rfl, Below.refl _ _, HL0.out⟩
  case round =>
    obtain ⟨k, hk, rfl, rfl, hb0, hb⟩ := hrel
    have HX : Hid (LG w wr bb #[.slice (some ⟨g, o, none⟩) s.nodes.length kn, .slice av s.vms.length kv, .slice ae s.tenants.length ke, .int .i64 s.over, .int .i64 s.time] 33) := hb
    have HY : Hid (Below w.heap.size u0 wr) := hb0
    have HB : Hid (Below w.heap.size w wr) := hb.bel
    have m0 := HNW.out wr hb0
    clear hb hb0 HL0
    have c0 := HX.out.cel 0 (.slice (some ⟨g, o, none⟩) s.nodes.length kn) rfl
    have c1 := HX.out.cel 1 (.slice av s.vms.length kv) rfl
    have cl := HX.out.lt
    by_cases hlt : k < s.vms.length
    · obtain ⟨g2, o2, cap2, hv, _, hg2, hc⟩ := HR.out.resolve_left (fun h => by rw [h.1] at hlt; simp at hlt)
      injection hv with hv1 hv2 hv3
      subst hv1 hv3
      have hj0 : (0 : Int) ≤ (k : Int) := by omega
      have hj1 : (k : Int) < (s.vms.length : Int) := by omega
      obtain ⟨d0, _, _, d3, _, _, d6, _⟩ := hc.below HB.out hg2 k hlt
      have HS : Hid (smS (onB s q nm) n.mem (s.vms.take (k + 1)) = _) := smS_succ hlt
      have HO1 := HON.out s.vms[k]
      generalize smS (onB s q nm) n.mem (s.vms.take k) = SC at *
      clear hc HE HON HR HNW
      generalize s.vms[k] = x at *
      have HO : Hid _ := HO1
      clear HO1
      cases t1 : (x.node.toList == n.name.toList)
      · have E2 : Hid (smS (onB s q nm) n.mem (s.vms.take (k + 1)) = SC) := HS.out.trans (if_neg (by rw [HO.out, t1]; simp))
        clear HS HO
        go_upto_region 5 with fail
        go_quiet (fail)
        go_wp2
        exact ⟨⟨k + 1, hlt, by rw [E2.out], by go_num, bdn HY.out _, HX.out.drewN _⟩, by simp [intOf]; omega⟩
      · cases t2 : (x.name.toList == nm.toList)
        rotate_left
        · have E2 : Hid (smS (onB s q nm) n.mem (s.vms.take (k + 1)) = SC) := HS.out.trans (if_neg (by rw [HO.out, t1, t2]; decide))
          clear HS HO
          go_upto_region 5 with fail
          go_quiet (fail)
          go_wp2
          exact ⟨⟨k + 1, hlt, by rw [E2.out], by go_num, bdn HY.out _, HX.out.drewN _⟩, by simp [intOf]; omega⟩
        · have E2 : Hid (smS (onB s q nm) n.mem (s.vms.take (k + 1)) = wrap64 (SC - x.mem)) := HS.out.trans (if_pos (by rw [HO.out, t1, t2]; rfl))
          clear HS HO
          go_upto_region 5 with fail
          go_quiet (fail)
          go_wp2
          exact ⟨⟨k + 1, hlt, by rw [E2.out], by go_num, bdn HY.out _, HX.out.drewN _⟩, by simp [intOf]; omega⟩
    · obtain rfl : k = s.vms.length := by omega
      go_wp2
      go_ret
      exact ⟨ret_int HE.out.symm, hbb ▸ HB.out⟩
set_option maxRecDepth 100000 in
set_option maxHeartbeats 8000000 in
theorem l22Best_any {w : World} {s : CL} {a : CA} (h : CLRows w s a) (hl : CLlen s) (v : VMC) : Calls Try.prog 37 #[clA s a, .agg #[.string v.name, .int .i64 v.tenant, .int .i64 v.cpu, .int .i64 v.mem, .int .i64 v.zone, .int .i64 v.apart, .string v.node, .int .i64 v.epoch]] w fun e w' => e = .returned (.string (bsK s v s.nodes.length).1) ∧ Below w.heap.size w w' := by
  have HLE : Hid (∀ u q, Aft w u → q < s.nodes.length → Calls Try.prog 64 #[clA s a, .int .i64 (q : Nat), .string v.name] u fun e w' => e = .returned (.int .i64 (leV s q v.name)) ∧ Below u.heap.size u w') := fun u q hu hq => l22Left_any (h.below hu.out) hl.lvms.1 q hq v.name
  have HMY : Hid (∀ u nm, Aft w u → Calls Try.prog 32 #[clA s a, .string nm, .agg #[.string v.name, .int .i64 v.tenant, .int .i64 v.cpu, .int .i64 v.mem, .int .i64 v.zone, .int .i64 v.apart, .string v.node, .int .i64 v.epoch]] u fun e w' => e = .returned (.int .i64 (myV s nm v)) ∧ Below u.heap.size u w') := fun u nm hu => l22May_any (h.below hu.out) hl nm v
  have hn : s.nodes.length ≤ 1048576 := hl.lnodes.1
  obtain ⟨an, kn, av, kv, ae, ke, e⟩ := h.sl
  subst e
  have HR : Hid (NODrow w (.slice an s.nodes.length kn) s.nodes) := h.rnodes
  clear h hl
  have HL0 : Hid (LG w ((w.alloc (.cells #[.slice an s.nodes.length kn, .slice av s.vms.length kv, .slice ae s.tenants.length ke, .int .i64 s.over, .int .i64 s.time] 33)).alloc (.cells #[.string v.name, .int .i64 v.tenant, .int .i64 v.cpu, .int .i64 v.mem, .int .i64 v.zone, .int .i64 v.apart, .string v.node, .int .i64 v.epoch] 41)) w.heap.size #[.slice an s.nodes.length kn, .slice av s.vms.length kv, .slice ae s.tenants.length ke, .int .i64 s.over, .int .i64 s.time] 33) := (LG.new w _ _).next
  have HV0 : Hid (LG w ((w.alloc (.cells #[.slice an s.nodes.length kn, .slice av s.vms.length kv, .slice ae s.tenants.length ke, .int .i64 s.over, .int .i64 s.time] 33)).alloc (.cells #[.string v.name, .int .i64 v.tenant, .int .i64 v.cpu, .int .i64 v.mem, .int .i64 v.zone, .int .i64 v.apart, .string v.node, .int .i64 v.epoch] 41)) (w.heap.size + 1) #[.string v.name, .int .i64 v.tenant, .int .i64 v.cpu, .int .i64 v.mem, .int .i64 v.zone, .int .i64 v.apart, .string v.node, .int .i64 v.epoch] 41) := (LG.mk2 (LG.new w _ _).bel).cast (by simp)
  unfold clA clC at HLE HMY
  unfold clA clC
  simp only at HLE HMY ⊢
  obtain ⟨V, hV⟩ : ∃ V, (bsK s v s.nodes.length).1 = V := ⟨_, rfl⟩
  rw [hV]
  have HEV : Hid ((bsK s v s.nodes.length).1 = V) := hV
  clear hV
  go_enter Try.func37, Try.ntmps37
  go_upto_region 1 with fail
  generalize ((w.alloc (.cells #[.slice an s.nodes.length kn, .slice av s.vms.length kv, .slice ae s.tenants.length ke, .int .i64 s.over, .int .i64 s.time] 33)).alloc (.cells #[.string v.name, .int .i64 v.tenant, .int .i64 v.cpu, .int .i64 v.mem, .int .i64 v.zone, .int .i64 v.apart, .string v.node, .int .i64 v.epoch] 41)) = u0 at *
  generalize hvb : w.heap.size + 1 = bv at HV0 ⊢
  generalize hbb : w.heap.size = bc at HL0 ⊢
  have c0 := HL0.out.cel 0 (.slice an s.nodes.length kn) rfl
  have cl := HL0.out.lt
  go_wp2
  clear c0 cl
  go_loopw [5, 6, 7] (fun b l i wr => ∃ k : Nat, k ≤ s.nodes.length ∧ b = .string (bsK s v k).1 ∧ l = .int .i64 (bsK s v k).2 ∧ i = .int .i64 k ∧ LG w wr bc #[.slice an s.nodes.length kn, .slice av s.vms.length kv, .slice ae s.tenants.length ke, .int .i64 s.over, .int .i64 s.time] 33 ∧ LG w wr bv #[.string v.name, .int .i64 v.tenant, .int .i64 v.cpu, .int .i64 v.mem, .int .i64 v.zone, .int .i64 v.apart, .string v.node, .int .i64 v.epoch] 41) (fun _ _ i _ => s.nodes.length - (intOf i).toNat)
  case atStart => exact ⟨0, Nat.zero_le _, rfl, rfl, rfl, HL0.out, HV0.out⟩
  case round =>
    obtain ⟨k, hk, rfl, rfl, rfl, hb, hb2⟩ := hrel
    have HX : Hid (LG w wr bc #[.slice an s.nodes.length kn, .slice av s.vms.length kv, .slice ae s.tenants.length ke, .int .i64 s.over, .int .i64 s.time] 33) := hb
    have HY : Hid (LG w wr bv #[.string v.name, .int .i64 v.tenant, .int .i64 v.cpu, .int .i64 v.mem, .int .i64 v.zone, .int .i64 v.apart, .string v.node, .int .i64 v.epoch] 41) := hb2
    clear hb hb2 HL0 HV0
    have c0 := HX.out.cel 0 (.slice an s.nodes.length kn) rfl
    have c1 := HX.out.cel 1 (.slice av s.vms.length kv) rfl
    have c2 := HX.out.cel 2 (.slice ae s.tenants.length ke) rfl
    have c3 := HX.out.cel 3 (.int .i64 s.over) rfl
    have c4 := HX.out.cel 4 (.int .i64 s.time) rfl
    have cl := HX.out.lt
    have v0 := HY.out.cel 0 _ rfl
    have vl := HY.out.lt
    by_cases hlt : k < s.nodes.length
    · have HLK : Hid (∀ u, Aft w u → Calls Try.prog 64 #[.agg #[.slice an s.nodes.length kn, .slice av s.vms.length kv, .slice ae s.tenants.length ke, .int .i64 s.over, .int .i64 s.time], .int .i64 (k : Int), .string v.name] u fun e w' => e = .returned (.int .i64 (leV s k v.name)) ∧ Below u.heap.size u w') := fun u hu => HLE.out u k hu hlt
      have HMK : Hid (∀ u, Aft w u → Calls Try.prog 32 #[.agg #[.slice an s.nodes.length kn, .slice av s.vms.length kv, .slice ae s.tenants.length ke, .int .i64 s.over, .int .i64 s.time], .string s.nodes[k].name, .agg #[.string v.name, .int .i64 v.tenant, .int .i64 v.cpu, .int .i64 v.mem, .int .i64 v.zone, .int .i64 v.apart, .string v.node, .int .i64 v.epoch]] u fun e w' => e = .returned (.int .i64 (myV s s.nodes[k].name v)) ∧ Below u.heap.size u w') := fun u hu => HMY.out u _ hu
      have HST : Hid (bsK s v (k + 1) = if (decide (myV s s.nodes[k].name v = 0) && ((bsK s v k).1.toList.isEmpty || decide ((bsK s v k).2 < leV s k v.name))) = true then (s.nodes[k].name, leV s k v.name) else bsK s v k) := (show _ = _ by rw [bsK_succ]; unfold bsS; rw [ndA_at hlt])
      have HPR : Hid (bsK s v k = ((bsK s v k).1, (bsK s v k).2)) := rfl
      obtain ⟨g, o, cap2, hv, _, hg, hc⟩ := HR.out.resolve_left (fun h => by rw [h.1] at hlt; simp at hlt)
      injection hv with hv1 hv2 hv3
      subst hv1 hv3
      have hk0 : (0 : Int) ≤ (k : Int) := by omega
      have hk1 : (k : Int) < (s.nodes.length : Int) := by omega
      have HD : Hid (∀ u, Below w.heap.size w u → u.cell? ⟨g, o + k * 7, none⟩ = some (.string s.nodes[k].name) ∧ g < u.heap.size) := fun u hu => ⟨(hc.below hu hg k hlt).1, Nat.lt_of_lt_of_le hg hu.size⟩
      clear hc hg HLE HMY HR HEV
      generalize s.nodes[k].name = z at *
      generalize myV s z v = MY at *
      generalize leV s k v.name = LE at *
      generalize (bsK s v k).1 = BT at *
      generalize (bsK s v k).2 = LF at *
      go_upto_region 7 with (go_at_call 64; refine Calls.mono (HLK.out _ HX.out.aft) ?_; rintro e w1 ⟨rfl, hb⟩)
      have HX1 : Hid (LG w w1 bc #[.slice (some ⟨g, o, none⟩) s.nodes.length kn, .slice av s.vms.length kv, .slice ae s.tenants.length ke, .int .i64 s.over, .int .i64 s.time] 33) := HX.out.step hb
      have HY1 : Hid (LG w w1 bv #[.string v.name, .int .i64 v.tenant, .int .i64 v.cpu, .int .i64 v.mem, .int .i64 v.zone, .int .i64 v.apart, .string v.node, .int .i64 v.epoch] 41) := HY.out.step hb
      clear hb HX HY HLK c0 c1 c2 c3 c4 cl v0 vl
      have hmd : (MY == 0) = decide (MY = 0) := by rw [← Bool.beq_eq_decide_eq]
      have HMD : Hid _ := hmd
      clear hmd
      cases t1 : (MY == 0)
      · skip
        have E2 : Hid (bsK s v (k + 1) = bsK s v k) := HST.out.trans (if_neg (by rw [← HMD.out, t1]; simp))
        clear HST
        have HSB : Hid ((fun w' => LG w w' bc #[.slice (some ⟨g, o, none⟩) s.nodes.length kn, .slice av s.vms.length kv, .slice ae s.tenants.length ke, .int .i64 s.over, .int .i64 s.time] 33 ∧ LG w w' bv #[.string v.name, .int .i64 v.tenant, .int .i64 v.cpu, .int .i64 v.mem, .int .i64 v.zone, .int .i64 v.apart, .string v.node, .int .i64 v.epoch] 41) w1.drew) := ⟨HX1.out.drew, HY1.out.drew⟩
        refine wp_region_held (S := fun w' => LG w w' bc #[.slice (some ⟨g, o, none⟩) s.nodes.length kn, .slice av s.vms.length kv, .slice ae s.tenants.length ke, .int .i64 s.over, .int .i64 s.time] 33 ∧ LG w w' bv #[.string v.name, .int .i64 v.tenant, .int .i64 v.cpu, .int .i64 v.mem, .int .i64 v.zone, .int .i64 v.apart, .string v.node, .int .i64 v.epoch] 41) (by kernel_rfl) ?_
        change wpAnyH _ _ _ _ _ _ _ _ (World.drew _)
        refine wpAnyH_take (i := 0) (v := .agg #[.slice (some ⟨g, o, none⟩) s.nodes.length kn, .slice av s.vms.length kv, .slice ae s.tenants.length ke, .int .i64 s.over, .int .i64 s.time]) rfl (by kernel_rfl) (by kernel_rfl) (by kernel_rfl) (fun _ _ _ h => h) (Or.inl ⟨by kernel_rfl, fun w9 h9 => ?_⟩) HSB.out ?_
        · obtain ⟨hlg, hvg⟩ := h9; obtain ⟨y0, gl⟩ := HD.out w9 hlg.bel; have z0 := hlg.cel 0 _ rfl; have z1 := hlg.cel 1 _ rfl; have z2 := hlg.cel 2 _ rfl; have z3 := hlg.cel 3 _ rfl; have z4 := hlg.cel 4 _ rfl; have y1 := hvg.cel 0 _ rfl; have y2 := hvg.cel 1 _ rfl; have y3 := hvg.cel 2 _ rfl; have y4 := hvg.cel 3 _ rfl; have y5 := hvg.cel 4 _ rfl; have y6 := hvg.cel 5 _ rfl; have y7 := hvg.cel 6 _ rfl; have y8 := hvg.cel 7 _ rfl; go_simp
        refine wpAnyH_take (i := 1) (v := .pointer (some ⟨bc, 0, none⟩)) rfl (by kernel_rfl) (by kernel_rfl) (by kernel_rfl) (fun _ _ _ h => h) (Or.inl ⟨by kernel_rfl, fun w9 h9 => ?_⟩) HSB.out ?_
        · go_simp
        refine wpAnyH_take (i := 2) (v := .slice (some ⟨g, o, none⟩) s.nodes.length kn) rfl (by kernel_rfl) (by kernel_rfl) (by kernel_rfl) (fun _ _ _ h => h) (Or.inl ⟨by kernel_rfl, fun w9 h9 => ?_⟩) HSB.out ?_
        · obtain ⟨hlg, hvg⟩ := h9; obtain ⟨y0, gl⟩ := HD.out w9 hlg.bel; have z0 := hlg.cel 0 _ rfl; have z1 := hlg.cel 1 _ rfl; have z2 := hlg.cel 2 _ rfl; have z3 := hlg.cel 3 _ rfl; have z4 := hlg.cel 4 _ rfl; have y1 := hvg.cel 0 _ rfl; have y2 := hvg.cel 1 _ rfl; have y3 := hvg.cel 2 _ rfl; have y4 := hvg.cel 3 _ rfl; have y5 := hvg.cel 4 _ rfl; have y6 := hvg.cel 5 _ rfl; have y7 := hvg.cel 6 _ rfl; have y8 := hvg.cel 7 _ rfl; go_simp
        refine wpAnyH_take (i := 3) (v := .int .i64 (k : Int)) rfl (by kernel_rfl) (by kernel_rfl) (by kernel_rfl) (fun _ _ _ h => h) (Or.inl ⟨by kernel_rfl, fun w9 h9 => ?_⟩) HSB.out ?_
        · go_simp
        refine wpAnyH_take (i := 4) (v := .pointer (some ⟨g, o + k * 7, none⟩)) rfl (by kernel_rfl) (by kernel_rfl) (by kernel_rfl) (fun _ _ _ h => h) (Or.inl ⟨by kernel_rfl, fun w9 h9 => ?_⟩) HSB.out ?_
        · go_simp
        refine wpAnyH_take (i := 5) (v := .pointer (some ⟨g, o + k * 7, none⟩)) rfl (by kernel_rfl) (by kernel_rfl) (by kernel_rfl) (fun _ _ _ h => h) (Or.inl ⟨by kernel_rfl, fun w9 h9 => ?_⟩) HSB.out ?_
        · go_simp
        refine wpAnyH_take (i := 6) (v := .string z) rfl (by kernel_rfl) (by kernel_rfl) (by kernel_rfl) (fun _ _ _ h => h) (Or.inl ⟨by kernel_rfl, fun w9 h9 => ?_⟩) HSB.out ?_
        · obtain ⟨hlg, hvg⟩ := h9; obtain ⟨y0, gl⟩ := HD.out w9 hlg.bel; have z0 := hlg.cel 0 _ rfl; have z1 := hlg.cel 1 _ rfl; have z2 := hlg.cel 2 _ rfl; have z3 := hlg.cel 3 _ rfl; have z4 := hlg.cel 4 _ rfl; have y1 := hvg.cel 0 _ rfl; have y2 := hvg.cel 1 _ rfl; have y3 := hvg.cel 2 _ rfl; have y4 := hvg.cel 3 _ rfl; have y5 := hvg.cel 4 _ rfl; have y6 := hvg.cel 5 _ rfl; have y7 := hvg.cel 6 _ rfl; have y8 := hvg.cel 7 _ rfl; go_simp
        refine wpAnyH_take (i := 7) (v := .agg #[.string v.name, .int .i64 v.tenant, .int .i64 v.cpu, .int .i64 v.mem, .int .i64 v.zone, .int .i64 v.apart, .string v.node, .int .i64 v.epoch]) rfl (by kernel_rfl) (by kernel_rfl) (by kernel_rfl) (fun _ _ _ h => h) (Or.inl ⟨by kernel_rfl, fun w9 h9 => ?_⟩) HSB.out ?_
        · obtain ⟨hlg, hvg⟩ := h9; obtain ⟨y0, gl⟩ := HD.out w9 hlg.bel; have z0 := hlg.cel 0 _ rfl; have z1 := hlg.cel 1 _ rfl; have z2 := hlg.cel 2 _ rfl; have z3 := hlg.cel 3 _ rfl; have z4 := hlg.cel 4 _ rfl; have y1 := hvg.cel 0 _ rfl; have y2 := hvg.cel 1 _ rfl; have y3 := hvg.cel 2 _ rfl; have y4 := hvg.cel 3 _ rfl; have y5 := hvg.cel 4 _ rfl; have y6 := hvg.cel 5 _ rfl; have y7 := hvg.cel 6 _ rfl; have y8 := hvg.cel 7 _ rfl; go_simp
        refine held_one 8 (by kernel_rfl) rfl (by kernel_rfl) fun K hK => ?_
        go_simp
        go_wp2_with (go_at_call 32; refine Calls.mono (HMK.out _ HSB.out.1.aft) ?_; rintro e w2 ⟨rfl, hb⟩; have HS2 : Hid ((fun w' => LG w w' bc #[.slice (some ⟨g, o, none⟩) s.nodes.length kn, .slice av s.vms.length kv, .slice ae s.tenants.length ke, .int .i64 s.over, .int .i64 s.time] 33 ∧ LG w w' bv #[.string v.name, .int .i64 v.tenant, .int .i64 v.cpu, .int .i64 v.mem, .int .i64 v.zone, .int .i64 v.apart, .string v.node, .int .i64 v.epoch] 41) w2) := ⟨HSB.out.1.step hb, HSB.out.2.step hb⟩; clear hb)
        refine hK _ _ HS2.out ?_
        clear hK K
        refine wpAnyH_take (i := 9) (v := .bool false) rfl (by kernel_rfl) (by kernel_rfl) (by kernel_rfl) (fun _ _ _ h => h) (Or.inl ⟨by kernel_rfl, fun w9 h9 => ?_⟩) HS2.out ?_
        · go_simp
        refine wpAnyH_take (i := 10) (v := .bool false) rfl (by kernel_rfl) (by kernel_rfl) (by kernel_rfl) (fun _ _ _ h => h) (Or.inl ⟨by kernel_rfl, fun w9 h9 => ?_⟩) HS2.out ?_
        · go_simp
        refine wpAnyH_take (i := 11) (v := undef) rfl (by kernel_rfl) (by kernel_rfl) (by kernel_rfl) (fun _ _ _ h => h) (Or.inr ⟨by kernel_rfl, rfl⟩) HS2.out ?_
        refine wpAnyH_take (i := 12) (v := undef) rfl (by kernel_rfl) (by kernel_rfl) (by kernel_rfl) (fun _ _ _ h => h) (Or.inr ⟨by kernel_rfl, rfl⟩) HS2.out ?_
        refine wpAnyH_take (i := 13) (v := undef) rfl (by kernel_rfl) (by kernel_rfl) (by kernel_rfl) (fun _ _ _ h => h) (Or.inr ⟨by kernel_rfl, rfl⟩) HS2.out ?_
        refine wpAnyH_take (i := 14) (v := undef) rfl (by kernel_rfl) (by kernel_rfl) (by kernel_rfl) (fun _ _ _ h => h) (Or.inr ⟨by kernel_rfl, rfl⟩) HS2.out ?_
        refine wpAnyH_take (i := 15) (v := undef) rfl (by kernel_rfl) (by kernel_rfl) (by kernel_rfl) (fun _ _ _ h => h) (Or.inr ⟨by kernel_rfl, rfl⟩) HS2.out ?_
        refine wpAnyH_take (i := 16) (v := undef) rfl (by kernel_rfl) (by kernel_rfl) (by kernel_rfl) (fun _ _ _ h => h) (Or.inr ⟨by kernel_rfl, rfl⟩) HS2.out ?_
        refine wpAnyH_take (i := 17) (v := undef) rfl (by kernel_rfl) (by kernel_rfl) (by kernel_rfl) (fun _ _ _ h => h) (Or.inr ⟨by kernel_rfl, rfl⟩) HS2.out ?_
        refine wpAnyH_take (i := 18) (v := .bool false) rfl (by kernel_rfl) (by kernel_rfl) (by kernel_rfl) (fun _ _ _ h => h) (Or.inl ⟨by kernel_rfl, fun w9 h9 => ?_⟩) HS2.out ?_
        · go_simp
        refine wpAnyH_done (by kernel_rfl) ?_ _
        go_simp
        go_wp2
        exact ⟨⟨k + 1, hlt, by rw [E2.out, HPR.out], by rw [E2.out, HPR.out], by go_num, HS2.out.1, HS2.out.2⟩, by simp [intOf]; omega⟩
      · cases t2 : BT.toList.isEmpty
        rotate_left
        · skip
          have E2 : Hid (bsK s v (k + 1) = (z, LE)) := HST.out.trans (if_pos (by rw [← HMD.out, t1, t2]; simp))
          clear HST HPR
          have HSB : Hid ((fun w' => LG w w' bc #[.slice (some ⟨g, o, none⟩) s.nodes.length kn, .slice av s.vms.length kv, .slice ae s.tenants.length ke, .int .i64 s.over, .int .i64 s.time] 33 ∧ LG w w' bv #[.string v.name, .int .i64 v.tenant, .int .i64 v.cpu, .int .i64 v.mem, .int .i64 v.zone, .int .i64 v.apart, .string v.node, .int .i64 v.epoch] 41) w1.drew) := ⟨HX1.out.drew, HY1.out.drew⟩
          refine wp_region_held (S := fun w' => LG w w' bc #[.slice (some ⟨g, o, none⟩) s.nodes.length kn, .slice av s.vms.length kv, .slice ae s.tenants.length ke, .int .i64 s.over, .int .i64 s.time] 33 ∧ LG w w' bv #[.string v.name, .int .i64 v.tenant, .int .i64 v.cpu, .int .i64 v.mem, .int .i64 v.zone, .int .i64 v.apart, .string v.node, .int .i64 v.epoch] 41) (by kernel_rfl) ?_
          change wpAnyH _ _ _ _ _ _ _ _ (World.drew _)
          refine wpAnyH_take (i := 0) (v := .agg #[.slice (some ⟨g, o, none⟩) s.nodes.length kn, .slice av s.vms.length kv, .slice ae s.tenants.length ke, .int .i64 s.over, .int .i64 s.time]) rfl (by kernel_rfl) (by kernel_rfl) (by kernel_rfl) (fun _ _ _ h => h) (Or.inl ⟨by kernel_rfl, fun w9 h9 => ?_⟩) HSB.out ?_
          · obtain ⟨hlg, hvg⟩ := h9; obtain ⟨y0, gl⟩ := HD.out w9 hlg.bel; have z0 := hlg.cel 0 _ rfl; have z1 := hlg.cel 1 _ rfl; have z2 := hlg.cel 2 _ rfl; have z3 := hlg.cel 3 _ rfl; have z4 := hlg.cel 4 _ rfl; have y1 := hvg.cel 0 _ rfl; have y2 := hvg.cel 1 _ rfl; have y3 := hvg.cel 2 _ rfl; have y4 := hvg.cel 3 _ rfl; have y5 := hvg.cel 4 _ rfl; have y6 := hvg.cel 5 _ rfl; have y7 := hvg.cel 6 _ rfl; have y8 := hvg.cel 7 _ rfl; go_simp
          refine wpAnyH_take (i := 1) (v := .pointer (some ⟨bc, 0, none⟩)) rfl (by kernel_rfl) (by kernel_rfl) (by kernel_rfl) (fun _ _ _ h => h) (Or.inl ⟨by kernel_rfl, fun w9 h9 => ?_⟩) HSB.out ?_
          · go_simp
          refine wpAnyH_take (i := 2) (v := .slice (some ⟨g, o, none⟩) s.nodes.length kn) rfl (by kernel_rfl) (by kernel_rfl) (by kernel_rfl) (fun _ _ _ h => h) (Or.inl ⟨by kernel_rfl, fun w9 h9 => ?_⟩) HSB.out ?_
          · obtain ⟨hlg, hvg⟩ := h9; obtain ⟨y0, gl⟩ := HD.out w9 hlg.bel; have z0 := hlg.cel 0 _ rfl; have z1 := hlg.cel 1 _ rfl; have z2 := hlg.cel 2 _ rfl; have z3 := hlg.cel 3 _ rfl; have z4 := hlg.cel 4 _ rfl; have y1 := hvg.cel 0 _ rfl; have y2 := hvg.cel 1 _ rfl; have y3 := hvg.cel 2 _ rfl; have y4 := hvg.cel 3 _ rfl; have y5 := hvg.cel 4 _ rfl; have y6 := hvg.cel 5 _ rfl; have y7 := hvg.cel 6 _ rfl; have y8 := hvg.cel 7 _ rfl; go_simp
          refine wpAnyH_take (i := 3) (v := .int .i64 (k : Int)) rfl (by kernel_rfl) (by kernel_rfl) (by kernel_rfl) (fun _ _ _ h => h) (Or.inl ⟨by kernel_rfl, fun w9 h9 => ?_⟩) HSB.out ?_
          · go_simp
          refine wpAnyH_take (i := 4) (v := .pointer (some ⟨g, o + k * 7, none⟩)) rfl (by kernel_rfl) (by kernel_rfl) (by kernel_rfl) (fun _ _ _ h => h) (Or.inl ⟨by kernel_rfl, fun w9 h9 => ?_⟩) HSB.out ?_
          · go_simp
          refine wpAnyH_take (i := 5) (v := .pointer (some ⟨g, o + k * 7, none⟩)) rfl (by kernel_rfl) (by kernel_rfl) (by kernel_rfl) (fun _ _ _ h => h) (Or.inl ⟨by kernel_rfl, fun w9 h9 => ?_⟩) HSB.out ?_
          · go_simp
          refine wpAnyH_take (i := 6) (v := .string z) rfl (by kernel_rfl) (by kernel_rfl) (by kernel_rfl) (fun _ _ _ h => h) (Or.inl ⟨by kernel_rfl, fun w9 h9 => ?_⟩) HSB.out ?_
          · obtain ⟨hlg, hvg⟩ := h9; obtain ⟨y0, gl⟩ := HD.out w9 hlg.bel; have z0 := hlg.cel 0 _ rfl; have z1 := hlg.cel 1 _ rfl; have z2 := hlg.cel 2 _ rfl; have z3 := hlg.cel 3 _ rfl; have z4 := hlg.cel 4 _ rfl; have y1 := hvg.cel 0 _ rfl; have y2 := hvg.cel 1 _ rfl; have y3 := hvg.cel 2 _ rfl; have y4 := hvg.cel 3 _ rfl; have y5 := hvg.cel 4 _ rfl; have y6 := hvg.cel 5 _ rfl; have y7 := hvg.cel 6 _ rfl; have y8 := hvg.cel 7 _ rfl; go_simp
          refine wpAnyH_take (i := 7) (v := .agg #[.string v.name, .int .i64 v.tenant, .int .i64 v.cpu, .int .i64 v.mem, .int .i64 v.zone, .int .i64 v.apart, .string v.node, .int .i64 v.epoch]) rfl (by kernel_rfl) (by kernel_rfl) (by kernel_rfl) (fun _ _ _ h => h) (Or.inl ⟨by kernel_rfl, fun w9 h9 => ?_⟩) HSB.out ?_
          · obtain ⟨hlg, hvg⟩ := h9; obtain ⟨y0, gl⟩ := HD.out w9 hlg.bel; have z0 := hlg.cel 0 _ rfl; have z1 := hlg.cel 1 _ rfl; have z2 := hlg.cel 2 _ rfl; have z3 := hlg.cel 3 _ rfl; have z4 := hlg.cel 4 _ rfl; have y1 := hvg.cel 0 _ rfl; have y2 := hvg.cel 1 _ rfl; have y3 := hvg.cel 2 _ rfl; have y4 := hvg.cel 3 _ rfl; have y5 := hvg.cel 4 _ rfl; have y6 := hvg.cel 5 _ rfl; have y7 := hvg.cel 6 _ rfl; have y8 := hvg.cel 7 _ rfl; go_simp
          refine held_one 8 (by kernel_rfl) rfl (by kernel_rfl) fun K hK => ?_
          go_simp
          go_wp2_with (go_at_call 32; refine Calls.mono (HMK.out _ HSB.out.1.aft) ?_; rintro e w2 ⟨rfl, hb⟩; have HS2 : Hid ((fun w' => LG w w' bc #[.slice (some ⟨g, o, none⟩) s.nodes.length kn, .slice av s.vms.length kv, .slice ae s.tenants.length ke, .int .i64 s.over, .int .i64 s.time] 33 ∧ LG w w' bv #[.string v.name, .int .i64 v.tenant, .int .i64 v.cpu, .int .i64 v.mem, .int .i64 v.zone, .int .i64 v.apart, .string v.node, .int .i64 v.epoch] 41) w2) := ⟨HSB.out.1.step hb, HSB.out.2.step hb⟩; clear hb)
          refine hK _ _ HS2.out ?_
          clear hK K
          refine wpAnyH_take (i := 9) (v := .bool true) rfl (by kernel_rfl) (by kernel_rfl) (by kernel_rfl) (fun _ _ _ h => h) (Or.inl ⟨by kernel_rfl, fun w9 h9 => ?_⟩) HS2.out ?_
          · go_simp
          refine wpAnyH_take (i := 10) (v := .bool true) rfl (by kernel_rfl) (by kernel_rfl) (by kernel_rfl) (fun _ _ _ h => h) (Or.inl ⟨by kernel_rfl, fun w9 h9 => ?_⟩) HS2.out ?_
          · go_simp
          refine wpAnyH_take (i := 11) (v := .string BT) rfl (by kernel_rfl) (by kernel_rfl) (by kernel_rfl) (fun _ _ _ h => h) (Or.inl ⟨by kernel_rfl, fun w9 h9 => ?_⟩) HS2.out ?_
          · go_simp
          refine wpAnyH_take (i := 12) (v := .bool true) rfl (by kernel_rfl) (by kernel_rfl) (by kernel_rfl) (fun _ _ _ h => h) (Or.inl ⟨by kernel_rfl, fun w9 h9 => ?_⟩) HS2.out ?_
          · go_simp
          refine wpAnyH_take (i := 13) (v := .bool true) rfl (by kernel_rfl) (by kernel_rfl) (by kernel_rfl) (fun _ _ _ h => h) (Or.inl ⟨by kernel_rfl, fun w9 h9 => ?_⟩) HS2.out ?_
          · go_simp
          refine wpAnyH_take (i := 14) (v := undef) rfl (by kernel_rfl) (by kernel_rfl) (by kernel_rfl) (fun _ _ _ h => h) (Or.inr ⟨by kernel_rfl, rfl⟩) HS2.out ?_
          refine wpAnyH_take (i := 15) (v := undef) rfl (by kernel_rfl) (by kernel_rfl) (by kernel_rfl) (fun _ _ _ h => h) (Or.inr ⟨by kernel_rfl, rfl⟩) HS2.out ?_
          refine wpAnyH_take (i := 16) (v := undef) rfl (by kernel_rfl) (by kernel_rfl) (by kernel_rfl) (fun _ _ _ h => h) (Or.inr ⟨by kernel_rfl, rfl⟩) HS2.out ?_
          refine wpAnyH_take (i := 17) (v := .bool true) rfl (by kernel_rfl) (by kernel_rfl) (by kernel_rfl) (fun _ _ _ h => h) (Or.inl ⟨by kernel_rfl, fun w9 h9 => ?_⟩) HS2.out ?_
          · go_simp
          refine wpAnyH_take (i := 18) (v := .bool true) rfl (by kernel_rfl) (by kernel_rfl) (by kernel_rfl) (fun _ _ _ h => h) (Or.inl ⟨by kernel_rfl, fun w9 h9 => ?_⟩) HS2.out ?_
          · go_simp
          refine wpAnyH_done (by kernel_rfl) ?_ _
          go_simp
          obtain ⟨y0, gl⟩ := HD.out _ HS2.out.1.bel
          have z0 := HS2.out.1.cel 0 (.slice (some ⟨g, o, none⟩) s.nodes.length kn) rfl
          have zl := HS2.out.1.lt
          go_wp2
          exact ⟨⟨k + 1, hlt, by rw [E2.out], by rw [E2.out], by go_num, HS2.out.1, HS2.out.2⟩, by simp [intOf]; omega⟩
        · cases t3 : decide (LF < LE)
          · skip
            have E2 : Hid (bsK s v (k + 1) = bsK s v k) := HST.out.trans (if_neg (by rw [← HMD.out, t1, t2, t3]; simp))
            clear HST
            have HSB : Hid ((fun w' => LG w w' bc #[.slice (some ⟨g, o, none⟩) s.nodes.length kn, .slice av s.vms.length kv, .slice ae s.tenants.length ke, .int .i64 s.over, .int .i64 s.time] 33 ∧ LG w w' bv #[.string v.name, .int .i64 v.tenant, .int .i64 v.cpu, .int .i64 v.mem, .int .i64 v.zone, .int .i64 v.apart, .string v.node, .int .i64 v.epoch] 41) w1.drew) := ⟨HX1.out.drew, HY1.out.drew⟩
            refine wp_region_held (S := fun w' => LG w w' bc #[.slice (some ⟨g, o, none⟩) s.nodes.length kn, .slice av s.vms.length kv, .slice ae s.tenants.length ke, .int .i64 s.over, .int .i64 s.time] 33 ∧ LG w w' bv #[.string v.name, .int .i64 v.tenant, .int .i64 v.cpu, .int .i64 v.mem, .int .i64 v.zone, .int .i64 v.apart, .string v.node, .int .i64 v.epoch] 41) (by kernel_rfl) ?_
            change wpAnyH _ _ _ _ _ _ _ _ (World.drew _)
            refine wpAnyH_take (i := 0) (v := .agg #[.slice (some ⟨g, o, none⟩) s.nodes.length kn, .slice av s.vms.length kv, .slice ae s.tenants.length ke, .int .i64 s.over, .int .i64 s.time]) rfl (by kernel_rfl) (by kernel_rfl) (by kernel_rfl) (fun _ _ _ h => h) (Or.inl ⟨by kernel_rfl, fun w9 h9 => ?_⟩) HSB.out ?_
            · obtain ⟨hlg, hvg⟩ := h9; obtain ⟨y0, gl⟩ := HD.out w9 hlg.bel; have z0 := hlg.cel 0 _ rfl; have z1 := hlg.cel 1 _ rfl; have z2 := hlg.cel 2 _ rfl; have z3 := hlg.cel 3 _ rfl; have z4 := hlg.cel 4 _ rfl; have y1 := hvg.cel 0 _ rfl; have y2 := hvg.cel 1 _ rfl; have y3 := hvg.cel 2 _ rfl; have y4 := hvg.cel 3 _ rfl; have y5 := hvg.cel 4 _ rfl; have y6 := hvg.cel 5 _ rfl; have y7 := hvg.cel 6 _ rfl; have y8 := hvg.cel 7 _ rfl; go_simp
            refine wpAnyH_take (i := 1) (v := .pointer (some ⟨bc, 0, none⟩)) rfl (by kernel_rfl) (by kernel_rfl) (by kernel_rfl) (fun _ _ _ h => h) (Or.inl ⟨by kernel_rfl, fun w9 h9 => ?_⟩) HSB.out ?_
            · go_simp
            refine wpAnyH_take (i := 2) (v := .slice (some ⟨g, o, none⟩) s.nodes.length kn) rfl (by kernel_rfl) (by kernel_rfl) (by kernel_rfl) (fun _ _ _ h => h) (Or.inl ⟨by kernel_rfl, fun w9 h9 => ?_⟩) HSB.out ?_
            · obtain ⟨hlg, hvg⟩ := h9; obtain ⟨y0, gl⟩ := HD.out w9 hlg.bel; have z0 := hlg.cel 0 _ rfl; have z1 := hlg.cel 1 _ rfl; have z2 := hlg.cel 2 _ rfl; have z3 := hlg.cel 3 _ rfl; have z4 := hlg.cel 4 _ rfl; have y1 := hvg.cel 0 _ rfl; have y2 := hvg.cel 1 _ rfl; have y3 := hvg.cel 2 _ rfl; have y4 := hvg.cel 3 _ rfl; have y5 := hvg.cel 4 _ rfl; have y6 := hvg.cel 5 _ rfl; have y7 := hvg.cel 6 _ rfl; have y8 := hvg.cel 7 _ rfl; go_simp
            refine wpAnyH_take (i := 3) (v := .int .i64 (k : Int)) rfl (by kernel_rfl) (by kernel_rfl) (by kernel_rfl) (fun _ _ _ h => h) (Or.inl ⟨by kernel_rfl, fun w9 h9 => ?_⟩) HSB.out ?_
            · go_simp
            refine wpAnyH_take (i := 4) (v := .pointer (some ⟨g, o + k * 7, none⟩)) rfl (by kernel_rfl) (by kernel_rfl) (by kernel_rfl) (fun _ _ _ h => h) (Or.inl ⟨by kernel_rfl, fun w9 h9 => ?_⟩) HSB.out ?_
            · go_simp
            refine wpAnyH_take (i := 5) (v := .pointer (some ⟨g, o + k * 7, none⟩)) rfl (by kernel_rfl) (by kernel_rfl) (by kernel_rfl) (fun _ _ _ h => h) (Or.inl ⟨by kernel_rfl, fun w9 h9 => ?_⟩) HSB.out ?_
            · go_simp
            refine wpAnyH_take (i := 6) (v := .string z) rfl (by kernel_rfl) (by kernel_rfl) (by kernel_rfl) (fun _ _ _ h => h) (Or.inl ⟨by kernel_rfl, fun w9 h9 => ?_⟩) HSB.out ?_
            · obtain ⟨hlg, hvg⟩ := h9; obtain ⟨y0, gl⟩ := HD.out w9 hlg.bel; have z0 := hlg.cel 0 _ rfl; have z1 := hlg.cel 1 _ rfl; have z2 := hlg.cel 2 _ rfl; have z3 := hlg.cel 3 _ rfl; have z4 := hlg.cel 4 _ rfl; have y1 := hvg.cel 0 _ rfl; have y2 := hvg.cel 1 _ rfl; have y3 := hvg.cel 2 _ rfl; have y4 := hvg.cel 3 _ rfl; have y5 := hvg.cel 4 _ rfl; have y6 := hvg.cel 5 _ rfl; have y7 := hvg.cel 6 _ rfl; have y8 := hvg.cel 7 _ rfl; go_simp
            refine wpAnyH_take (i := 7) (v := .agg #[.string v.name, .int .i64 v.tenant, .int .i64 v.cpu, .int .i64 v.mem, .int .i64 v.zone, .int .i64 v.apart, .string v.node, .int .i64 v.epoch]) rfl (by kernel_rfl) (by kernel_rfl) (by kernel_rfl) (fun _ _ _ h => h) (Or.inl ⟨by kernel_rfl, fun w9 h9 => ?_⟩) HSB.out ?_
            · obtain ⟨hlg, hvg⟩ := h9; obtain ⟨y0, gl⟩ := HD.out w9 hlg.bel; have z0 := hlg.cel 0 _ rfl; have z1 := hlg.cel 1 _ rfl; have z2 := hlg.cel 2 _ rfl; have z3 := hlg.cel 3 _ rfl; have z4 := hlg.cel 4 _ rfl; have y1 := hvg.cel 0 _ rfl; have y2 := hvg.cel 1 _ rfl; have y3 := hvg.cel 2 _ rfl; have y4 := hvg.cel 3 _ rfl; have y5 := hvg.cel 4 _ rfl; have y6 := hvg.cel 5 _ rfl; have y7 := hvg.cel 6 _ rfl; have y8 := hvg.cel 7 _ rfl; go_simp
            refine held_one 8 (by kernel_rfl) rfl (by kernel_rfl) fun K hK => ?_
            go_simp
            go_wp2_with (go_at_call 32; refine Calls.mono (HMK.out _ HSB.out.1.aft) ?_; rintro e w2 ⟨rfl, hb⟩; have HS2 : Hid ((fun w' => LG w w' bc #[.slice (some ⟨g, o, none⟩) s.nodes.length kn, .slice av s.vms.length kv, .slice ae s.tenants.length ke, .int .i64 s.over, .int .i64 s.time] 33 ∧ LG w w' bv #[.string v.name, .int .i64 v.tenant, .int .i64 v.cpu, .int .i64 v.mem, .int .i64 v.zone, .int .i64 v.apart, .string v.node, .int .i64 v.epoch] 41) w2) := ⟨HSB.out.1.step hb, HSB.out.2.step hb⟩; clear hb)
            refine hK _ _ HS2.out ?_
            clear hK K
            refine wpAnyH_take (i := 9) (v := .bool true) rfl (by kernel_rfl) (by kernel_rfl) (by kernel_rfl) (fun _ _ _ h => h) (Or.inl ⟨by kernel_rfl, fun w9 h9 => ?_⟩) HS2.out ?_
            · go_simp
            refine wpAnyH_take (i := 10) (v := .bool true) rfl (by kernel_rfl) (by kernel_rfl) (by kernel_rfl) (fun _ _ _ h => h) (Or.inl ⟨by kernel_rfl, fun w9 h9 => ?_⟩) HS2.out ?_
            · go_simp
            refine wpAnyH_take (i := 11) (v := .string BT) rfl (by kernel_rfl) (by kernel_rfl) (by kernel_rfl) (fun _ _ _ h => h) (Or.inl ⟨by kernel_rfl, fun w9 h9 => ?_⟩) HS2.out ?_
            · go_simp
            refine wpAnyH_take (i := 12) (v := .bool false) rfl (by kernel_rfl) (by kernel_rfl) (by kernel_rfl) (fun _ _ _ h => h) (Or.inl ⟨by kernel_rfl, fun w9 h9 => ?_⟩) HS2.out ?_
            · go_simp
            refine wpAnyH_take (i := 13) (v := .bool false) rfl (by kernel_rfl) (by kernel_rfl) (by kernel_rfl) (fun _ _ _ h => h) (Or.inl ⟨by kernel_rfl, fun w9 h9 => ?_⟩) HS2.out ?_
            · go_simp
            refine wpAnyH_take (i := 14) (v := .int .i64 LE) rfl (by kernel_rfl) (by kernel_rfl) (by kernel_rfl) (fun _ _ _ h => h) (Or.inl ⟨by kernel_rfl, fun w9 h9 => ?_⟩) HS2.out ?_
            · go_simp
            refine wpAnyH_take (i := 15) (v := .int .i64 LF) rfl (by kernel_rfl) (by kernel_rfl) (by kernel_rfl) (fun _ _ _ h => h) (Or.inl ⟨by kernel_rfl, fun w9 h9 => ?_⟩) HS2.out ?_
            · go_simp
            refine wpAnyH_take (i := 16) (v := .bool false) rfl (by kernel_rfl) (by kernel_rfl) (by kernel_rfl) (fun _ _ _ h => h) (Or.inl ⟨by kernel_rfl, fun w9 h9 => ?_⟩) HS2.out ?_
            · go_simp; all_goals omega
            refine wpAnyH_take (i := 17) (v := .bool false) rfl (by kernel_rfl) (by kernel_rfl) (by kernel_rfl) (fun _ _ _ h => h) (Or.inl ⟨by kernel_rfl, fun w9 h9 => ?_⟩) HS2.out ?_
            · go_simp
            refine wpAnyH_take (i := 18) (v := .bool false) rfl (by kernel_rfl) (by kernel_rfl) (by kernel_rfl) (fun _ _ _ h => h) (Or.inl ⟨by kernel_rfl, fun w9 h9 => ?_⟩) HS2.out ?_
            · go_simp
            refine wpAnyH_done (by kernel_rfl) ?_ _
            go_simp
            go_wp2
            exact ⟨⟨k + 1, hlt, by rw [E2.out, HPR.out], by rw [E2.out, HPR.out], by go_num, HS2.out.1, HS2.out.2⟩, by simp [intOf]; omega⟩
          · skip
            have E2 : Hid (bsK s v (k + 1) = (z, LE)) := HST.out.trans (if_pos (by rw [← HMD.out, t1, t2, t3]; simp))
            clear HST HPR
            have HSB : Hid ((fun w' => LG w w' bc #[.slice (some ⟨g, o, none⟩) s.nodes.length kn, .slice av s.vms.length kv, .slice ae s.tenants.length ke, .int .i64 s.over, .int .i64 s.time] 33 ∧ LG w w' bv #[.string v.name, .int .i64 v.tenant, .int .i64 v.cpu, .int .i64 v.mem, .int .i64 v.zone, .int .i64 v.apart, .string v.node, .int .i64 v.epoch] 41) w1.drew) := ⟨HX1.out.drew, HY1.out.drew⟩
            refine wp_region_held (S := fun w' => LG w w' bc #[.slice (some ⟨g, o, none⟩) s.nodes.length kn, .slice av s.vms.length kv, .slice ae s.tenants.length ke, .int .i64 s.over, .int .i64 s.time] 33 ∧ LG w w' bv #[.string v.name, .int .i64 v.tenant, .int .i64 v.cpu, .int .i64 v.mem, .int .i64 v.zone, .int .i64 v.apart, .string v.node, .int .i64 v.epoch] 41) (by kernel_rfl) ?_
            change wpAnyH _ _ _ _ _ _ _ _ (World.drew _)
            refine wpAnyH_take (i := 0) (v := .agg #[.slice (some ⟨g, o, none⟩) s.nodes.length kn, .slice av s.vms.length kv, .slice ae s.tenants.length ke, .int .i64 s.over, .int .i64 s.time]) rfl (by kernel_rfl) (by kernel_rfl) (by kernel_rfl) (fun _ _ _ h => h) (Or.inl ⟨by kernel_rfl, fun w9 h9 => ?_⟩) HSB.out ?_
            · obtain ⟨hlg, hvg⟩ := h9; obtain ⟨y0, gl⟩ := HD.out w9 hlg.bel; have z0 := hlg.cel 0 _ rfl; have z1 := hlg.cel 1 _ rfl; have z2 := hlg.cel 2 _ rfl; have z3 := hlg.cel 3 _ rfl; have z4 := hlg.cel 4 _ rfl; have y1 := hvg.cel 0 _ rfl; have y2 := hvg.cel 1 _ rfl; have y3 := hvg.cel 2 _ rfl; have y4 := hvg.cel 3 _ rfl; have y5 := hvg.cel 4 _ rfl; have y6 := hvg.cel 5 _ rfl; have y7 := hvg.cel 6 _ rfl; have y8 := hvg.cel 7 _ rfl; go_simp
            refine wpAnyH_take (i := 1) (v := .pointer (some ⟨bc, 0, none⟩)) rfl (by kernel_rfl) (by kernel_rfl) (by kernel_rfl) (fun _ _ _ h => h) (Or.inl ⟨by kernel_rfl, fun w9 h9 => ?_⟩) HSB.out ?_
            · go_simp
            refine wpAnyH_take (i := 2) (v := .slice (some ⟨g, o, none⟩) s.nodes.length kn) rfl (by kernel_rfl) (by kernel_rfl) (by kernel_rfl) (fun _ _ _ h => h) (Or.inl ⟨by kernel_rfl, fun w9 h9 => ?_⟩) HSB.out ?_
            · obtain ⟨hlg, hvg⟩ := h9; obtain ⟨y0, gl⟩ := HD.out w9 hlg.bel; have z0 := hlg.cel 0 _ rfl; have z1 := hlg.cel 1 _ rfl; have z2 := hlg.cel 2 _ rfl; have z3 := hlg.cel 3 _ rfl; have z4 := hlg.cel 4 _ rfl; have y1 := hvg.cel 0 _ rfl; have y2 := hvg.cel 1 _ rfl; have y3 := hvg.cel 2 _ rfl; have y4 := hvg.cel 3 _ rfl; have y5 := hvg.cel 4 _ rfl; have y6 := hvg.cel 5 _ rfl; have y7 := hvg.cel 6 _ rfl; have y8 := hvg.cel 7 _ rfl; go_simp
            refine wpAnyH_take (i := 3) (v := .int .i64 (k : Int)) rfl (by kernel_rfl) (by kernel_rfl) (by kernel_rfl) (fun _ _ _ h => h) (Or.inl ⟨by kernel_rfl, fun w9 h9 => ?_⟩) HSB.out ?_
            · go_simp
            refine wpAnyH_take (i := 4) (v := .pointer (some ⟨g, o + k * 7, none⟩)) rfl (by kernel_rfl) (by kernel_rfl) (by kernel_rfl) (fun _ _ _ h => h) (Or.inl ⟨by kernel_rfl, fun w9 h9 => ?_⟩) HSB.out ?_
            · go_simp
            refine wpAnyH_take (i := 5) (v := .pointer (some ⟨g, o + k * 7, none⟩)) rfl (by kernel_rfl) (by kernel_rfl) (by kernel_rfl) (fun _ _ _ h => h) (Or.inl ⟨by kernel_rfl, fun w9 h9 => ?_⟩) HSB.out ?_
            · go_simp
            refine wpAnyH_take (i := 6) (v := .string z) rfl (by kernel_rfl) (by kernel_rfl) (by kernel_rfl) (fun _ _ _ h => h) (Or.inl ⟨by kernel_rfl, fun w9 h9 => ?_⟩) HSB.out ?_
            · obtain ⟨hlg, hvg⟩ := h9; obtain ⟨y0, gl⟩ := HD.out w9 hlg.bel; have z0 := hlg.cel 0 _ rfl; have z1 := hlg.cel 1 _ rfl; have z2 := hlg.cel 2 _ rfl; have z3 := hlg.cel 3 _ rfl; have z4 := hlg.cel 4 _ rfl; have y1 := hvg.cel 0 _ rfl; have y2 := hvg.cel 1 _ rfl; have y3 := hvg.cel 2 _ rfl; have y4 := hvg.cel 3 _ rfl; have y5 := hvg.cel 4 _ rfl; have y6 := hvg.cel 5 _ rfl; have y7 := hvg.cel 6 _ rfl; have y8 := hvg.cel 7 _ rfl; go_simp
            refine wpAnyH_take (i := 7) (v := .agg #[.string v.name, .int .i64 v.tenant, .int .i64 v.cpu, .int .i64 v.mem, .int .i64 v.zone, .int .i64 v.apart, .string v.node, .int .i64 v.epoch]) rfl (by kernel_rfl) (by kernel_rfl) (by kernel_rfl) (fun _ _ _ h => h) (Or.inl ⟨by kernel_rfl, fun w9 h9 => ?_⟩) HSB.out ?_
            · obtain ⟨hlg, hvg⟩ := h9; obtain ⟨y0, gl⟩ := HD.out w9 hlg.bel; have z0 := hlg.cel 0 _ rfl; have z1 := hlg.cel 1 _ rfl; have z2 := hlg.cel 2 _ rfl; have z3 := hlg.cel 3 _ rfl; have z4 := hlg.cel 4 _ rfl; have y1 := hvg.cel 0 _ rfl; have y2 := hvg.cel 1 _ rfl; have y3 := hvg.cel 2 _ rfl; have y4 := hvg.cel 3 _ rfl; have y5 := hvg.cel 4 _ rfl; have y6 := hvg.cel 5 _ rfl; have y7 := hvg.cel 6 _ rfl; have y8 := hvg.cel 7 _ rfl; go_simp
            refine held_one 8 (by kernel_rfl) rfl (by kernel_rfl) fun K hK => ?_
            go_simp
            go_wp2_with (go_at_call 32; refine Calls.mono (HMK.out _ HSB.out.1.aft) ?_; rintro e w2 ⟨rfl, hb⟩; have HS2 : Hid ((fun w' => LG w w' bc #[.slice (some ⟨g, o, none⟩) s.nodes.length kn, .slice av s.vms.length kv, .slice ae s.tenants.length ke, .int .i64 s.over, .int .i64 s.time] 33 ∧ LG w w' bv #[.string v.name, .int .i64 v.tenant, .int .i64 v.cpu, .int .i64 v.mem, .int .i64 v.zone, .int .i64 v.apart, .string v.node, .int .i64 v.epoch] 41) w2) := ⟨HSB.out.1.step hb, HSB.out.2.step hb⟩; clear hb)
            refine hK _ _ HS2.out ?_
            clear hK K
            refine wpAnyH_take (i := 9) (v := .bool true) rfl (by kernel_rfl) (by kernel_rfl) (by kernel_rfl) (fun _ _ _ h => h) (Or.inl ⟨by kernel_rfl, fun w9 h9 => ?_⟩) HS2.out ?_
            · go_simp
            refine wpAnyH_take (i := 10) (v := .bool true) rfl (by kernel_rfl) (by kernel_rfl) (by kernel_rfl) (fun _ _ _ h => h) (Or.inl ⟨by kernel_rfl, fun w9 h9 => ?_⟩) HS2.out ?_
            · go_simp
            refine wpAnyH_take (i := 11) (v := .string BT) rfl (by kernel_rfl) (by kernel_rfl) (by kernel_rfl) (fun _ _ _ h => h) (Or.inl ⟨by kernel_rfl, fun w9 h9 => ?_⟩) HS2.out ?_
            · go_simp
            refine wpAnyH_take (i := 12) (v := .bool false) rfl (by kernel_rfl) (by kernel_rfl) (by kernel_rfl) (fun _ _ _ h => h) (Or.inl ⟨by kernel_rfl, fun w9 h9 => ?_⟩) HS2.out ?_
            · go_simp
            refine wpAnyH_take (i := 13) (v := .bool false) rfl (by kernel_rfl) (by kernel_rfl) (by kernel_rfl) (fun _ _ _ h => h) (Or.inl ⟨by kernel_rfl, fun w9 h9 => ?_⟩) HS2.out ?_
            · go_simp
            refine wpAnyH_take (i := 14) (v := .int .i64 LE) rfl (by kernel_rfl) (by kernel_rfl) (by kernel_rfl) (fun _ _ _ h => h) (Or.inl ⟨by kernel_rfl, fun w9 h9 => ?_⟩) HS2.out ?_
            · go_simp
            refine wpAnyH_take (i := 15) (v := .int .i64 LF) rfl (by kernel_rfl) (by kernel_rfl) (by kernel_rfl) (fun _ _ _ h => h) (Or.inl ⟨by kernel_rfl, fun w9 h9 => ?_⟩) HS2.out ?_
            · go_simp
            refine wpAnyH_take (i := 16) (v := .bool true) rfl (by kernel_rfl) (by kernel_rfl) (by kernel_rfl) (fun _ _ _ h => h) (Or.inl ⟨by kernel_rfl, fun w9 h9 => ?_⟩) HS2.out ?_
            · go_simp; all_goals omega
            refine wpAnyH_take (i := 17) (v := .bool true) rfl (by kernel_rfl) (by kernel_rfl) (by kernel_rfl) (fun _ _ _ h => h) (Or.inl ⟨by kernel_rfl, fun w9 h9 => ?_⟩) HS2.out ?_
            · go_simp
            refine wpAnyH_take (i := 18) (v := .bool true) rfl (by kernel_rfl) (by kernel_rfl) (by kernel_rfl) (fun _ _ _ h => h) (Or.inl ⟨by kernel_rfl, fun w9 h9 => ?_⟩) HS2.out ?_
            · go_simp
            refine wpAnyH_done (by kernel_rfl) ?_ _
            go_simp
            obtain ⟨y0, gl⟩ := HD.out _ HS2.out.1.bel
            have z0 := HS2.out.1.cel 0 (.slice (some ⟨g, o, none⟩) s.nodes.length kn) rfl
            have zl := HS2.out.1.lt
            go_wp2
            exact ⟨⟨k + 1, hlt, by rw [E2.out], by rw [E2.out], by go_num, HS2.out.1, HS2.out.2⟩, by simp [intOf]; omega⟩
    · obtain rfl : k = s.nodes.length := by omega
      rw [HEV.out]
      go_wp2
      go_ret
      exact ⟨rfl, hbb ▸ HX.out.bel⟩
set_option maxRecDepth 100000 in
set_option maxHeartbeats 4000000 in
theorem specBN_any {w : World} {s : CL} {a : CA} (h : CLRows w s a) (hl : CLlen s) (v : VMC) : Calls Try.prog 15 #[clA s a, .agg #[.string v.name, .int .i64 v.tenant, .int .i64 v.cpu, .int .i64 v.mem, .int .i64 v.zone, .int .i64 v.apart, .string v.node, .int .i64 v.epoch]] w fun e w' => e = .returned (.string (bnV s v)) ∧ Below w.heap.size w w' := by
  have HCF : Hid (∀ u, Aft w u → Calls Try.prog 7 #[clA s a] u fun e w' => e = .returned (.int .i64 (cfV s)) ∧ Below u.heap.size u w') := fun u hu => specCF_any (h.below hu.out) hl
  have HMY : Hid (∀ u, Aft w u → Calls Try.prog 37 #[clA s a, .agg #[.string v.name, .int .i64 v.tenant, .int .i64 v.cpu, .int .i64 v.mem, .int .i64 v.zone, .int .i64 v.apart, .string v.node, .int .i64 v.epoch]] u fun e w' => e = .returned (.string (bsK s v s.nodes.length).1) ∧ Below u.heap.size u w') := fun u hu => l22Best_any (h.below hu.out) hl v
  have HIV : Hid (∀ u, Calls Try.prog 21 #[.agg #[.string v.name, .int .i64 v.tenant, .int .i64 v.cpu, .int .i64 v.mem, .int .i64 v.zone, .int .i64 v.apart, .string v.node, .int .i64 v.epoch], .int .i64 (s.tenants.length : Nat)] u fun e w' => e = .returned (.bool (vmB s.tenants.length v)) ∧ Below u.heap.size u w') := fun u => l22IsVm_any v _ u
  obtain ⟨an, kn, av, kv, ae, ke, e⟩ := h.sl
  subst e
  clear h hl
  have HL0 : Hid (LG w ((w.alloc (.cells #[.slice an s.nodes.length kn, .slice av s.vms.length kv, .slice ae s.tenants.length ke, .int .i64 s.over, .int .i64 s.time] 33)).alloc (.cells #[.string v.name, .int .i64 v.tenant, .int .i64 v.cpu, .int .i64 v.mem, .int .i64 v.zone, .int .i64 v.apart, .string v.node, .int .i64 v.epoch] 41)) w.heap.size #[.slice an s.nodes.length kn, .slice av s.vms.length kv, .slice ae s.tenants.length ke, .int .i64 s.over, .int .i64 s.time] 33) := (LG.new w _ _).next
  have HV0 : Hid (LG w ((w.alloc (.cells #[.slice an s.nodes.length kn, .slice av s.vms.length kv, .slice ae s.tenants.length ke, .int .i64 s.over, .int .i64 s.time] 33)).alloc (.cells #[.string v.name, .int .i64 v.tenant, .int .i64 v.cpu, .int .i64 v.mem, .int .i64 v.zone, .int .i64 v.apart, .string v.node, .int .i64 v.epoch] 41)) (w.heap.size + 1) #[.string v.name, .int .i64 v.tenant, .int .i64 v.cpu, .int .i64 v.mem, .int .i64 v.zone, .int .i64 v.apart, .string v.node, .int .i64 v.epoch] 41) := (LG.mk2 (LG.new w _ _).bel).cast (by simp)
  have HE1 : Hid (bnV s v = if cfB s = false then ⟨#[]⟩ else if vmB s.tenants.length v = false then ⟨#[]⟩ else (bsK s v s.nodes.length).1) := rfl
  have HC0 : Hid (cfV s = if cfB s = true then 0 else 1) := rfl
  unfold clA clC at HCF HMY
  unfold clA clC
  simp only at HCF HMY ⊢
  generalize bnV s v = V at *
  generalize (bsK s v s.nodes.length).1 = MY at *
  generalize cfV s = CV at *
  generalize cfB s = R at *
  generalize vmB s.tenants.length v = VB at *
  go_enter Try.func15, Try.ntmps15
  go_upto_region 1 with fail
  generalize ((w.alloc (.cells #[.slice an s.nodes.length kn, .slice av s.vms.length kv, .slice ae s.tenants.length ke, .int .i64 s.over, .int .i64 s.time] 33)).alloc (.cells #[.string v.name, .int .i64 v.tenant, .int .i64 v.cpu, .int .i64 v.mem, .int .i64 v.zone, .int .i64 v.apart, .string v.node, .int .i64 v.epoch] 41)) = u0 at *
  generalize hvb : w.heap.size + 1 = bv at HV0 ⊢
  generalize hbb : w.heap.size = bc at HL0 ⊢
  have k0 := HL0.out.cel 0 _ rfl
  have k1 := HL0.out.cel 1 _ rfl
  have k2 := HL0.out.cel 2 _ rfl
  have k3 := HL0.out.cel 3 _ rfl
  have k4 := HL0.out.cel 4 _ rfl
  have kl := HL0.out.lt
  have v0 := HV0.out.cel 0 _ rfl
  have v1 := HV0.out.cel 1 _ rfl
  have v2 := HV0.out.cel 2 _ rfl
  have v3 := HV0.out.cel 3 _ rfl
  have v4 := HV0.out.cel 4 _ rfl
  have v5 := HV0.out.cel 5 _ rfl
  have v6 := HV0.out.cel 6 _ rfl
  have v7 := HV0.out.cel 7 _ rfl
  have vl := HV0.out.lt
  cases R
  · have E2 : Hid (V = ⟨#[]⟩) := HE1.out
    have hcv : CV = 1 := HC0.out
    subst hcv
    clear HE1 HC0
    go_wp2_with (go_at_call 7; refine Calls.mono (HCF.out _ HL0.out.aft) ?_; rintro e w1 ⟨rfl, hb⟩)
    go_ret
    exact ⟨by rw [E2.out]; rfl, hbb ▸ (HL0.out.step hb).bel⟩
  have hcv : CV = 0 := HC0.out
  subst hcv
  clear HC0
  cases VB
  · have E2 : Hid (V = ⟨#[]⟩) := HE1.out
    clear HE1
    go_wp2_with (first | (go_at_call 7; refine Calls.mono (HCF.out _ HL0.out.aft) ?_; rintro e w1 ⟨rfl, hb⟩; have HL1 : Hid (LG w w1 bc #[.slice an s.nodes.length kn, .slice av s.vms.length kv, .slice ae s.tenants.length ke, .int .i64 s.over, .int .i64 s.time] 33) := HL0.out.step hb; have HV1 : Hid (LG w w1 bv #[.string v.name, .int .i64 v.tenant, .int .i64 v.cpu, .int .i64 v.mem, .int .i64 v.zone, .int .i64 v.apart, .string v.node, .int .i64 v.epoch] 41) := HV0.out.step hb; clear hb; have p2 := HL1.out.cel 2 _ rfl; have pl := HL1.out.lt; have y0 := HV1.out.cel 0 _ rfl; have y1 := HV1.out.cel 1 _ rfl; have y2 := HV1.out.cel 2 _ rfl; have y3 := HV1.out.cel 3 _ rfl; have y4 := HV1.out.cel 4 _ rfl; have y5 := HV1.out.cel 5 _ rfl; have y6 := HV1.out.cel 6 _ rfl; have y7 := HV1.out.cel 7 _ rfl; have yl := HV1.out.lt) | (go_at_call 21; refine Calls.mono (HIV.out _) ?_; rintro e w2 ⟨rfl, hb⟩; have HL2 : Hid (LG w w2 bc #[.slice an s.nodes.length kn, .slice av s.vms.length kv, .slice ae s.tenants.length ke, .int .i64 s.over, .int .i64 s.time] 33) := HL1.out.step hb; have HV2 : Hid (LG w w2 bv #[.string v.name, .int .i64 v.tenant, .int .i64 v.cpu, .int .i64 v.mem, .int .i64 v.zone, .int .i64 v.apart, .string v.node, .int .i64 v.epoch] 41) := HV1.out.step hb; clear hb))
    go_ret
    exact ⟨by rw [E2.out]; rfl, hbb ▸ HL2.out.bel⟩
  have E2 : Hid (V = MY) := HE1.out
  clear HE1
  go_upto_region 3 with (first | (go_at_call 7; refine Calls.mono (HCF.out _ HL0.out.aft) ?_; rintro e w1 ⟨rfl, hb⟩; have HL1 : Hid (LG w w1 bc #[.slice an s.nodes.length kn, .slice av s.vms.length kv, .slice ae s.tenants.length ke, .int .i64 s.over, .int .i64 s.time] 33) := HL0.out.step hb; have HV1 : Hid (LG w w1 bv #[.string v.name, .int .i64 v.tenant, .int .i64 v.cpu, .int .i64 v.mem, .int .i64 v.zone, .int .i64 v.apart, .string v.node, .int .i64 v.epoch] 41) := HV0.out.step hb; clear hb; have p2 := HL1.out.cel 2 _ rfl; have pl := HL1.out.lt; have y0 := HV1.out.cel 0 _ rfl; have y1 := HV1.out.cel 1 _ rfl; have y2 := HV1.out.cel 2 _ rfl; have y3 := HV1.out.cel 3 _ rfl; have y4 := HV1.out.cel 4 _ rfl; have y5 := HV1.out.cel 5 _ rfl; have y6 := HV1.out.cel 6 _ rfl; have y7 := HV1.out.cel 7 _ rfl; have yl := HV1.out.lt) | (go_at_call 21; refine Calls.mono (HIV.out _) ?_; rintro e w2 ⟨rfl, hb⟩; have HL2 : Hid (LG w w2 bc #[.slice an s.nodes.length kn, .slice av s.vms.length kv, .slice ae s.tenants.length ke, .int .i64 s.over, .int .i64 s.time] 33) := HL1.out.step hb; have HV2 : Hid (LG w w2 bv #[.string v.name, .int .i64 v.tenant, .int .i64 v.cpu, .int .i64 v.mem, .int .i64 v.zone, .int .i64 v.apart, .string v.node, .int .i64 v.epoch] 41) := HV1.out.step hb; clear hb))
  clear HL0 HV0 HL1 HV1 k0 k1 k2 k3 k4 kl v0 v1 v2 v3 v4 v5 v6 v7 vl p2 pl y0 y1 y2 y3 y4 y5 y6 y7 yl
  have k0 := HL2.out.cel 0 _ rfl
  have k1 := HL2.out.cel 1 _ rfl
  have k2 := HL2.out.cel 2 _ rfl
  have k3 := HL2.out.cel 3 _ rfl
  have k4 := HL2.out.cel 4 _ rfl
  have kl := HL2.out.lt
  have v0 := HV2.out.cel 0 _ rfl
  have v1 := HV2.out.cel 1 _ rfl
  have v2 := HV2.out.cel 2 _ rfl
  have v3 := HV2.out.cel 3 _ rfl
  have v4 := HV2.out.cel 4 _ rfl
  have v5 := HV2.out.cel 5 _ rfl
  have v6 := HV2.out.cel 6 _ rfl
  have v7 := HV2.out.cel 7 _ rfl
  have vl := HV2.out.lt
  go_wp2_with (go_at_call 37; refine Calls.mono (HMY.out _ HL2.out.aft) ?_; rintro e w3 ⟨rfl, hb⟩)
  go_ret
  exact ⟨by rw [E2.out]; rfl, hbb ▸ (HL2.out.step hb).bel⟩

theorem smS_eq {p : VMC → Bool} : ∀ (xs : List VMC) (a : Int), (∀ x ∈ xs, 0 ≤ x.mem ∧ x.mem ≤ 1000) → a ≤ 4000000000 → -4000000000 ≤ a - 1000 * (xs.length : Int) → smS p a xs = a - smP VMC.mem p xs
  | [], a, _, _, _ => by simp [smS, smP]
  | x :: xs, a, h, h0, h1 => by
    have hx := h x List.mem_cons_self
    simp only [List.length_cons] at h1
    have e : smS p a (x :: xs) = smS p (if p x then wrap64 (a - x.mem) else a) xs := rfl
    have hw : wrap64 (a - x.mem) = a - x.mem := by unfold wrap64; omega
    rw [e, smP]
    cases hp : p x
    · simp only [Bool.false_eq_true, if_false]
      rw [smS_eq xs a (fun y hy => h y (List.mem_cons_of_mem _ hy)) h0 (by omega)]
      omega
    · simp only [if_true]
      rw [hw, smS_eq xs (a - x.mem) (fun y hy => h y (List.mem_cons_of_mem _ hy)) (by omega) (by omega)]
      omega
theorem nodB_mem {t : Int} {n : NOD} (h : nodB t n = true) : 1 ≤ n.mem ∧ n.mem ≤ 1000 := by
  unfold nodB at h
  simp only [Bool.and_eq_true, decide_eq_true_eq] at h
  omega
theorem nmB_sz {x : ByteArray} (h : nmB x = true) : 1 ≤ x.size ∧ x.size ≤ 20 := by
  unfold nmB at h
  have := of_decide_eq_true h
  exact ⟨this.1, this.2.1⟩
theorem isEmpty_of_sz {x : ByteArray} (h : 1 ≤ x.size) : x.toList.isEmpty = false := by
  cases hx : x.toList with
  | nil =>
    have : x.toList.length = x.size := by
      rw [ByteArray.toList_eq]
      exact Array.length_toList
    rw [hx] at this
    simp at this
    omega
  | cons y ys => rfl
/-- What holds of a right cluster's nodes. -/
theorem cf_parts {s : CL} (h : cfB s = true) : GC s ∧ ∀ k, k < s.nodes.length → nmB (ndA s k).name = true ∧ nodB s.time (ndA s k) = true := by
  rw [← ir_eq] at h
  unfold irB at h
  simp only [Bool.and_eq_true] at h
  refine ⟨GC.of h.1.1.1.1 h.1.1.1.2 h.1.1.2, fun k hk => ?_⟩
  have h2 := h.1.1.1.2
  rw [nr_eq] at h2
  have := allD_iff.1 h2 k hk
  unfold nkB at this
  simp only [Bool.and_eq_true] at this
  exact ⟨this.1.1, this.2⟩
theorem bs_step {s : CL} (h : cfB s = true) {v : VMC} (hv : vmB s.tenants.length v = true) : ∀ j, j ≤ s.nodes.length →
    match lsF (kyV s (cnL s) v) (mkL s (cnL s) v j) with
    | none => bsK s v j = (⟨#[]⟩, 0)
    | some x => ∃ k, k < s.nodes.length ∧ x = (k : Int) ∧ bsK s v j = ((ndA s k).name, leV s k v.name) := by
  obtain ⟨g, hp⟩ := cf_parts h
  have nv := g.nv
  have ky : ∀ k, k < s.nodes.length → kyV s (cnL s) v (k : Int) = - leV s k v.name := fun k hk => by
    obtain ⟨_, o2⟩ := g.ot hk v.name
    have b := smP_bd (f := VMC.mem) (p := onB s k v.name) s.vms (fun x hx => (g.vb x hx).2)
    have nm := nodB_mem (hp k hk).2
    have e := smS_eq (p := onB s k v.name) s.vms (ndA s k).mem (fun x hx => (g.vb x hx).2) (by omega) (by omega)
    unfold kyV leV
    rw [show ((k : Int).toNat) = k from rfl, o2, e]
    unfold wrap64
    omega
  intro j
  induction j with
  | zero => intro _; rfl
  | succ j ih =>
    intro hj
    have ih := ih (by omega)
    have hn := hp j (by omega)
    have hz := nmB_sz hn.1
    have hm : hcV s (cnL s) (ndA s j).name v = myV s (ndA s j).name v := hc_my h hv (by omega)
    rw [mkL_succ, bsK_succ, hm]
    unfold bsS
    by_cases h0 : myV s (ndA s j).name v = 0
    · rw [if_pos h0, lsF_snoc, decide_eq_true h0, Bool.true_and]
      cases ho : lsF (kyV s (cnL s) v) (mkL s (cnL s) v j) with
      | none =>
        rw [ho] at ih
        simp only at ih
        rw [ih]
        simp only [lsS]
        refine ⟨j, by omega, rfl, ?_⟩
        rw [if_pos (by simp)]
      | some x =>
        rw [ho] at ih
        simp only at ih
        obtain ⟨k, hk, rfl, e⟩ := ih
        rw [e]
        simp only [lsS]
        rw [ky k hk, ky j (by omega), isEmpty_of_sz (nmB_sz (hp k hk).1).1, Bool.false_or]
        by_cases hlt : leV s k v.name < leV s j v.name
        · rw [if_pos (show - leV s j v.name < - leV s k v.name by omega), decide_eq_true hlt, if_pos rfl]
          exact ⟨j, by omega, rfl, rfl⟩
        · rw [if_neg (show ¬ - leV s j v.name < - leV s k v.name by omega), decide_eq_false hlt, if_neg (by decide)]
          exact ⟨k, hk, rfl, rfl⟩
    · rw [if_neg h0, decide_eq_false h0, Bool.false_and, if_neg (by decide)]
      exact ih
theorem bs_eq {s : CL} (h : cfB s = true) {v : VMC} (hv : vmB s.tenants.length v = true) : bsV s (cnL s) v = (bsK s v s.nodes.length).1 := by
  have := bs_step h hv s.nodes.length (Nat.le_refl _)
  unfold bsV
  cases ho : lsF (kyV s (cnL s) v) (mkL s (cnL s) v s.nodes.length) with
  | none =>
    rw [ho] at this
    simp only at this
    rw [this]
  | some x =>
    rw [ho] at this
    simp only at this
    obtain ⟨k, hk, rfl, e⟩ := this
    rw [e]
    rfl

set_option maxRecDepth 100000 in
set_option maxHeartbeats 8000000 in
theorem implBN_any {w : World} {s : CL} {a : CA} (h : CLRows w s a) (hl : CLlen s) (v : VMC) : Calls Try.prog 16 #[clA s a, .agg #[.string v.name, .int .i64 v.tenant, .int .i64 v.cpu, .int .i64 v.mem, .int .i64 v.zone, .int .i64 v.apart, .string v.node, .int .i64 v.epoch]] w fun e w' => e = .returned (.string (bnV s v)) ∧ Below w.heap.size w w' := by
  have l0 : s.nodes.length ≤ 1048576 := hl.lnodes.1
  have l1 : s.vms.length ≤ 1048576 := hl.lvms.1
  have l2 : s.tenants.length ≤ 1048576 := hl.ltenants
  obtain ⟨an, kn, av, kv, ae, ke, e⟩ := h.sl
  subst e
  have HL0 : Hid (LG w ((w.alloc (.cells #[.slice an s.nodes.length kn, .slice av s.vms.length kv, .slice ae s.tenants.length ke, .int .i64 s.over, .int .i64 s.time] 33)).alloc (.cells #[.string v.name, .int .i64 v.tenant, .int .i64 v.cpu, .int .i64 v.mem, .int .i64 v.zone, .int .i64 v.apart, .string v.node, .int .i64 v.epoch] 41)) w.heap.size #[.slice an s.nodes.length kn, .slice av s.vms.length kv, .slice ae s.tenants.length ke, .int .i64 s.over, .int .i64 s.time] 33) := (LG.new w _ _).next
  have HV0 : Hid (LG w ((w.alloc (.cells #[.slice an s.nodes.length kn, .slice av s.vms.length kv, .slice ae s.tenants.length ke, .int .i64 s.over, .int .i64 s.time] 33)).alloc (.cells #[.string v.name, .int .i64 v.tenant, .int .i64 v.cpu, .int .i64 v.mem, .int .i64 v.zone, .int .i64 v.apart, .string v.node, .int .i64 v.epoch] 41)) (w.heap.size + 1) #[.string v.name, .int .i64 v.tenant, .int .i64 v.cpu, .int .i64 v.mem, .int .i64 v.zone, .int .i64 v.apart, .string v.node, .int .i64 v.epoch] 41) := (LG.mk2 (LG.new w _ _).bel).cast (by simp)
  have HX0 : Hid (CX ((w.alloc (.cells #[.slice an s.nodes.length kn, .slice av s.vms.length kv, .slice ae s.tenants.length ke, .int .i64 s.over, .int .i64 s.time] 33)).alloc (.cells #[.string v.name, .int .i64 v.tenant, .int .i64 v.cpu, .int .i64 v.mem, .int .i64 v.zone, .int .i64 v.apart, .string v.node, .int .i64 v.epoch] 41)) w.heap.size s ⟨.slice an s.nodes.length kn, .slice av s.vms.length kv, .slice ae s.tenants.length ke⟩) := ⟨HL0.out.lt, fun k v hk => HL0.out.cel k v hk, h.below HL0.out.bel⟩
  have HE1 : Hid (bnV s v = if cfB s = false then ⟨#[]⟩ else if vmB s.tenants.length v = false then ⟨#[]⟩ else (bsK s v s.nodes.length).1) := rfl
  have HIR : Hid (∀ u b, CX u b s ⟨.slice an s.nodes.length kn, .slice av s.vms.length kv, .slice ae s.tenants.length ke⟩ → Calls Try.prog 28 #[.pointer (some ⟨b, 0, none⟩)] u fun e w' => e = .returned (.bool (cfB s)) ∧ Below u.heap.size u w') := (fun u b hu => by have h9 := isRight_any hu hl; rw [ir_eq] at h9; exact h9)
  have HIO : Hid (∀ u, Calls Try.prog 34 #[.agg #[.string v.name, .int .i64 v.tenant, .int .i64 v.cpu, .int .i64 v.mem, .int .i64 v.zone, .int .i64 v.apart, .string v.node, .int .i64 v.epoch], .int .i64 (s.tenants.length : Nat)] u fun e w' => e = .returned (.bool (vmB s.tenants.length v)) ∧ Below u.heap.size u w') := fun u => vmOne_any v _ l2 u
  have HNR : Hid (∀ u, CLRows u s ⟨.slice an s.nodes.length kn, .slice av s.vms.length kv, .slice ae s.tenants.length ke⟩ → Calls Try.prog 35 #[.agg #[.slice an s.nodes.length kn, .slice av s.vms.length kv, .slice ae s.tenants.length ke, .int .i64 s.over, .int .i64 s.time]] u fun e w' => ∃ (r : Nat) (a2 : CA) (cb : Nat), e = .returned (.pointer (some ⟨r, 0, none⟩)) ∧ RX w' r s a2 cb (cnL s) ∧ Below u.heap.size u w') := (fun u hu => by have h9 := newRunner_any hu hl; unfold clA clC at h9; simp only at h9; exact h9)
  have HHC : Hid (∀ u r a2 cb, RX u r s a2 cb (cnL s) → Calls Try.prog 38 #[.pointer (some ⟨r, 0, none⟩), .agg #[.string v.name, .int .i64 v.tenant, .int .i64 v.cpu, .int .i64 v.mem, .int .i64 v.zone, .int .i64 v.apart, .string v.node, .int .i64 v.epoch]] u fun e w' => e = .returned (.string (bsV s (cnL s) v)) ∧ Below u.heap.size u w') := fun u r a2 cb hu => best_any hu l0 l1 v
  have HMY1 : Hid (cfB s = true → vmB s.tenants.length v = true → bsV s (cnL s) v = (bsK s v s.nodes.length).1) := fun h1 h2 => bs_eq h1 h2
  clear h hl
  unfold clA clC
  simp only
  generalize bnV s v = V at *
  generalize (bsK s v s.nodes.length).1 = MY at *
  generalize bsV s (cnL s) v = HC at *
  generalize cfB s = R at *
  generalize vmB s.tenants.length v = VB at *
  go_enter Try.func16, Try.ntmps16
  go_upto_region 1 with fail
  generalize ((w.alloc (.cells #[.slice an s.nodes.length kn, .slice av s.vms.length kv, .slice ae s.tenants.length ke, .int .i64 s.over, .int .i64 s.time] 33)).alloc (.cells #[.string v.name, .int .i64 v.tenant, .int .i64 v.cpu, .int .i64 v.mem, .int .i64 v.zone, .int .i64 v.apart, .string v.node, .int .i64 v.epoch] 41)) = u0 at *
  generalize hvb : w.heap.size + 1 = bv at HV0 ⊢
  generalize hbb : w.heap.size = bc at HL0 HX0 ⊢
  have v0 := HV0.out.cel 0 _ rfl
  have v1 := HV0.out.cel 1 _ rfl
  have v2 := HV0.out.cel 2 _ rfl
  have v3 := HV0.out.cel 3 _ rfl
  have v4 := HV0.out.cel 4 _ rfl
  have v5 := HV0.out.cel 5 _ rfl
  have v6 := HV0.out.cel 6 _ rfl
  have v7 := HV0.out.cel 7 _ rfl
  have vl := HV0.out.lt
  have k0 := HL0.out.cel 0 _ rfl
  have k1 := HL0.out.cel 1 _ rfl
  have k2 := HL0.out.cel 2 _ rfl
  have k3 := HL0.out.cel 3 _ rfl
  have k4 := HL0.out.cel 4 _ rfl
  have kl := HL0.out.lt
  cases R
  · have E2 : Hid (V = ⟨#[]⟩) := HE1.out
    clear HE1
    go_wp2_with (go_at_call 28; refine Calls.mono (HIR.out _ _ HX0.out) ?_; rintro e u2 ⟨rfl, hb⟩)
    go_ret
    exact ⟨by rw [E2.out]; rfl, hbb ▸ (HL0.out.step hb).bel⟩
  cases VB
  · have E2 : Hid (V = ⟨#[]⟩) := HE1.out
    clear HE1
    go_wp2_with (first | (go_at_call 28; refine Calls.mono (HIR.out _ _ HX0.out) ?_; rintro e u2 ⟨rfl, hb⟩; have HL2 : Hid (LG w u2 bc #[.slice an s.nodes.length kn, .slice av s.vms.length kv, .slice ae s.tenants.length ke, .int .i64 s.over, .int .i64 s.time] 33) := HL0.out.step hb; have HV2 : Hid (LG w u2 bv #[.string v.name, .int .i64 v.tenant, .int .i64 v.cpu, .int .i64 v.mem, .int .i64 v.zone, .int .i64 v.apart, .string v.node, .int .i64 v.epoch] 41) := HV0.out.step hb; have HX2 : Hid (CX u2 bc s ⟨.slice an s.nodes.length kn, .slice av s.vms.length kv, .slice ae s.tenants.length ke⟩) := HX0.out.below hb; clear hb; have p2 := HL2.out.cel 2 _ rfl; have pl := HL2.out.lt; have y0 := HV2.out.cel 0 _ rfl; have y1 := HV2.out.cel 1 _ rfl; have y2 := HV2.out.cel 2 _ rfl; have y3 := HV2.out.cel 3 _ rfl; have y4 := HV2.out.cel 4 _ rfl; have y5 := HV2.out.cel 5 _ rfl; have y6 := HV2.out.cel 6 _ rfl; have y7 := HV2.out.cel 7 _ rfl; have yl := HV2.out.lt) | (go_at_call 34; refine Calls.mono (HIO.out _) ?_; rintro e u3 ⟨rfl, hb⟩; have HL3 : Hid (LG w u3 bc #[.slice an s.nodes.length kn, .slice av s.vms.length kv, .slice ae s.tenants.length ke, .int .i64 s.over, .int .i64 s.time] 33) := HL2.out.step hb; have HV3 : Hid (LG w u3 bv #[.string v.name, .int .i64 v.tenant, .int .i64 v.cpu, .int .i64 v.mem, .int .i64 v.zone, .int .i64 v.apart, .string v.node, .int .i64 v.epoch] 41) := HV2.out.step hb; have HX3 : Hid (CX u3 bc s ⟨.slice an s.nodes.length kn, .slice av s.vms.length kv, .slice ae s.tenants.length ke⟩) := HX2.out.below hb; clear hb))
    go_ret
    exact ⟨by rw [E2.out]; rfl, hbb ▸ HL3.out.bel⟩
  have E2 : Hid (V = HC) := (show V = HC by rw [HMY1.out rfl rfl]; exact HE1.out)
  clear HE1 HMY1
  go_upto_region 3 with (first | (go_at_call 28; refine Calls.mono (HIR.out _ _ HX0.out) ?_; rintro e u2 ⟨rfl, hb⟩; have HL2 : Hid (LG w u2 bc #[.slice an s.nodes.length kn, .slice av s.vms.length kv, .slice ae s.tenants.length ke, .int .i64 s.over, .int .i64 s.time] 33) := HL0.out.step hb; have HV2 : Hid (LG w u2 bv #[.string v.name, .int .i64 v.tenant, .int .i64 v.cpu, .int .i64 v.mem, .int .i64 v.zone, .int .i64 v.apart, .string v.node, .int .i64 v.epoch] 41) := HV0.out.step hb; have HX2 : Hid (CX u2 bc s ⟨.slice an s.nodes.length kn, .slice av s.vms.length kv, .slice ae s.tenants.length ke⟩) := HX0.out.below hb; clear hb; have p2 := HL2.out.cel 2 _ rfl; have pl := HL2.out.lt; have y0 := HV2.out.cel 0 _ rfl; have y1 := HV2.out.cel 1 _ rfl; have y2 := HV2.out.cel 2 _ rfl; have y3 := HV2.out.cel 3 _ rfl; have y4 := HV2.out.cel 4 _ rfl; have y5 := HV2.out.cel 5 _ rfl; have y6 := HV2.out.cel 6 _ rfl; have y7 := HV2.out.cel 7 _ rfl; have yl := HV2.out.lt) | (go_at_call 34; refine Calls.mono (HIO.out _) ?_; rintro e u3 ⟨rfl, hb⟩; have HL3 : Hid (LG w u3 bc #[.slice an s.nodes.length kn, .slice av s.vms.length kv, .slice ae s.tenants.length ke, .int .i64 s.over, .int .i64 s.time] 33) := HL2.out.step hb; have HV3 : Hid (LG w u3 bv #[.string v.name, .int .i64 v.tenant, .int .i64 v.cpu, .int .i64 v.mem, .int .i64 v.zone, .int .i64 v.apart, .string v.node, .int .i64 v.epoch] 41) := HV2.out.step hb; have HX3 : Hid (CX u3 bc s ⟨.slice an s.nodes.length kn, .slice av s.vms.length kv, .slice ae s.tenants.length ke⟩) := HX2.out.below hb; clear hb))
  clear p2 pl y0 y1 y2 y3 y4 y5 y6 y7 yl HL0 HV0 HX0 HL2 HV2 HX2 k0 k1 k2 k3 k4 kl v0 v1 v2 v3 v4 v5 v6 v7 vl
  have HSB : Hid ((fun w' => (LG w w' bc #[.slice an s.nodes.length kn, .slice av s.vms.length kv, .slice ae s.tenants.length ke, .int .i64 s.over, .int .i64 s.time] 33) ∧ LG w w' bv #[.string v.name, .int .i64 v.tenant, .int .i64 v.cpu, .int .i64 v.mem, .int .i64 v.zone, .int .i64 v.apart, .string v.node, .int .i64 v.epoch] 41 ∧ CLRows w' s ⟨.slice an s.nodes.length kn, .slice av s.vms.length kv, .slice ae s.tenants.length ke⟩) u3.drew) := ⟨HL3.out.drew, HV3.out.drew, HX3.out.rows.below ⟨rfl, rfl, rfl, Nat.le_refl _, fun _ _ => rfl⟩⟩
  refine wp_region_held (S := fun w' => (LG w w' bc #[.slice an s.nodes.length kn, .slice av s.vms.length kv, .slice ae s.tenants.length ke, .int .i64 s.over, .int .i64 s.time] 33) ∧ LG w w' bv #[.string v.name, .int .i64 v.tenant, .int .i64 v.cpu, .int .i64 v.mem, .int .i64 v.zone, .int .i64 v.apart, .string v.node, .int .i64 v.epoch] 41 ∧ CLRows w' s ⟨.slice an s.nodes.length kn, .slice av s.vms.length kv, .slice ae s.tenants.length ke⟩) (by kernel_rfl) ?_
  change wpAnyH _ _ _ _ _ _ _ _ (World.drew _)
  refine wpAnyH_take (i := 0) (v := .agg #[.slice an s.nodes.length kn, .slice av s.vms.length kv, .slice ae s.tenants.length ke, .int .i64 s.over, .int .i64 s.time]) rfl (by kernel_rfl) (by kernel_rfl) (by kernel_rfl) (fun _ _ _ h => h) (Or.inl ⟨by kernel_rfl, fun w9 h9 => ?_⟩) HSB.out ?_
  · obtain ⟨hlg, hvg, _⟩ := h9; have z0 := hlg.cel 0 _ rfl; have z1 := hlg.cel 1 _ rfl; have z2 := hlg.cel 2 _ rfl; have z3 := hlg.cel 3 _ rfl; have z4 := hlg.cel 4 _ rfl; have y0 := hvg.cel 0 _ rfl; have y1 := hvg.cel 1 _ rfl; have y2 := hvg.cel 2 _ rfl; have y3 := hvg.cel 3 _ rfl; have y4 := hvg.cel 4 _ rfl; have y5 := hvg.cel 5 _ rfl; have y6 := hvg.cel 6 _ rfl; have y7 := hvg.cel 7 _ rfl; go_simp
  refine wpAnyH_take (i := 2) (v := .agg #[.string v.name, .int .i64 v.tenant, .int .i64 v.cpu, .int .i64 v.mem, .int .i64 v.zone, .int .i64 v.apart, .string v.node, .int .i64 v.epoch]) rfl (by kernel_rfl) (by kernel_rfl) (by kernel_rfl) (fun _ _ _ h => h) (Or.inl ⟨by kernel_rfl, fun w9 h9 => ?_⟩) HSB.out ?_
  · obtain ⟨hlg, hvg, _⟩ := h9; have z0 := hlg.cel 0 _ rfl; have z1 := hlg.cel 1 _ rfl; have z2 := hlg.cel 2 _ rfl; have z3 := hlg.cel 3 _ rfl; have z4 := hlg.cel 4 _ rfl; have y0 := hvg.cel 0 _ rfl; have y1 := hvg.cel 1 _ rfl; have y2 := hvg.cel 2 _ rfl; have y3 := hvg.cel 3 _ rfl; have y4 := hvg.cel 4 _ rfl; have y5 := hvg.cel 5 _ rfl; have y6 := hvg.cel 6 _ rfl; have y7 := hvg.cel 7 _ rfl; go_simp
  refine held_one 1 (by kernel_rfl) rfl (by kernel_rfl) fun K hK => ?_
  go_simp
  go_wp2_with (go_at_call 35; refine Calls.mono (HNR.out _ HSB.out.2.2) ?_; rintro e w1 ⟨r, a2, cb, rfl, hrx, hb1⟩; have HRX : Hid (RX w1 r s a2 cb (cnL s)) := hrx; have HS1 : Hid ((fun w' => (LG w w' bc #[.slice an s.nodes.length kn, .slice av s.vms.length kv, .slice ae s.tenants.length ke, .int .i64 s.over, .int .i64 s.time] 33) ∧ LG w w' bv #[.string v.name, .int .i64 v.tenant, .int .i64 v.cpu, .int .i64 v.mem, .int .i64 v.zone, .int .i64 v.apart, .string v.node, .int .i64 v.epoch] 41 ∧ CLRows w' s ⟨.slice an s.nodes.length kn, .slice av s.vms.length kv, .slice ae s.tenants.length ke⟩) w1) := ⟨HSB.out.1.step hb1, HSB.out.2.1.step hb1, HSB.out.2.2.below hb1⟩; clear hb1 hrx)
  refine hK _ _ HS1.out ?_
  clear hK K
  refine held_one 3 (by kernel_rfl) rfl (by kernel_rfl) fun K hK => ?_
  go_simp
  go_wp2_with (go_at_call 38; refine Calls.mono (HHC.out _ _ _ _ HRX.out) ?_; rintro e w2 ⟨rfl, hb1⟩; have HS2 : Hid ((fun w' => (LG w w' bc #[.slice an s.nodes.length kn, .slice av s.vms.length kv, .slice ae s.tenants.length ke, .int .i64 s.over, .int .i64 s.time] 33) ∧ LG w w' bv #[.string v.name, .int .i64 v.tenant, .int .i64 v.cpu, .int .i64 v.mem, .int .i64 v.zone, .int .i64 v.apart, .string v.node, .int .i64 v.epoch] 41 ∧ CLRows w' s ⟨.slice an s.nodes.length kn, .slice av s.vms.length kv, .slice ae s.tenants.length ke⟩) w2) := ⟨HS1.out.1.step hb1, HS1.out.2.1.step hb1, HS1.out.2.2.below hb1⟩; clear hb1)
  refine hK _ _ HS2.out ?_
  clear hK K
  refine wpAnyH_take (i := 4) (v := .string HC) rfl (by kernel_rfl) (by kernel_rfl) (by kernel_rfl) (fun _ _ _ h => h) (Or.inl ⟨by kernel_rfl, fun w9 h9 => ?_⟩) HS2.out ?_
  · go_simp
  refine wpAnyH_done (by kernel_rfl) ?_ _
  go_simp
  go_wp2
  go_ret
  exact ⟨by rw [E2.out]; rfl, hbb ▸ HS2.out.1.bel⟩
end Go.Proofs.Ytkmbhhkgfofcoaa
