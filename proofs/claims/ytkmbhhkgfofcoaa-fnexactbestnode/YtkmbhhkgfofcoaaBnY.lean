import Derived.Test.YtkmbhhkgfofcoaaCl1
import Derived.Deep.Slices
import Derived.Test.YtkmbhhkgfofcoaaBnZ
import Derived.Test.YtkmbhhkgfofcoaaSzVMC
import Derived.Test.YtkmbhhkgfofcoaaRowVMC4
import Derived.OpenShut
import Derived.WalkKit
import Derived.ProofKit
namespace Go.Proofs.Ytkmbhhkgfofcoaa
open Go.ChangeShapes Go.WideShapes Go.ChangeAt Go.RowKit

theorem cCLT : Try.prog.cellsOf 26 = 5 := by kernel_rfl
theorem cCLI : Try.prog.cellsOf 2 = 1 := by kernel_rfl
theorem cCLB : Try.prog.cellsOf 4 = 1 := by kernel_rfl
theorem cCLnodes : Try.prog.cellsOf 22 = 1 := by kernel_rfl
theorem cCLvms : Try.prog.cellsOf 23 = 1 := by kernel_rfl
theorem cCLtenants : Try.prog.cellsOf 24 = 1 := by kernel_rfl
theorem arrayCL {α : Type} {cs : Array α} (h : cs.size = 5) : ∃ x0 x1 x2 x3 x4, cs = #[x0, x1, x2, x3, x4] := by
  obtain ⟨l⟩ := cs
  match l, h with
  | [x0, x1, x2, x3, x4], _ => exact ⟨x0, x1, x2, x3, x4, rfl⟩
set_option maxRecDepth 100000 in
theorem open_CL {H : Type} {enc : TypeId × Value → H} {W : World} {base : Nat} {v : Value} {d : DataW H} {p : List MemPlace} (hv : Value.okWide Try.prog W .any base 26 v)
    (h : DataW.Trod enc Try.prog W 0 (fun _ => true) true 26 v d p) : ∃ (s : CL) (a : CA), v = clA s a ∧ CLRows W s a ∧ CLmax s := by
  obtain ⟨cs, rfl, hsz⟩ := okWide_struct Try.underlying26 hv
  obtain ⟨x0, x1, x2, x3, x4, rfl⟩ := arrayCL (hsz.trans cCLT)
  obtain ⟨fuel, hf⟩ := h
  obtain ⟨xs, n, _, hx, _, hlen, hel⟩ := DataW.trod_struct Try.underlying26 hf
  match xs, hlen, hel, hx with
  | [y0, y1, y2, y3, y4], _, hel, hx =>
    have g0 := hel 0 _ rfl
    have g1 := hel 1 _ rfl
    have g2 := hel 2 _ rfl
    have g3 := hel 3 _ rfl
    have g4 := hel 4 _ rfl
    simp only [Value.cells] at g0 g1 g2 g3 g4
    have j0 : DataW.trod enc Try.prog W 0 (fun _ => true) true n 22 [x0] = some y0 := by simpa [cCLnodes, cCLvms, cCLtenants, cCLI] using g0
    obtain ⟨l0, r0, w0⟩ := open_nodS j0
    have j1 : DataW.trod enc Try.prog W 0 (fun _ => true) true n 23 [x1] = some y1 := by simpa [cCLnodes, cCLvms, cCLtenants, cCLI] using g1
    obtain ⟨l1, r1, w1⟩ := open_vmcS j1
    have j2 : DataW.trod enc Try.prog W 0 (fun _ => true) true n 24 [x2] = some y2 := by simpa [cCLnodes, cCLvms, cCLtenants, cCLI] using g2
    obtain ⟨l2, r2, w2⟩ := open_tntS j2
    obtain ⟨a3, e3, _, _⟩ := DataW.trod_int Try.underlying2 g3
    obtain ⟨a4, e4, _, _⟩ := DataW.trod_int Try.underlying2 g4
    simp [cCLI] at e3 e4
    subst e3 e4
    exact ⟨⟨l0, l1, l2, a3, a4⟩, ⟨x0, x1, x2⟩, rfl, ⟨r0, r1, r2⟩, ⟨w0, w1, w2⟩⟩

set_option maxRecDepth 100000 in
set_option maxHeartbeats 8000000 in
theorem walkBN {w : World} {s : CL} {a : CA} (h : CLRows w s a) (hm : CLmax s) {v : VMC} (_ : True) (hv : v.name.size ≤ maxLen ∧ v.node.size ≤ maxLen) : Calls Try.prog 5 #[clA s a, .agg #[.string v.name, .int .i64 v.tenant, .int .i64 v.cpu, .int .i64 v.mem, .int .i64 v.zone, .int .i64 v.apart, .string v.node, .int .i64 v.epoch]] w fun e w' => e = .returned (.bool true) ∧ Below w.heap.size w w' := by
  have HR : Hid (CLRows w s a) := h
  have HSZ : Hid (∀ u, Aft w u → Calls Try.prog 6 #[clA s a, .int .i64 1048576] u fun e w' => ∃ q, e = .returned (.int .i64 q) ∧ -1 ≤ q ∧ q ≤ 1048576 ∧ (0 ≤ q → CLlen s) ∧ Below u.heap.size u w') := fun u hu => szCL_w (HR.out.below hu.out) hm
  have HSV : Hid (∀ u l, 0 ≤ l → l ≤ 1048576 → Calls Try.prog 11 #[.agg #[.string v.name, .int .i64 v.tenant, .int .i64 v.cpu, .int .i64 v.mem, .int .i64 v.zone, .int .i64 v.apart, .string v.node, .int .i64 v.epoch], .int .i64 l] u fun e w' => ∃ q, e = .returned (.int .i64 q) ∧ -1 ≤ q ∧ q ≤ 1048576 ∧ (0 ≤ q → v.name.size ≤ 1048576 ∧ v.node.size ≤ 1048576) ∧ Below u.heap.size u w') := fun u l h0 h1 => szVMC_w v l u h0 h1 hv.1 hv.2
  have HTV : Hid (∀ u, Calls Try.prog 13 #[.agg #[.string v.name, .int .i64 v.tenant, .int .i64 v.cpu, .int .i64 v.mem, .int .i64 v.zone, .int .i64 v.apart, .string v.node, .int .i64 v.epoch]] u fun e w' => e = .returned (.agg #[.string v.name, .int .i64 v.tenant, .int .i64 v.cpu, .int .i64 v.mem, .int .i64 v.zone, .int .i64 v.apart, .string v.node, .int .i64 v.epoch]) ∧ Below u.heap.size u w') := fun u => toVMC_any v u
  have HTO0 : Hid (CLlen s → ∀ u, Aft w u → Calls Try.prog 8 #[clA s a] u fun e w' => ∃ a2 : CA, e = .returned (clA s a2) ∧ CLRows w' s a2 ∧ Below u.heap.size u w') := fun hl u hu => toCL_any (HR.out.below hu.out) hl
  obtain ⟨an, kn, av, kv, ae, ke, e⟩ := h.sl
  subst e
  have HL0 : Hid (LG w ((w.alloc (.cells #[.slice an s.nodes.length kn, .slice av s.vms.length kv, .slice ae s.tenants.length ke, .int .i64 s.over, .int .i64 s.time] 26)).alloc (.cells #[.string v.name, .int .i64 v.tenant, .int .i64 v.cpu, .int .i64 v.mem, .int .i64 v.zone, .int .i64 v.apart, .string v.node, .int .i64 v.epoch] 38)) w.heap.size #[.slice an s.nodes.length kn, .slice av s.vms.length kv, .slice ae s.tenants.length ke, .int .i64 s.over, .int .i64 s.time] 26) := (LG.new w _ _).next
  have HV0 : Hid (LG w ((w.alloc (.cells #[.slice an s.nodes.length kn, .slice av s.vms.length kv, .slice ae s.tenants.length ke, .int .i64 s.over, .int .i64 s.time] 26)).alloc (.cells #[.string v.name, .int .i64 v.tenant, .int .i64 v.cpu, .int .i64 v.mem, .int .i64 v.zone, .int .i64 v.apart, .string v.node, .int .i64 v.epoch] 38)) (w.heap.size + 1) #[.string v.name, .int .i64 v.tenant, .int .i64 v.cpu, .int .i64 v.mem, .int .i64 v.zone, .int .i64 v.apart, .string v.node, .int .i64 v.epoch] 38) := (LG.mk2 (LG.new w _ _).bel).cast (by simp)
  clear h hm hv
  unfold clA clC at HSZ HTO0
  unfold clA clC
  simp only at HSZ HTO0 ⊢
  go_enter Try.func5, Try.ntmps5
  go_upto_region 1 with fail
  generalize ((w.alloc (.cells #[.slice an s.nodes.length kn, .slice av s.vms.length kv, .slice ae s.tenants.length ke, .int .i64 s.over, .int .i64 s.time] 26)).alloc (.cells #[.string v.name, .int .i64 v.tenant, .int .i64 v.cpu, .int .i64 v.mem, .int .i64 v.zone, .int .i64 v.apart, .string v.node, .int .i64 v.epoch] 38)) = u0 at *
  generalize hvb : w.heap.size + 1 = bv at HV0 ⊢
  generalize hbb : w.heap.size = bc at HL0 ⊢
  have k0 := HL0.out.cel 0 _ rfl
  have k1 := HL0.out.cel 1 _ rfl
  have k2 := HL0.out.cel 2 _ rfl
  have k3 := HL0.out.cel 3 _ rfl
  have k4 := HL0.out.cel 4 _ rfl
  have kl := HL0.out.lt
  have v0 := HV0.out.cel 0 _ rfl
  have v1 := HV0.out.cel 1 _ rfl
  have v2 := HV0.out.cel 2 _ rfl
  have v3 := HV0.out.cel 3 _ rfl
  have v4 := HV0.out.cel 4 _ rfl
  have v5 := HV0.out.cel 5 _ rfl
  have v6 := HV0.out.cel 6 _ rfl
  have v7 := HV0.out.cel 7 _ rfl
  have vl := HV0.out.lt
  go_upto_region 3 with (go_at_call 6; refine Calls.mono (HSZ.out _ HL0.out.aft) ?_; rintro e w1 ⟨q, rfl, q0, q1, hq, hb⟩)
  have HL1 : Hid (LG w w1 bc #[.slice an s.nodes.length kn, .slice av s.vms.length kv, .slice ae s.tenants.length ke, .int .i64 s.over, .int .i64 s.time] 26) := HL0.out.step hb
  have HV1 : Hid (LG w w1 bv #[.string v.name, .int .i64 v.tenant, .int .i64 v.cpu, .int .i64 v.mem, .int .i64 v.zone, .int .i64 v.apart, .string v.node, .int .i64 v.epoch] 38) := HV0.out.step hb
  have HQ : Hid (0 ≤ q → CLlen s) := hq
  clear hb hq HL0 HV0 HSZ k0 k1 k2 k3 k4 kl v0 v1 v2 v3 v4 v5 v6 v7 vl
  cases t1 : decide (q < 0)
  rotate_left
  · go_wp2
    go_ret
    exact ⟨rfl, hbb ▸ HL1.out.bel⟩
  have hq0 : 0 ≤ q := by have := of_decide_eq_false t1; omega
  have hl : CLlen s := HQ.out hq0
  have HTO : Hid (∀ u, Aft w u → Calls Try.prog 8 #[.agg #[.slice an s.nodes.length kn, .slice av s.vms.length kv, .slice ae s.tenants.length ke, .int .i64 s.over, .int .i64 s.time]] u fun e w' => ∃ anx knx avx kvx aex kex, e = .returned (.agg #[.slice anx s.nodes.length knx, .slice avx s.vms.length kvx, .slice aex s.tenants.length kex, .int .i64 s.over, .int .i64 s.time]) ∧ CLRows w' s ⟨.slice anx s.nodes.length knx, .slice avx s.vms.length kvx, .slice aex s.tenants.length kex⟩ ∧ Below u.heap.size u w') := (fun u hu => (HTO0.out hl u hu).mono (by rintro e w' ⟨a2, rfl, hx, hb⟩; obtain ⟨anx, knx, avx, kvx, aex, kex, ee⟩ := hx.sl; rw [ee] at hx ⊢; exact ⟨anx, knx, avx, kvx, aex, kex, rfl, hx, hb⟩))
  have HSP : Hid (∀ u anx knx avx kvx aex kex, CLRows u s ⟨.slice anx s.nodes.length knx, .slice avx s.vms.length kvx, .slice aex s.tenants.length kex⟩ → Calls Try.prog 15 #[.agg #[.slice anx s.nodes.length knx, .slice avx s.vms.length kvx, .slice aex s.tenants.length kex, .int .i64 s.over, .int .i64 s.time], .agg #[.string v.name, .int .i64 v.tenant, .int .i64 v.cpu, .int .i64 v.mem, .int .i64 v.zone, .int .i64 v.apart, .string v.node, .int .i64 v.epoch]] u fun e w' => e = .returned (.string (bnV s v)) ∧ Below u.heap.size u w') := (fun u anx knx avx kvx aex kex hx => by have h9 := specBN_any hx hl v; unfold clA clC at h9; simp only at h9; exact h9)
  have HIM : Hid (∀ u anx knx avx kvx aex kex, CLRows u s ⟨.slice anx s.nodes.length knx, .slice avx s.vms.length kvx, .slice aex s.tenants.length kex⟩ → Calls Try.prog 16 #[.agg #[.slice anx s.nodes.length knx, .slice avx s.vms.length kvx, .slice aex s.tenants.length kex, .int .i64 s.over, .int .i64 s.time], .agg #[.string v.name, .int .i64 v.tenant, .int .i64 v.cpu, .int .i64 v.mem, .int .i64 v.zone, .int .i64 v.apart, .string v.node, .int .i64 v.epoch]] u fun e w' => e = .returned (.string (bnV s v)) ∧ Below u.heap.size u w') := (fun u anx knx avx kvx aex kex hx => by have h9 := implBN_any hx hl v; unfold clA clC at h9; simp only at h9; exact h9)
  have HEQ : Hid (∀ u anx knx avx kvx aex kex any kny avy kvy aey key, CLRows u s ⟨.slice anx s.nodes.length knx, .slice avx s.vms.length kvx, .slice aex s.tenants.length kex⟩ → CLRows u s ⟨.slice any s.nodes.length kny, .slice avy s.vms.length kvy, .slice aey s.tenants.length key⟩ → Calls Try.prog 10 #[.agg #[.slice anx s.nodes.length knx, .slice avx s.vms.length kvx, .slice aex s.tenants.length kex, .int .i64 s.over, .int .i64 s.time], .agg #[.slice any s.nodes.length kny, .slice avy s.vms.length kvy, .slice aey s.tenants.length key, .int .i64 s.over, .int .i64 s.time]] u fun e w' => e = .returned (.bool true) ∧ Below u.heap.size u w') := (fun u anx knx avx kvx aex kex any kny avy kvy aey key hx hy => by have h9 := eqCL_ok hx hy hl; unfold clA clC at h9; simp only at h9; exact h9)
  generalize bnV s v = V at HSP HIM
  clear HQ hl HTO0 HR
  have k0 := HL1.out.cel 0 _ rfl
  have k1 := HL1.out.cel 1 _ rfl
  have k2 := HL1.out.cel 2 _ rfl
  have k3 := HL1.out.cel 3 _ rfl
  have k4 := HL1.out.cel 4 _ rfl
  have kl := HL1.out.lt
  have v0 := HV1.out.cel 0 _ rfl
  have v1 := HV1.out.cel 1 _ rfl
  have v2 := HV1.out.cel 2 _ rfl
  have v3 := HV1.out.cel 3 _ rfl
  have v4 := HV1.out.cel 4 _ rfl
  have v5 := HV1.out.cel 5 _ rfl
  have v6 := HV1.out.cel 6 _ rfl
  have v7 := HV1.out.cel 7 _ rfl
  have vl := HV1.out.lt
  go_upto_region 6 with (go_at_call 11; refine Calls.mono (HSV.out _ _ hq0 q1) ?_; rintro e w2 ⟨q2, rfl, p0, p1, _, hb⟩)
  have HL2 : Hid (LG w w2 bc #[.slice an s.nodes.length kn, .slice av s.vms.length kv, .slice ae s.tenants.length ke, .int .i64 s.over, .int .i64 s.time] 26) := HL1.out.step hb
  have HV2 : Hid (LG w w2 bv #[.string v.name, .int .i64 v.tenant, .int .i64 v.cpu, .int .i64 v.mem, .int .i64 v.zone, .int .i64 v.apart, .string v.node, .int .i64 v.epoch] 38) := HV1.out.step hb
  clear hb HL1 HV1 HSV k0 k1 k2 k3 k4 kl v0 v1 v2 v3 v4 v5 v6 v7 vl t1 hq0 q0 q1
  cases t2 : decide (q2 < 0)
  rotate_left
  · go_wp2
    go_ret
    exact ⟨rfl, hbb ▸ HL2.out.bel⟩
  go_upto_region 8 with fail
  clear t2 p0 p1
  have HSB : Hid ((fun w' => LG w w' bc #[.slice an s.nodes.length kn, .slice av s.vms.length kv, .slice ae s.tenants.length ke, .int .i64 s.over, .int .i64 s.time] 26 ∧ LG w w' bv #[.string v.name, .int .i64 v.tenant, .int .i64 v.cpu, .int .i64 v.mem, .int .i64 v.zone, .int .i64 v.apart, .string v.node, .int .i64 v.epoch] 38) w2.drew) := ⟨HL2.out.drew, HV2.out.drew⟩
  refine wp_region_held (S := fun w' => LG w w' bc #[.slice an s.nodes.length kn, .slice av s.vms.length kv, .slice ae s.tenants.length ke, .int .i64 s.over, .int .i64 s.time] 26 ∧ LG w w' bv #[.string v.name, .int .i64 v.tenant, .int .i64 v.cpu, .int .i64 v.mem, .int .i64 v.zone, .int .i64 v.apart, .string v.node, .int .i64 v.epoch] 38) (by kernel_rfl) ?_
  change wpAnyH _ _ _ _ _ _ _ _ (World.drew _)
  refine wpAnyH_take (i := 0) (v := .agg #[.slice an s.nodes.length kn, .slice av s.vms.length kv, .slice ae s.tenants.length ke, .int .i64 s.over, .int .i64 s.time]) rfl (by kernel_rfl) (by kernel_rfl) (by kernel_rfl) (fun _ _ _ h => h) (Or.inl ⟨by kernel_rfl, fun w9 h9 => ?_⟩) HSB.out ?_
  · obtain ⟨hlg, hvg⟩ := h9; have z0 := hlg.cel 0 _ rfl; have z1 := hlg.cel 1 _ rfl; have z2 := hlg.cel 2 _ rfl; have z3 := hlg.cel 3 _ rfl; have z4 := hlg.cel 4 _ rfl; have y0 := hvg.cel 0 _ rfl; have y1 := hvg.cel 1 _ rfl; have y2 := hvg.cel 2 _ rfl; have y3 := hvg.cel 3 _ rfl; have y4 := hvg.cel 4 _ rfl; have y5 := hvg.cel 5 _ rfl; have y6 := hvg.cel 6 _ rfl; have y7 := hvg.cel 7 _ rfl; go_simp
  refine wpAnyH_take (i := 2) (v := .agg #[.string v.name, .int .i64 v.tenant, .int .i64 v.cpu, .int .i64 v.mem, .int .i64 v.zone, .int .i64 v.apart, .string v.node, .int .i64 v.epoch]) rfl (by kernel_rfl) (by kernel_rfl) (by kernel_rfl) (fun _ _ _ h => h) (Or.inl ⟨by kernel_rfl, fun w9 h9 => ?_⟩) HSB.out ?_
  · obtain ⟨hlg, hvg⟩ := h9; have z0 := hlg.cel 0 _ rfl; have z1 := hlg.cel 1 _ rfl; have z2 := hlg.cel 2 _ rfl; have z3 := hlg.cel 3 _ rfl; have z4 := hlg.cel 4 _ rfl; have y0 := hvg.cel 0 _ rfl; have y1 := hvg.cel 1 _ rfl; have y2 := hvg.cel 2 _ rfl; have y3 := hvg.cel 3 _ rfl; have y4 := hvg.cel 4 _ rfl; have y5 := hvg.cel 5 _ rfl; have y6 := hvg.cel 6 _ rfl; have y7 := hvg.cel 7 _ rfl; go_simp
  refine held_one 1 (by kernel_rfl) rfl (by kernel_rfl) fun K hK => ?_
  go_simp
  go_wp2_with (go_at_call 8; refine Calls.mono (HTO.out _ HSB.out.1.aft) ?_; rintro e w3 ⟨an1, kn1, av1, kv1, ae1, ke1, rfl, hx, hb⟩; have HX3 : Hid (CLRows w3 s ⟨.slice an1 s.nodes.length kn1, .slice av1 s.vms.length kv1, .slice ae1 s.tenants.length ke1⟩) := hx; have HS3 : Hid ((fun w' => LG w w' bc #[.slice an s.nodes.length kn, .slice av s.vms.length kv, .slice ae s.tenants.length ke, .int .i64 s.over, .int .i64 s.time] 26 ∧ LG w w' bv #[.string v.name, .int .i64 v.tenant, .int .i64 v.cpu, .int .i64 v.mem, .int .i64 v.zone, .int .i64 v.apart, .string v.node, .int .i64 v.epoch] 38) w3) := ⟨HSB.out.1.step hb, HSB.out.2.step hb⟩; clear hb hx)
  refine hK _ _ HS3.out ?_
  clear hK K
  refine held_one 3 (by kernel_rfl) rfl (by kernel_rfl) fun K hK => ?_
  go_simp
  go_wp2_with (go_at_call 13; refine Calls.mono (HTV.out _) ?_; rintro e w4 ⟨rfl, hb⟩; have HX4 : Hid (CLRows w4 s ⟨.slice an1 s.nodes.length kn1, .slice av1 s.vms.length kv1, .slice ae1 s.tenants.length ke1⟩) := HX3.out.below hb; have HS4 : Hid ((fun w' => LG w w' bc #[.slice an s.nodes.length kn, .slice av s.vms.length kv, .slice ae s.tenants.length ke, .int .i64 s.over, .int .i64 s.time] 26 ∧ LG w w' bv #[.string v.name, .int .i64 v.tenant, .int .i64 v.cpu, .int .i64 v.mem, .int .i64 v.zone, .int .i64 v.apart, .string v.node, .int .i64 v.epoch] 38) w4) := ⟨HS3.out.1.step hb, HS3.out.2.step hb⟩; clear hb)
  refine hK _ _ HS4.out ?_
  clear hK K
  refine held_one 4 (by kernel_rfl) rfl (by kernel_rfl) fun K hK => ?_
  go_simp
  go_wp2_with (go_at_call 15; refine Calls.mono (HSP.out _ _ _ _ _ _ _ HX4.out) ?_; rintro e w5 ⟨rfl, hb⟩; have HS5 : Hid ((fun w' => LG w w' bc #[.slice an s.nodes.length kn, .slice av s.vms.length kv, .slice ae s.tenants.length ke, .int .i64 s.over, .int .i64 s.time] 26 ∧ LG w w' bv #[.string v.name, .int .i64 v.tenant, .int .i64 v.cpu, .int .i64 v.mem, .int .i64 v.zone, .int .i64 v.apart, .string v.node, .int .i64 v.epoch] 38) w5) := ⟨HS4.out.1.step hb, HS4.out.2.step hb⟩; clear hb)
  refine hK _ _ HS5.out ?_
  clear hK K
  refine wpAnyH_take (i := 5) (v := .string V) rfl (by kernel_rfl) (by kernel_rfl) (by kernel_rfl) (fun _ _ _ h => h) (Or.inl ⟨by kernel_rfl, fun w9 h9 => ?_⟩) HS5.out ?_
  · go_simp
  refine wpAnyH_done (by kernel_rfl) ?_ _
  go_simp
  clear HSB HS3 HS4 HX3 HX4 HSP HL2 HV2
  have HL5 : Hid (LG w w5 bc #[.slice an s.nodes.length kn, .slice av s.vms.length kv, .slice ae s.tenants.length ke, .int .i64 s.over, .int .i64 s.time] 26) := HS5.out.1
  have HV5 : Hid (LG w w5 bv #[.string v.name, .int .i64 v.tenant, .int .i64 v.cpu, .int .i64 v.mem, .int .i64 v.zone, .int .i64 v.apart, .string v.node, .int .i64 v.epoch] 38) := HS5.out.2
  clear HS5
  have k0 := HL5.out.cel 0 _ rfl
  have k1 := HL5.out.cel 1 _ rfl
  have k2 := HL5.out.cel 2 _ rfl
  have k3 := HL5.out.cel 3 _ rfl
  have k4 := HL5.out.cel 4 _ rfl
  have kl := HL5.out.lt
  go_upto_region 10 with (go_at_call 8; refine Calls.mono (HTO.out _ HL5.out.aft) ?_; rintro e w6 ⟨an2, kn2, av2, kv2, ae2, ke2, rfl, hx, hb⟩; have HX6 : Hid (CLRows w6 s ⟨.slice an2 s.nodes.length kn2, .slice av2 s.vms.length kv2, .slice ae2 s.tenants.length ke2⟩) := hx; have HL6 : Hid (LG w w6 bc #[.slice an s.nodes.length kn, .slice av s.vms.length kv, .slice ae s.tenants.length ke, .int .i64 s.over, .int .i64 s.time] 26) := HL5.out.step hb; have HV6 : Hid (LG w w6 bv #[.string v.name, .int .i64 v.tenant, .int .i64 v.cpu, .int .i64 v.mem, .int .i64 v.zone, .int .i64 v.apart, .string v.node, .int .i64 v.epoch] 38) := HV5.out.step hb; clear hb hx)
  have HL7 : Hid (LG w (w6.alloc (.cells #[.slice an2 s.nodes.length kn2, .slice av2 s.vms.length kv2, .slice ae2 s.tenants.length ke2, .int .i64 s.over, .int .i64 s.time] 33)) bc #[.slice an s.nodes.length kn, .slice av s.vms.length kv, .slice ae s.tenants.length ke, .int .i64 s.over, .int .i64 s.time] 26) := HL6.out.next
  have HV7 : Hid (LG w (w6.alloc (.cells #[.slice an2 s.nodes.length kn2, .slice av2 s.vms.length kv2, .slice ae2 s.tenants.length ke2, .int .i64 s.over, .int .i64 s.time] 33)) bv #[.string v.name, .int .i64 v.tenant, .int .i64 v.cpu, .int .i64 v.mem, .int .i64 v.zone, .int .i64 v.apart, .string v.node, .int .i64 v.epoch] 38) := HV6.out.next
  have HG7 : Hid (LG w (w6.alloc (.cells #[.slice an2 s.nodes.length kn2, .slice av2 s.vms.length kv2, .slice ae2 s.tenants.length ke2, .int .i64 s.over, .int .i64 s.time] 33)) w6.heap.size #[.slice an2 s.nodes.length kn2, .slice av2 s.vms.length kv2, .slice ae2 s.tenants.length ke2, .int .i64 s.over, .int .i64 s.time] 33) := LG.mk2 HL6.out.bel
  have HX7 : Hid (CLRows (w6.alloc (.cells #[.slice an2 s.nodes.length kn2, .slice av2 s.vms.length kv2, .slice ae2 s.tenants.length ke2, .int .i64 s.over, .int .i64 s.time] 33)) s ⟨.slice an2 s.nodes.length kn2, .slice av2 s.vms.length kv2, .slice ae2 s.tenants.length ke2⟩) := HX6.out.below (bx1 _ _)
  clear HL5 HV5 HL6 HV6 HX6 k0 k1 k2 k3 k4 kl
  generalize (w6.alloc (.cells #[.slice an2 s.nodes.length kn2, .slice av2 s.vms.length kv2, .slice ae2 s.tenants.length ke2, .int .i64 s.over, .int .i64 s.time] 33)) = w7 at *
  generalize w6.heap.size = bx at *
  have HSB : Hid ((fun w' => LG w w' bc #[.slice an s.nodes.length kn, .slice av s.vms.length kv, .slice ae s.tenants.length ke, .int .i64 s.over, .int .i64 s.time] 26 ∧ LG w w' bv #[.string v.name, .int .i64 v.tenant, .int .i64 v.cpu, .int .i64 v.mem, .int .i64 v.zone, .int .i64 v.apart, .string v.node, .int .i64 v.epoch] 38 ∧ LG w w' bx #[.slice an2 s.nodes.length kn2, .slice av2 s.vms.length kv2, .slice ae2 s.tenants.length ke2, .int .i64 s.over, .int .i64 s.time] 33 ∧ CLRows w' s ⟨.slice an2 s.nodes.length kn2, .slice av2 s.vms.length kv2, .slice ae2 s.tenants.length ke2⟩) w7.drew) := ⟨HL7.out.drew, HV7.out.drew, HG7.out.drew, HX7.out.below ⟨rfl, rfl, rfl, Nat.le_refl _, fun _ _ => rfl⟩⟩
  refine wp_region_held (S := fun w' => LG w w' bc #[.slice an s.nodes.length kn, .slice av s.vms.length kv, .slice ae s.tenants.length ke, .int .i64 s.over, .int .i64 s.time] 26 ∧ LG w w' bv #[.string v.name, .int .i64 v.tenant, .int .i64 v.cpu, .int .i64 v.mem, .int .i64 v.zone, .int .i64 v.apart, .string v.node, .int .i64 v.epoch] 38 ∧ LG w w' bx #[.slice an2 s.nodes.length kn2, .slice av2 s.vms.length kv2, .slice ae2 s.tenants.length ke2, .int .i64 s.over, .int .i64 s.time] 33 ∧ CLRows w' s ⟨.slice an2 s.nodes.length kn2, .slice av2 s.vms.length kv2, .slice ae2 s.tenants.length ke2⟩) (by kernel_rfl) ?_
  change wpAnyH _ _ _ _ _ _ _ _ (World.drew _)
  refine wpAnyH_take (i := 0) (v := .agg #[.slice an2 s.nodes.length kn2, .slice av2 s.vms.length kv2, .slice ae2 s.tenants.length ke2, .int .i64 s.over, .int .i64 s.time]) rfl (by kernel_rfl) (by kernel_rfl) (by kernel_rfl) (fun _ _ _ h => h) (Or.inl ⟨by kernel_rfl, fun w9 h9 => ?_⟩) HSB.out ?_
  · obtain ⟨hlg, hvg, hxg, _⟩ := h9; have z0 := hlg.cel 0 _ rfl; have z1 := hlg.cel 1 _ rfl; have z2 := hlg.cel 2 _ rfl; have z3 := hlg.cel 3 _ rfl; have z4 := hlg.cel 4 _ rfl; have y0 := hvg.cel 0 _ rfl; have y1 := hvg.cel 1 _ rfl; have y2 := hvg.cel 2 _ rfl; have y3 := hvg.cel 3 _ rfl; have y4 := hvg.cel 4 _ rfl; have y5 := hvg.cel 5 _ rfl; have y6 := hvg.cel 6 _ rfl; have y7 := hvg.cel 7 _ rfl; have x0 := hxg.cel 0 _ rfl; have x1 := hxg.cel 1 _ rfl; have x2 := hxg.cel 2 _ rfl; have x3 := hxg.cel 3 _ rfl; have x4 := hxg.cel 4 _ rfl; go_simp
  refine wpAnyH_take (i := 1) (v := .agg #[.string v.name, .int .i64 v.tenant, .int .i64 v.cpu, .int .i64 v.mem, .int .i64 v.zone, .int .i64 v.apart, .string v.node, .int .i64 v.epoch]) rfl (by kernel_rfl) (by kernel_rfl) (by kernel_rfl) (fun _ _ _ h => h) (Or.inl ⟨by kernel_rfl, fun w9 h9 => ?_⟩) HSB.out ?_
  · obtain ⟨hlg, hvg, hxg, _⟩ := h9; have z0 := hlg.cel 0 _ rfl; have z1 := hlg.cel 1 _ rfl; have z2 := hlg.cel 2 _ rfl; have z3 := hlg.cel 3 _ rfl; have z4 := hlg.cel 4 _ rfl; have y0 := hvg.cel 0 _ rfl; have y1 := hvg.cel 1 _ rfl; have y2 := hvg.cel 2 _ rfl; have y3 := hvg.cel 3 _ rfl; have y4 := hvg.cel 4 _ rfl; have y5 := hvg.cel 5 _ rfl; have y6 := hvg.cel 6 _ rfl; have y7 := hvg.cel 7 _ rfl; have x0 := hxg.cel 0 _ rfl; have x1 := hxg.cel 1 _ rfl; have x2 := hxg.cel 2 _ rfl; have x3 := hxg.cel 3 _ rfl; have x4 := hxg.cel 4 _ rfl; go_simp
  refine held_one 2 (by kernel_rfl) rfl (by kernel_rfl) fun K hK => ?_
  go_simp
  go_wp2_with (go_at_call 13; refine Calls.mono (HTV.out _) ?_; rintro e w8 ⟨rfl, hb⟩; have HS8 : Hid ((fun w' => LG w w' bc #[.slice an s.nodes.length kn, .slice av s.vms.length kv, .slice ae s.tenants.length ke, .int .i64 s.over, .int .i64 s.time] 26 ∧ LG w w' bv #[.string v.name, .int .i64 v.tenant, .int .i64 v.cpu, .int .i64 v.mem, .int .i64 v.zone, .int .i64 v.apart, .string v.node, .int .i64 v.epoch] 38 ∧ LG w w' bx #[.slice an2 s.nodes.length kn2, .slice av2 s.vms.length kv2, .slice ae2 s.tenants.length ke2, .int .i64 s.over, .int .i64 s.time] 33 ∧ CLRows w' s ⟨.slice an2 s.nodes.length kn2, .slice av2 s.vms.length kv2, .slice ae2 s.tenants.length ke2⟩) w8) := ⟨HSB.out.1.step hb, HSB.out.2.1.step hb, HSB.out.2.2.1.step hb, HSB.out.2.2.2.below hb⟩; clear hb)
  refine hK _ _ HS8.out ?_
  clear hK K
  refine held_one 3 (by kernel_rfl) rfl (by kernel_rfl) fun K hK => ?_
  go_simp
  go_wp2_with (go_at_call 16; refine Calls.mono (HIM.out _ _ _ _ _ _ _ HS8.out.2.2.2) ?_; rintro e w9 ⟨rfl, hb⟩; have HS9 : Hid ((fun w' => LG w w' bc #[.slice an s.nodes.length kn, .slice av s.vms.length kv, .slice ae s.tenants.length ke, .int .i64 s.over, .int .i64 s.time] 26 ∧ LG w w' bv #[.string v.name, .int .i64 v.tenant, .int .i64 v.cpu, .int .i64 v.mem, .int .i64 v.zone, .int .i64 v.apart, .string v.node, .int .i64 v.epoch] 38 ∧ LG w w' bx #[.slice an2 s.nodes.length kn2, .slice av2 s.vms.length kv2, .slice ae2 s.tenants.length ke2, .int .i64 s.over, .int .i64 s.time] 33 ∧ CLRows w' s ⟨.slice an2 s.nodes.length kn2, .slice av2 s.vms.length kv2, .slice ae2 s.tenants.length ke2⟩) w9) := ⟨HS8.out.1.step hb, HS8.out.2.1.step hb, HS8.out.2.2.1.step hb, HS8.out.2.2.2.below hb⟩; clear hb)
  refine hK _ _ HS9.out ?_
  clear hK K
  refine wpAnyH_take (i := 4) (v := .string V) rfl (by kernel_rfl) (by kernel_rfl) (by kernel_rfl) (fun _ _ _ h => h) (Or.inl ⟨by kernel_rfl, fun w9 h9 => ?_⟩) HS9.out ?_
  · go_simp
  refine wpAnyH_done (by kernel_rfl) ?_ _
  go_simp
  clear HSB HS8 HIM HL7 HV7 HG7 HX7 HTV
  have hV : (V.toList == V.toList) = true := by simp
  go_upto_region 13 with fail
  have HSC : Hid ((fun w' => LG w w' bc #[.slice an s.nodes.length kn, .slice av s.vms.length kv, .slice ae s.tenants.length ke, .int .i64 s.over, .int .i64 s.time] 26 ∧ LG w w' bv #[.string v.name, .int .i64 v.tenant, .int .i64 v.cpu, .int .i64 v.mem, .int .i64 v.zone, .int .i64 v.apart, .string v.node, .int .i64 v.epoch] 38 ∧ LG w w' bx #[.slice an2 s.nodes.length kn2, .slice av2 s.vms.length kv2, .slice ae2 s.tenants.length ke2, .int .i64 s.over, .int .i64 s.time] 33 ∧ CLRows w' s ⟨.slice an2 s.nodes.length kn2, .slice av2 s.vms.length kv2, .slice ae2 s.tenants.length ke2⟩) w9.drew) := ⟨HS9.out.1.drew, HS9.out.2.1.drew, HS9.out.2.2.1.drew, HS9.out.2.2.2.below ⟨rfl, rfl, rfl, Nat.le_refl _, fun _ _ => rfl⟩⟩
  clear HS9
  refine wp_region_held (S := fun w' => LG w w' bc #[.slice an s.nodes.length kn, .slice av s.vms.length kv, .slice ae s.tenants.length ke, .int .i64 s.over, .int .i64 s.time] 26 ∧ LG w w' bv #[.string v.name, .int .i64 v.tenant, .int .i64 v.cpu, .int .i64 v.mem, .int .i64 v.zone, .int .i64 v.apart, .string v.node, .int .i64 v.epoch] 38 ∧ LG w w' bx #[.slice an2 s.nodes.length kn2, .slice av2 s.vms.length kv2, .slice ae2 s.tenants.length ke2, .int .i64 s.over, .int .i64 s.time] 33 ∧ CLRows w' s ⟨.slice an2 s.nodes.length kn2, .slice av2 s.vms.length kv2, .slice ae2 s.tenants.length ke2⟩) (by kernel_rfl) ?_
  change wpAnyH _ _ _ _ _ _ _ _ (World.drew _)
  refine wpAnyH_take (i := 0) (v := .agg #[.slice an2 s.nodes.length kn2, .slice av2 s.vms.length kv2, .slice ae2 s.tenants.length ke2, .int .i64 s.over, .int .i64 s.time]) rfl (by kernel_rfl) (by kernel_rfl) (by kernel_rfl) (fun _ _ _ h => h) (Or.inl ⟨by kernel_rfl, fun w9 h9 => ?_⟩) HSC.out ?_
  · obtain ⟨hlg, hvg, hxg, _⟩ := h9; have z0 := hlg.cel 0 _ rfl; have z1 := hlg.cel 1 _ rfl; have z2 := hlg.cel 2 _ rfl; have z3 := hlg.cel 3 _ rfl; have z4 := hlg.cel 4 _ rfl; have y0 := hvg.cel 0 _ rfl; have y1 := hvg.cel 1 _ rfl; have y2 := hvg.cel 2 _ rfl; have y3 := hvg.cel 3 _ rfl; have y4 := hvg.cel 4 _ rfl; have y5 := hvg.cel 5 _ rfl; have y6 := hvg.cel 6 _ rfl; have y7 := hvg.cel 7 _ rfl; have x0 := hxg.cel 0 _ rfl; have x1 := hxg.cel 1 _ rfl; have x2 := hxg.cel 2 _ rfl; have x3 := hxg.cel 3 _ rfl; have x4 := hxg.cel 4 _ rfl; go_simp
  refine wpAnyH_take (i := 1) (v := .agg #[.slice an s.nodes.length kn, .slice av s.vms.length kv, .slice ae s.tenants.length ke, .int .i64 s.over, .int .i64 s.time]) rfl (by kernel_rfl) (by kernel_rfl) (by kernel_rfl) (fun _ _ _ h => h) (Or.inl ⟨by kernel_rfl, fun w9 h9 => ?_⟩) HSC.out ?_
  · obtain ⟨hlg, hvg, hxg, _⟩ := h9; have z0 := hlg.cel 0 _ rfl; have z1 := hlg.cel 1 _ rfl; have z2 := hlg.cel 2 _ rfl; have z3 := hlg.cel 3 _ rfl; have z4 := hlg.cel 4 _ rfl; have y0 := hvg.cel 0 _ rfl; have y1 := hvg.cel 1 _ rfl; have y2 := hvg.cel 2 _ rfl; have y3 := hvg.cel 3 _ rfl; have y4 := hvg.cel 4 _ rfl; have y5 := hvg.cel 5 _ rfl; have y6 := hvg.cel 6 _ rfl; have y7 := hvg.cel 7 _ rfl; have x0 := hxg.cel 0 _ rfl; have x1 := hxg.cel 1 _ rfl; have x2 := hxg.cel 2 _ rfl; have x3 := hxg.cel 3 _ rfl; have x4 := hxg.cel 4 _ rfl; go_simp
  refine held_one 2 (by kernel_rfl) rfl (by kernel_rfl) fun K hK => ?_
  go_simp
  go_wp2_with (go_at_call 8; refine Calls.mono (HTO.out _ HSC.out.1.aft) ?_; rintro e v1 ⟨an3, kn3, av3, kv3, ae3, ke3, rfl, hx, hb⟩; have HX1 : Hid (CLRows v1 s ⟨.slice an3 s.nodes.length kn3, .slice av3 s.vms.length kv3, .slice ae3 s.tenants.length ke3⟩) := hx; have HS1 : Hid ((fun w' => LG w w' bc #[.slice an s.nodes.length kn, .slice av s.vms.length kv, .slice ae s.tenants.length ke, .int .i64 s.over, .int .i64 s.time] 26 ∧ LG w w' bv #[.string v.name, .int .i64 v.tenant, .int .i64 v.cpu, .int .i64 v.mem, .int .i64 v.zone, .int .i64 v.apart, .string v.node, .int .i64 v.epoch] 38 ∧ LG w w' bx #[.slice an2 s.nodes.length kn2, .slice av2 s.vms.length kv2, .slice ae2 s.tenants.length ke2, .int .i64 s.over, .int .i64 s.time] 33 ∧ CLRows w' s ⟨.slice an2 s.nodes.length kn2, .slice av2 s.vms.length kv2, .slice ae2 s.tenants.length ke2⟩) v1) := ⟨HSC.out.1.step hb, HSC.out.2.1.step hb, HSC.out.2.2.1.step hb, HSC.out.2.2.2.below hb⟩; clear hb hx)
  refine hK _ _ HS1.out ?_
  clear hK K
  refine held_one 3 (by kernel_rfl) rfl (by kernel_rfl) fun K hK => ?_
  go_simp
  go_wp2_with (go_at_call 10; refine Calls.mono (HEQ.out _ _ _ _ _ _ _ _ _ _ _ _ _ HS1.out.2.2.2 HX1.out) ?_; rintro e v2 ⟨rfl, hb⟩; have HS2 : Hid ((fun w' => LG w w' bc #[.slice an s.nodes.length kn, .slice av s.vms.length kv, .slice ae s.tenants.length ke, .int .i64 s.over, .int .i64 s.time] 26 ∧ LG w w' bv #[.string v.name, .int .i64 v.tenant, .int .i64 v.cpu, .int .i64 v.mem, .int .i64 v.zone, .int .i64 v.apart, .string v.node, .int .i64 v.epoch] 38 ∧ LG w w' bx #[.slice an2 s.nodes.length kn2, .slice av2 s.vms.length kv2, .slice ae2 s.tenants.length ke2, .int .i64 s.over, .int .i64 s.time] 33 ∧ CLRows w' s ⟨.slice an2 s.nodes.length kn2, .slice av2 s.vms.length kv2, .slice ae2 s.tenants.length ke2⟩) v2) := ⟨HS1.out.1.step hb, HS1.out.2.1.step hb, HS1.out.2.2.1.step hb, HS1.out.2.2.2.below hb⟩; clear hb)
  refine hK _ _ HS2.out ?_
  clear hK K
  refine wpAnyH_take (i := 4) (v := .bool false) rfl (by kernel_rfl) (by kernel_rfl) (by kernel_rfl) (fun _ _ _ h => h) (Or.inl ⟨by kernel_rfl, fun w9 h9 => ?_⟩) HS2.out ?_
  · go_simp
  refine wpAnyH_done (by kernel_rfl) ?_ _
  go_simp
  go_wp2
  go_ret
  exact ⟨rfl, hbb ▸ HS2.out.1.bel⟩

set_option maxRecDepth 100000 in
theorem open_VM {H : Type} {enc : TypeId × Value → H} {W : World} {base : Nat} {v : Value} {d : DataW H} {p : List MemPlace} (hv : Value.okWide Try.prog W .any base 38 v)
    (h : DataW.Trod enc Try.prog W 0 (fun _ => true) true 38 v d p) : ∃ (s : VMC) (_ : Unit), v = .agg #[.string s.name, .int .i64 s.tenant, .int .i64 s.cpu, .int .i64 s.mem, .int .i64 s.zone, .int .i64 s.apart, .string s.node, .int .i64 s.epoch] ∧ True ∧ (s.name.size ≤ maxLen ∧ s.node.size ≤ maxLen) := by
  obtain ⟨cs, rfl, _⟩ := okWide_struct Try.underlying38 hv
  obtain ⟨fuel, hf⟩ := h
  obtain ⟨z, hz, b1, b2⟩ := vmc_one hf
  refine ⟨z, (), ?_, trivial, b1, b2⟩
  obtain ⟨l⟩ := cs
  have e : l = vmcC z := by simpa [Value.cells] using hz
  rw [e]
  rfl
end Go.Proofs.Ytkmbhhkgfofcoaa
