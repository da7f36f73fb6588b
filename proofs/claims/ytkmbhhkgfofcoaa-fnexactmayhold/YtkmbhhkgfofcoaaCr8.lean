import Derived.Test.YtkmbhhkgfofcoaaCr7
import Derived.Test.YtkmbhhkgfofcoaaCkNOD
namespace Go.Proofs.Ytkmbhhkgfofcoaa
open Go.ChangeShapes Go.WideShapes Go.ChangeAt Go.RowKit

theorem own_ge {w : World} {B e sz n : Nat} {v : Value} {xs : List Value} (h : w.ownsRow B e sz v n xs) : ∀ j, v.ownBlock = some j → B ≤ j := by
  intro j hj
  rcases h.2 with ⟨rfl, _⟩ | ⟨g, cap, cur, rfl, hg, _⟩
  · simp [Value.ownBlock] at hj
  · simp [Value.ownBlock] at hj
    omega
def ndR (s : CL) (k : Nat) : Bool := nodB s.time (ndA s k)
def nrB (s : CL) : Bool := allD (ndR s) s.nodes.length && rsB (s.nodes.map NOD.name)
def vmR (s : CL) (k : Nat) : Bool := vmB s.tenants.length (vmA s k) && epB (vmA s k)
def vrB (s : CL) : Bool := allD (vmR s) s.vms.length && rsB (s.vms.map VMC.name)
set_option maxRecDepth 100000 in
set_option maxHeartbeats 4000000 in
theorem nodesR_any {w : World} {b : Nat} {s : CL} {a : CA} (h : CX w b s a) (hl : s.nodes.length ≤ 1048576) : Calls Try.prog 44 #[.pointer (some ⟨b, 0, none⟩)] w fun e w' => e = .returned (.bool (nrB s)) ∧ Below w.heap.size w w' := by
  have HX : Hid (CX w b s a) := h
  obtain ⟨an, kn, av, kv, ae, ke, e⟩ := h.rows.sl
  subst e
  have HR : Hid (NODrow w (.slice an s.nodes.length kn) s.nodes) := h.rows.rnodes
  have k0 := h.cel 0 (.slice an s.nodes.length kn) rfl
  have kl := h.lt
  clear h
  have E : Hid (nrB s = (allD (ndR s) s.nodes.length && rsB (s.nodes.map NOD.name))) := rfl
  have HAR : Hid (∀ u v, Srow u v (s.nodes.map NOD.name) → Calls Try.prog 70 #[v, .func (.func 54) #[] #[]] u fun e w' => e = .returned (.bool (rsB (s.nodes.map NOD.name))) ∧ Below u.heap.size u w') := fun u v hv => areRisingS_any hv (by simpa using hl)
  generalize nrB s = V at *
  generalize rsB (s.nodes.map NOD.name) = RS at *
  go_enter Try.func44, Try.ntmps44
  go_wp2
  clear k0 kl
  go_loopw [3, 11] (fun nv i wr => ∃ (k : Nat) (ao : Option Addr) (cp : Nat), k ≤ s.nodes.length ∧ nv = .slice ao k cp ∧ i = .int .i64 k ∧ allD (ndR s) k = true ∧ wr.ownsRow w.heap.size 9 1 (.slice ao k cp) k (sR ((s.nodes.take k).map NOD.name)) ∧ Below w.heap.size w wr) (fun _ i _ => s.nodes.length - (intOf i).toNat)
  case atStart => exact ⟨0, none, 0, Nat.zero_le _, rfl, rfl, rfl, World.ownsRow_nil _ _ _ _, Below.refl _ _⟩
  case round =>
    obtain ⟨k, ao, cp, hk, rfl, rfl, hok, ho, hb⟩ := hrel
    have HALL : Hid (allD (ndR s) k = true) := hok
    have HB : Hid (Below w.heap.size w wr) := hb
    have HO : Hid (wr.ownsRow w.heap.size 9 1 (.slice ao k cp) k (sR ((s.nodes.take k).map NOD.name))) := ho
    have HXR : Hid (CX wr b s ⟨.slice an s.nodes.length kn, .slice av s.vms.length kv, .slice ae s.tenants.length ke⟩) := HX.out.below hb
    clear hok hb ho
    by_cases hlt : k < s.nodes.length
    · obtain ⟨g, o, cap2, hv, _, hg, hc⟩ := HR.out.resolve_left (fun h => by rw [h.1] at hlt; simp at hlt)
      injection hv with hv1 hv2 hv3
      subst hv1 hv3
      have hgw : g < wr.heap.size := Nat.lt_of_lt_of_le hg HB.out.size
      have hk0 : (0 : Int) ≤ (k : Int) := by omega
      have hk1 : (k : Int) < (s.nodes.length : Int) := by omega
      obtain ⟨d0, d1, d2, d3, d4, d5, d6⟩ := hc.below HB.out hg k hlt
      have HS : Hid (allD (ndR s) (k + 1) = (allD (ndR s) k && ndR s k)) := allD_succ _ _
      have HBAD : Hid (ndR s k = false → V = false) := fun hh => by rw [E.out, allD_bad hlt hh, Bool.false_and]
      have HEK : Hid (ndR s k = (nodB s.time s.nodes[k])) := (show ndR s k = (nodB s.time s.nodes[k]) by unfold ndR; rw [ndA_at hlt])
      have HTK : Hid (sR ((s.nodes.take (k + 1)).map NOD.name) = sR ((s.nodes.take k).map NOD.name) ++ [.string s.nodes[k].name]) := by rw [List.take_succ_eq_append_getElem hlt, List.map_append]; exact sR_snoc _ _
      have HCL : Hid (∀ u, Calls Try.prog 69 #[.agg #[.string s.nodes[k].name, .int .i64 s.nodes[k].cpu, .int .i64 s.nodes[k].mem, .int .i64 s.nodes[k].zone, .int .i64 s.nodes[k].beat, .bool s.nodes[k].fenced, .bool s.nodes[k].closed], .int .i64 s.time] u fun e w' => e = .returned (.bool (nodB s.time s.nodes[k])) ∧ Below u.heap.size u w') := fun u => ndRight_any _ _ u
      generalize nodB s.time s.nodes[k] = NB at *
      generalize s.nodes[k] = z at *
      go_upto_region 5 with fail
      have HZ : Hid (LG w (wr.alloc (.cells #[.string z.name, .int .i64 z.cpu, .int .i64 z.mem, .int .i64 z.zone, .int .i64 z.beat, .bool z.fenced, .bool z.closed] 73)) wr.heap.size #[.string z.name, .int .i64 z.cpu, .int .i64 z.mem, .int .i64 z.zone, .int .i64 z.beat, .bool z.fenced, .bool z.closed] 73) := LG.mk2 HB.out
      have HX1 : Hid (CX (wr.alloc (.cells #[.string z.name, .int .i64 z.cpu, .int .i64 z.mem, .int .i64 z.zone, .int .i64 z.beat, .bool z.fenced, .bool z.closed] 73)) b s ⟨.slice (some ⟨g, o, none⟩) s.nodes.length kn, .slice av s.vms.length kv, .slice ae s.tenants.length ke⟩) := HXR.out.below (bx1 _ _)
      have HO1 : Hid ((wr.alloc (.cells #[.string z.name, .int .i64 z.cpu, .int .i64 z.mem, .int .i64 z.zone, .int .i64 z.beat, .bool z.fenced, .bool z.closed] 73)).ownsRow w.heap.size 9 1 (.slice ao k cp) k (sR ((s.nodes.take k).map NOD.name))) := own_belowN HO.out (bx1 _ _)
      clear d0 d1 d2 d3 d4 d5 d6 hc hgw HXR HO hk0 hk1 HR E
      generalize (wr.alloc (.cells #[.string z.name, .int .i64 z.cpu, .int .i64 z.mem, .int .i64 z.zone, .int .i64 z.beat, .bool z.fenced, .bool z.closed] 73)) = u0 at *
      generalize wr.heap.size = b0 at *
      cases NB
      · skip
        have E3 : Hid (V = false) := HBAD.out HEK.out
        clear HS HALL HEK HBAD
        have HSB : Hid ((fun w' => (LG w w' b0 #[.string z.name, .int .i64 z.cpu, .int .i64 z.mem, .int .i64 z.zone, .int .i64 z.beat, .bool z.fenced, .bool z.closed] 73) ∧ CX w' b s ⟨.slice (some ⟨g, o, none⟩) s.nodes.length kn, .slice av s.vms.length kv, .slice ae s.tenants.length ke⟩ ∧ w'.ownsRow w.heap.size 9 1 (.slice ao k cp) k (sR ((s.nodes.take k).map NOD.name))) u0.drew) := ⟨HZ.out.drew, HX1.out.below ⟨rfl, rfl, rfl, Nat.le_refl _, fun _ _ => rfl⟩, own_belowN HO1.out (⟨rfl, rfl, rfl, Nat.le_refl _, fun _ _ => rfl⟩ : Below u0.heap.size u0 u0.drew)⟩
        refine wp_region_held (S := fun w' => (LG w w' b0 #[.string z.name, .int .i64 z.cpu, .int .i64 z.mem, .int .i64 z.zone, .int .i64 z.beat, .bool z.fenced, .bool z.closed] 73) ∧ CX w' b s ⟨.slice (some ⟨g, o, none⟩) s.nodes.length kn, .slice av s.vms.length kv, .slice ae s.tenants.length ke⟩ ∧ w'.ownsRow w.heap.size 9 1 (.slice ao k cp) k (sR ((s.nodes.take k).map NOD.name))) (by kernel_rfl) ?_
        change wpAnyH _ _ _ _ _ _ _ _ (World.drew _)
        refine wpAnyH_take (i := 0) (v := .agg #[.string z.name, .int .i64 z.cpu, .int .i64 z.mem, .int .i64 z.zone, .int .i64 z.beat, .bool z.fenced, .bool z.closed]) rfl (by kernel_rfl) (by kernel_rfl) (by kernel_rfl) (fun _ _ _ h => h) (Or.inl ⟨by kernel_rfl, fun w9 h9 => ?_⟩) HSB.out ?_
        · obtain ⟨hlg, hcx, _⟩ := h9; have z0 := hlg.cel 0 _ rfl; have z1 := hlg.cel 1 _ rfl; have z2 := hlg.cel 2 _ rfl; have z3 := hlg.cel 3 _ rfl; have z4 := hlg.cel 4 _ rfl; have z5 := hlg.cel 5 _ rfl; have z6 := hlg.cel 6 _ rfl; have x4 := hcx.cel 4 (.int .i64 s.time) rfl; go_simp
        refine wpAnyH_take (i := 1) (v := .pointer (some ⟨b, 0, none⟩)) rfl (by kernel_rfl) (by kernel_rfl) (by kernel_rfl) (fun _ _ _ h => h) (Or.inl ⟨by kernel_rfl, fun w9 h9 => ?_⟩) HSB.out ?_
        · go_simp
        refine wpAnyH_take (i := 2) (v := .pointer (some ⟨b, 0, none⟩)) rfl (by kernel_rfl) (by kernel_rfl) (by kernel_rfl) (fun _ _ _ h => h) (Or.inl ⟨by kernel_rfl, fun w9 h9 => ?_⟩) HSB.out ?_
        · go_simp
        refine wpAnyH_take (i := 3) (v := .pointer (some ⟨b, 4, none⟩)) rfl (by kernel_rfl) (by kernel_rfl) (by kernel_rfl) (fun _ _ _ h => h) (Or.inl ⟨by kernel_rfl, fun w9 h9 => ?_⟩) HSB.out ?_
        · go_simp
        refine wpAnyH_take (i := 4) (v := .int .i64 s.time) rfl (by kernel_rfl) (by kernel_rfl) (by kernel_rfl) (fun _ _ _ h => h) (Or.inl ⟨by kernel_rfl, fun w9 h9 => ?_⟩) HSB.out ?_
        · obtain ⟨hlg, hcx, _⟩ := h9; have z0 := hlg.cel 0 _ rfl; have z1 := hlg.cel 1 _ rfl; have z2 := hlg.cel 2 _ rfl; have z3 := hlg.cel 3 _ rfl; have z4 := hlg.cel 4 _ rfl; have z5 := hlg.cel 5 _ rfl; have z6 := hlg.cel 6 _ rfl; have x4 := hcx.cel 4 (.int .i64 s.time) rfl; go_simp
        refine held_one 5 (by kernel_rfl) rfl (by kernel_rfl) fun K hK => ?_
        go_simp
        go_wp2_with (go_at_call 69; refine Calls.mono (HCL.out _) ?_; rintro e u1 ⟨rfl, hb1⟩; have HS1 : Hid ((fun w' => (LG w w' b0 #[.string z.name, .int .i64 z.cpu, .int .i64 z.mem, .int .i64 z.zone, .int .i64 z.beat, .bool z.fenced, .bool z.closed] 73) ∧ CX w' b s ⟨.slice (some ⟨g, o, none⟩) s.nodes.length kn, .slice av s.vms.length kv, .slice ae s.tenants.length ke⟩ ∧ w'.ownsRow w.heap.size 9 1 (.slice ao k cp) k (sR ((s.nodes.take k).map NOD.name))) u1) := ⟨HSB.out.1.step hb1, HSB.out.2.1.below hb1, own_belowN HSB.out.2.2 hb1⟩; clear hb1)
        refine hK _ _ HS1.out ?_
        clear hK K
        refine wpAnyH_take (i := 6) (v := .bool true) rfl (by kernel_rfl) (by kernel_rfl) (by kernel_rfl) (fun _ _ _ h => h) (Or.inl ⟨by kernel_rfl, fun w9 h9 => ?_⟩) HS1.out ?_
        · go_simp
        refine wpAnyH_done (by kernel_rfl) ?_ _
        go_simp
        go_wp2
        go_ret
        exact ⟨ret_bool E3.out.symm, HS1.out.1.bel⟩
      · skip
        have E3 : Hid (allD (ndR s) (k + 1) = true) := (show allD (ndR s) (k + 1) = true by rw [HS.out, HALL.out, HEK.out]; rfl)
        clear HS HALL HEK HBAD
        have HSB : Hid ((fun w' => (LG w w' b0 #[.string z.name, .int .i64 z.cpu, .int .i64 z.mem, .int .i64 z.zone, .int .i64 z.beat, .bool z.fenced, .bool z.closed] 73) ∧ CX w' b s ⟨.slice (some ⟨g, o, none⟩) s.nodes.length kn, .slice av s.vms.length kv, .slice ae s.tenants.length ke⟩ ∧ w'.ownsRow w.heap.size 9 1 (.slice ao k cp) k (sR ((s.nodes.take k).map NOD.name))) u0.drew) := ⟨HZ.out.drew, HX1.out.below ⟨rfl, rfl, rfl, Nat.le_refl _, fun _ _ => rfl⟩, own_belowN HO1.out (⟨rfl, rfl, rfl, Nat.le_refl _, fun _ _ => rfl⟩ : Below u0.heap.size u0 u0.drew)⟩
        refine wp_region_held (S := fun w' => (LG w w' b0 #[.string z.name, .int .i64 z.cpu, .int .i64 z.mem, .int .i64 z.zone, .int .i64 z.beat, .bool z.fenced, .bool z.closed] 73) ∧ CX w' b s ⟨.slice (some ⟨g, o, none⟩) s.nodes.length kn, .slice av s.vms.length kv, .slice ae s.tenants.length ke⟩ ∧ w'.ownsRow w.heap.size 9 1 (.slice ao k cp) k (sR ((s.nodes.take k).map NOD.name))) (by kernel_rfl) ?_
        change wpAnyH _ _ _ _ _ _ _ _ (World.drew _)
        refine wpAnyH_take (i := 0) (v := .agg #[.string z.name, .int .i64 z.cpu, .int .i64 z.mem, .int .i64 z.zone, .int .i64 z.beat, .bool z.fenced, .bool z.closed]) rfl (by kernel_rfl) (by kernel_rfl) (by kernel_rfl) (fun _ _ _ h => h) (Or.inl ⟨by kernel_rfl, fun w9 h9 => ?_⟩) HSB.out ?_
        · obtain ⟨hlg, hcx, _⟩ := h9; have z0 := hlg.cel 0 _ rfl; have z1 := hlg.cel 1 _ rfl; have z2 := hlg.cel 2 _ rfl; have z3 := hlg.cel 3 _ rfl; have z4 := hlg.cel 4 _ rfl; have z5 := hlg.cel 5 _ rfl; have z6 := hlg.cel 6 _ rfl; have x4 := hcx.cel 4 (.int .i64 s.time) rfl; go_simp
        refine wpAnyH_take (i := 1) (v := .pointer (some ⟨b, 0, none⟩)) rfl (by kernel_rfl) (by kernel_rfl) (by kernel_rfl) (fun _ _ _ h => h) (Or.inl ⟨by kernel_rfl, fun w9 h9 => ?_⟩) HSB.out ?_
        · go_simp
        refine wpAnyH_take (i := 2) (v := .pointer (some ⟨b, 0, none⟩)) rfl (by kernel_rfl) (by kernel_rfl) (by kernel_rfl) (fun _ _ _ h => h) (Or.inl ⟨by kernel_rfl, fun w9 h9 => ?_⟩) HSB.out ?_
        · go_simp
        refine wpAnyH_take (i := 3) (v := .pointer (some ⟨b, 4, none⟩)) rfl (by kernel_rfl) (by kernel_rfl) (by kernel_rfl) (fun _ _ _ h => h) (Or.inl ⟨by kernel_rfl, fun w9 h9 => ?_⟩) HSB.out ?_
        · go_simp
        refine wpAnyH_take (i := 4) (v := .int .i64 s.time) rfl (by kernel_rfl) (by kernel_rfl) (by kernel_rfl) (fun _ _ _ h => h) (Or.inl ⟨by kernel_rfl, fun w9 h9 => ?_⟩) HSB.out ?_
        · obtain ⟨hlg, hcx, _⟩ := h9; have z0 := hlg.cel 0 _ rfl; have z1 := hlg.cel 1 _ rfl; have z2 := hlg.cel 2 _ rfl; have z3 := hlg.cel 3 _ rfl; have z4 := hlg.cel 4 _ rfl; have z5 := hlg.cel 5 _ rfl; have z6 := hlg.cel 6 _ rfl; have x4 := hcx.cel 4 (.int .i64 s.time) rfl; go_simp
        refine held_one 5 (by kernel_rfl) rfl (by kernel_rfl) fun K hK => ?_
        go_simp
        go_wp2_with (go_at_call 69; refine Calls.mono (HCL.out _) ?_; rintro e u1 ⟨rfl, hb1⟩; have HS1 : Hid ((fun w' => (LG w w' b0 #[.string z.name, .int .i64 z.cpu, .int .i64 z.mem, .int .i64 z.zone, .int .i64 z.beat, .bool z.fenced, .bool z.closed] 73) ∧ CX w' b s ⟨.slice (some ⟨g, o, none⟩) s.nodes.length kn, .slice av s.vms.length kv, .slice ae s.tenants.length ke⟩ ∧ w'.ownsRow w.heap.size 9 1 (.slice ao k cp) k (sR ((s.nodes.take k).map NOD.name))) u1) := ⟨HSB.out.1.step hb1, HSB.out.2.1.below hb1, own_belowN HSB.out.2.2 hb1⟩; clear hb1)
        refine hK _ _ HS1.out ?_
        clear hK K
        refine wpAnyH_take (i := 6) (v := .bool false) rfl (by kernel_rfl) (by kernel_rfl) (by kernel_rfl) (fun _ _ _ h => h) (Or.inl ⟨by kernel_rfl, fun w9 h9 => ?_⟩) HS1.out ?_
        · go_simp
        refine wpAnyH_done (by kernel_rfl) ?_ _
        go_simp
        have HZ2 : Hid (LG w u1 b0 #[.string z.name, .int .i64 z.cpu, .int .i64 z.mem, .int .i64 z.zone, .int .i64 z.beat, .bool z.fenced, .bool z.closed] 73) := HS1.out.1
        have HO2 : Hid (u1.ownsRow w.heap.size 9 1 (.slice ao k cp) k (sR ((s.nodes.take k).map NOD.name))) := HS1.out.2.2
        clear HSB HS1 HX1 HO1 HZ HCL
        have z0 := HZ2.out.cel 0 _ rfl
        have zl := HZ2.out.lt
        have HAP : Hid _ := app1S HO2.out z.name (by omega) HZ2.out.bel.size
        go_wp2_with (at_builtin; (refine wl_append_ex rfl _ _ 111 rfl _ _ rfl rfl HAP.out ?_; rintro v' u6 ⟨ho, hg9⟩; obtain ⟨a9, c9, rfl⟩ := s_slS ho; have HO6 : Hid (u6.ownsRow w.heap.size 9 1 (.slice a9 (k + 1) c9) (k + 1) (sR ((s.nodes.take ((k + 1))).map NOD.name))) := (by rw [HTK.out]; exact ho); have HB6 : Hid (Below w.heap.size w u6) := (HZ2.out.bel.alloc HZ2.out.bel.size _).grown hg9 (Nat.le_trans HZ2.out.bel.size (by simp)) (own_ge HO2.out); clear ho hg9))
        exact ⟨⟨k + 1, a9, c9, hlt, rfl, by go_num, E3.out, HO6.out, HB6.out⟩, by simp [intOf]; omega⟩
    · obtain rfl : k = s.nodes.length := by omega
      have E2 : Hid (V = RS) := (show V = RS by rw [E.out, HALL.out, Bool.true_and])
      have HSR : Hid (Srow wr (.slice ao s.nodes.length cp) (s.nodes.map NOD.name)) := by
        have h9 := HO.out
        rw [List.take_length] at h9
        have h8 : (s.nodes.map NOD.name).length = s.nodes.length := by simp
        have h7 := Srow.of (zs := s.nodes.map NOD.name) (v := .slice ao s.nodes.length cp) (B := w.heap.size) (w := wr) (by rw [h8]; exact h9)
        exact h7
      clear E HALL HO HXR
      go_wp2_with (go_at_call 70; refine Calls.mono (HAR.out _ _ HSR.out) ?_; rintro e u1 ⟨rfl, hu⟩; have HB1 : Hid (Below w.heap.size w u1) := HB.out.trans (hu.mono HB.out.size); clear hu)
      go_ret
      exact ⟨ret_bool E2.out.symm, HB1.out⟩
set_option maxRecDepth 100000 in
set_option maxHeartbeats 4000000 in
theorem vmsR_any {w : World} {b : Nat} {s : CL} {a : CA} (h : CX w b s a) (hl : s.vms.length ≤ 1048576) (hq : s.tenants.length ≤ 1048576) : Calls Try.prog 45 #[.pointer (some ⟨b, 0, none⟩)] w fun e w' => e = .returned (.bool (vrB s)) ∧ Below w.heap.size w w' := by
  have HX : Hid (CX w b s a) := h
  obtain ⟨an, kn, av, kv, ae, ke, e⟩ := h.rows.sl
  subst e
  have HR : Hid (VMCrow w (.slice av s.vms.length kv) s.vms) := h.rows.rvms
  have k1 := h.cel 1 (.slice av s.vms.length kv) rfl
  have kl := h.lt
  clear h
  have E : Hid (vrB s = (allD (vmR s) s.vms.length && rsB (s.vms.map VMC.name))) := rfl
  have HAR : Hid (∀ u v, Srow u v (s.vms.map VMC.name) → Calls Try.prog 70 #[v, .func (.func 54) #[] #[]] u fun e w' => e = .returned (.bool (rsB (s.vms.map VMC.name))) ∧ Below u.heap.size u w') := fun u v hv => areRisingS_any hv (by simpa using hl)
  generalize vrB s = V at *
  generalize rsB (s.vms.map VMC.name) = RS at *
  go_enter Try.func45, Try.ntmps45
  go_wp2
  clear k1 kl
  go_loopw [3, 11] (fun nv i wr => ∃ (k : Nat) (ao : Option Addr) (cp : Nat), k ≤ s.vms.length ∧ nv = .slice ao k cp ∧ i = .int .i64 k ∧ allD (vmR s) k = true ∧ wr.ownsRow w.heap.size 9 1 (.slice ao k cp) k (sR ((s.vms.take k).map VMC.name)) ∧ Below w.heap.size w wr) (fun _ i _ => s.vms.length - (intOf i).toNat)
  case atStart => exact ⟨0, none, 0, Nat.zero_le _, rfl, rfl, rfl, World.ownsRow_nil _ _ _ _, Below.refl _ _⟩
  case round =>
    obtain ⟨k, ao, cp, hk, rfl, rfl, hok, ho, hb⟩ := hrel
    have HALL : Hid (allD (vmR s) k = true) := hok
    have HB : Hid (Below w.heap.size w wr) := hb
    have HO : Hid (wr.ownsRow w.heap.size 9 1 (.slice ao k cp) k (sR ((s.vms.take k).map VMC.name))) := ho
    have HXR : Hid (CX wr b s ⟨.slice an s.nodes.length kn, .slice av s.vms.length kv, .slice ae s.tenants.length ke⟩) := HX.out.below hb
    clear hok hb ho
    by_cases hlt : k < s.vms.length
    · obtain ⟨g, o, cap2, hv, _, hg, hc⟩ := HR.out.resolve_left (fun h => by rw [h.1] at hlt; simp at hlt)
      injection hv with hv1 hv2 hv3
      subst hv1 hv3
      have hgw : g < wr.heap.size := Nat.lt_of_lt_of_le hg HB.out.size
      have hk0 : (0 : Int) ≤ (k : Int) := by omega
      have hk1 : (k : Int) < (s.vms.length : Int) := by omega
      obtain ⟨d0, d1, d2, d3, d4, d5, d6, d7⟩ := hc.below HB.out hg k hlt
      have HS : Hid (allD (vmR s) (k + 1) = (allD (vmR s) k && vmR s k)) := allD_succ _ _
      have HBAD : Hid (vmR s k = false → V = false) := fun hh => by rw [E.out, allD_bad hlt hh, Bool.false_and]
      have HEK : Hid (vmR s k = (vmB s.tenants.length s.vms[k] && epB s.vms[k])) := (show vmR s k = (vmB s.tenants.length s.vms[k] && epB s.vms[k]) by unfold vmR; rw [vmA_at hlt])
      have HTK : Hid (sR ((s.vms.take (k + 1)).map VMC.name) = sR ((s.vms.take k).map VMC.name) ++ [.string s.vms[k].name]) := by rw [List.take_succ_eq_append_getElem hlt, List.map_append]; exact sR_snoc _ _
      have HCL : Hid (∀ u, Calls Try.prog 34 #[.agg #[.string s.vms[k].name, .int .i64 s.vms[k].tenant, .int .i64 s.vms[k].cpu, .int .i64 s.vms[k].mem, .int .i64 s.vms[k].zone, .int .i64 s.vms[k].apart, .string s.vms[k].node, .int .i64 s.vms[k].epoch], .int .i64 (s.tenants.length : Nat)] u fun e w' => e = .returned (.bool (vmB s.tenants.length s.vms[k])) ∧ Below u.heap.size u w') := fun u => vmOne_any _ _ hq u
      generalize vmB s.tenants.length s.vms[k] = VB at *
      generalize s.vms[k] = z at *
      go_upto_region 5 with fail
      have HZ : Hid (LG w (wr.alloc (.cells #[.string z.name, .int .i64 z.tenant, .int .i64 z.cpu, .int .i64 z.mem, .int .i64 z.zone, .int .i64 z.apart, .string z.node, .int .i64 z.epoch] 41)) wr.heap.size #[.string z.name, .int .i64 z.tenant, .int .i64 z.cpu, .int .i64 z.mem, .int .i64 z.zone, .int .i64 z.apart, .string z.node, .int .i64 z.epoch] 41) := LG.mk2 HB.out
      have HX1 : Hid (CX (wr.alloc (.cells #[.string z.name, .int .i64 z.tenant, .int .i64 z.cpu, .int .i64 z.mem, .int .i64 z.zone, .int .i64 z.apart, .string z.node, .int .i64 z.epoch] 41)) b s ⟨.slice an s.nodes.length kn, .slice (some ⟨g, o, none⟩) s.vms.length kv, .slice ae s.tenants.length ke⟩) := HXR.out.below (bx1 _ _)
      have HO1 : Hid ((wr.alloc (.cells #[.string z.name, .int .i64 z.tenant, .int .i64 z.cpu, .int .i64 z.mem, .int .i64 z.zone, .int .i64 z.apart, .string z.node, .int .i64 z.epoch] 41)).ownsRow w.heap.size 9 1 (.slice ao k cp) k (sR ((s.vms.take k).map VMC.name))) := own_belowN HO.out (bx1 _ _)
      clear d0 d1 d2 d3 d4 d5 d6 d7 hc hgw HXR HO hk0 hk1 HR E
      generalize (wr.alloc (.cells #[.string z.name, .int .i64 z.tenant, .int .i64 z.cpu, .int .i64 z.mem, .int .i64 z.zone, .int .i64 z.apart, .string z.node, .int .i64 z.epoch] 41)) = u0 at *
      generalize wr.heap.size = b0 at *
      cases VB
      · skip
        have E3 : Hid (V = false) := HBAD.out (HEK.out.trans (by simp [epB]; try omega))
        clear HS HALL HEK HBAD
        have HSB : Hid ((fun w' => (LG w w' b0 #[.string z.name, .int .i64 z.tenant, .int .i64 z.cpu, .int .i64 z.mem, .int .i64 z.zone, .int .i64 z.apart, .string z.node, .int .i64 z.epoch] 41) ∧ CX w' b s ⟨.slice an s.nodes.length kn, .slice (some ⟨g, o, none⟩) s.vms.length kv, .slice ae s.tenants.length ke⟩ ∧ w'.ownsRow w.heap.size 9 1 (.slice ao k cp) k (sR ((s.vms.take k).map VMC.name))) u0.drew) := ⟨HZ.out.drew, HX1.out.below ⟨rfl, rfl, rfl, Nat.le_refl _, fun _ _ => rfl⟩, own_belowN HO1.out (⟨rfl, rfl, rfl, Nat.le_refl _, fun _ _ => rfl⟩ : Below u0.heap.size u0 u0.drew)⟩
        refine wp_region_held (S := fun w' => (LG w w' b0 #[.string z.name, .int .i64 z.tenant, .int .i64 z.cpu, .int .i64 z.mem, .int .i64 z.zone, .int .i64 z.apart, .string z.node, .int .i64 z.epoch] 41) ∧ CX w' b s ⟨.slice an s.nodes.length kn, .slice (some ⟨g, o, none⟩) s.vms.length kv, .slice ae s.tenants.length ke⟩ ∧ w'.ownsRow w.heap.size 9 1 (.slice ao k cp) k (sR ((s.vms.take k).map VMC.name))) (by kernel_rfl) ?_
        change wpAnyH _ _ _ _ _ _ _ _ (World.drew _)
        refine wpAnyH_take (i := 0) (v := .agg #[.string z.name, .int .i64 z.tenant, .int .i64 z.cpu, .int .i64 z.mem, .int .i64 z.zone, .int .i64 z.apart, .string z.node, .int .i64 z.epoch]) rfl (by kernel_rfl) (by kernel_rfl) (by kernel_rfl) (fun _ _ _ h => h) (Or.inl ⟨by kernel_rfl, fun w9 h9 => ?_⟩) HSB.out ?_
        · obtain ⟨hlg, hcx, _⟩ := h9; have z0 := hlg.cel 0 _ rfl; have z1 := hlg.cel 1 _ rfl; have z2 := hlg.cel 2 _ rfl; have z3 := hlg.cel 3 _ rfl; have z4 := hlg.cel 4 _ rfl; have z5 := hlg.cel 5 _ rfl; have z6 := hlg.cel 6 _ rfl; have z7 := hlg.cel 7 _ rfl; have x2 := hcx.cel 2 (.slice ae s.tenants.length ke) rfl; go_simp
        refine wpAnyH_take (i := 1) (v := .pointer (some ⟨b, 0, none⟩)) rfl (by kernel_rfl) (by kernel_rfl) (by kernel_rfl) (fun _ _ _ h => h) (Or.inl ⟨by kernel_rfl, fun w9 h9 => ?_⟩) HSB.out ?_
        · go_simp
        refine wpAnyH_take (i := 2) (v := .pointer (some ⟨b, 0, none⟩)) rfl (by kernel_rfl) (by kernel_rfl) (by kernel_rfl) (fun _ _ _ h => h) (Or.inl ⟨by kernel_rfl, fun w9 h9 => ?_⟩) HSB.out ?_
        · go_simp
        refine wpAnyH_take (i := 3) (v := .pointer (some ⟨b, 2, none⟩)) rfl (by kernel_rfl) (by kernel_rfl) (by kernel_rfl) (fun _ _ _ h => h) (Or.inl ⟨by kernel_rfl, fun w9 h9 => ?_⟩) HSB.out ?_
        · go_simp
        refine wpAnyH_take (i := 4) (v := .slice ae s.tenants.length ke) rfl (by kernel_rfl) (by kernel_rfl) (by kernel_rfl) (fun _ _ _ h => h) (Or.inl ⟨by kernel_rfl, fun w9 h9 => ?_⟩) HSB.out ?_
        · obtain ⟨hlg, hcx, _⟩ := h9; have z0 := hlg.cel 0 _ rfl; have z1 := hlg.cel 1 _ rfl; have z2 := hlg.cel 2 _ rfl; have z3 := hlg.cel 3 _ rfl; have z4 := hlg.cel 4 _ rfl; have z5 := hlg.cel 5 _ rfl; have z6 := hlg.cel 6 _ rfl; have z7 := hlg.cel 7 _ rfl; have x2 := hcx.cel 2 (.slice ae s.tenants.length ke) rfl; go_simp
        refine wpAnyH_take (i := 5) (v := .int .i64 (s.tenants.length : Nat)) rfl (by kernel_rfl) (by kernel_rfl) (by kernel_rfl) (fun _ _ _ h => h) (Or.inl ⟨by kernel_rfl, fun w9 h9 => ?_⟩) HSB.out ?_
        · go_simp
        refine held_one 6 (by kernel_rfl) rfl (by kernel_rfl) fun K hK => ?_
        go_simp
        go_wp2_with (go_at_call 34; refine Calls.mono (HCL.out _) ?_; rintro e u1 ⟨rfl, hb1⟩; have HS1 : Hid ((fun w' => (LG w w' b0 #[.string z.name, .int .i64 z.tenant, .int .i64 z.cpu, .int .i64 z.mem, .int .i64 z.zone, .int .i64 z.apart, .string z.node, .int .i64 z.epoch] 41) ∧ CX w' b s ⟨.slice an s.nodes.length kn, .slice (some ⟨g, o, none⟩) s.vms.length kv, .slice ae s.tenants.length ke⟩ ∧ w'.ownsRow w.heap.size 9 1 (.slice ao k cp) k (sR ((s.vms.take k).map VMC.name))) u1) := ⟨HSB.out.1.step hb1, HSB.out.2.1.below hb1, own_belowN HSB.out.2.2 hb1⟩; clear hb1)
        refine hK _ _ HS1.out ?_
        clear hK K
        refine wpAnyH_take (i := 7) (v := .bool true) rfl (by kernel_rfl) (by kernel_rfl) (by kernel_rfl) (fun _ _ _ h => h) (Or.inl ⟨by kernel_rfl, fun w9 h9 => ?_⟩) HS1.out ?_
        · go_simp
        refine wpAnyH_take (i := 8) (v := .bool true) rfl (by kernel_rfl) (by kernel_rfl) (by kernel_rfl) (fun _ _ _ h => h) (Or.inl ⟨by kernel_rfl, fun w9 h9 => ?_⟩) HS1.out ?_
        · go_simp
        refine wpAnyH_take (i := 9) (v := undef) rfl (by kernel_rfl) (by kernel_rfl) (by kernel_rfl) (fun _ _ _ h => h) (Or.inr ⟨by kernel_rfl, rfl⟩) HS1.out ?_
        refine wpAnyH_take (i := 10) (v := undef) rfl (by kernel_rfl) (by kernel_rfl) (by kernel_rfl) (fun _ _ _ h => h) (Or.inr ⟨by kernel_rfl, rfl⟩) HS1.out ?_
        refine wpAnyH_take (i := 11) (v := undef) rfl (by kernel_rfl) (by kernel_rfl) (by kernel_rfl) (fun _ _ _ h => h) (Or.inr ⟨by kernel_rfl, rfl⟩) HS1.out ?_
        refine wpAnyH_take (i := 12) (v := .bool true) rfl (by kernel_rfl) (by kernel_rfl) (by kernel_rfl) (fun _ _ _ h => h) (Or.inl ⟨by kernel_rfl, fun w9 h9 => ?_⟩) HS1.out ?_
        · go_simp
        refine wpAnyH_take (i := 13) (v := .bool true) rfl (by kernel_rfl) (by kernel_rfl) (by kernel_rfl) (fun _ _ _ h => h) (Or.inl ⟨by kernel_rfl, fun w9 h9 => ?_⟩) HS1.out ?_
        · go_simp
        refine wpAnyH_take (i := 14) (v := undef) rfl (by kernel_rfl) (by kernel_rfl) (by kernel_rfl) (fun _ _ _ h => h) (Or.inr ⟨by kernel_rfl, rfl⟩) HS1.out ?_
        refine wpAnyH_take (i := 15) (v := undef) rfl (by kernel_rfl) (by kernel_rfl) (by kernel_rfl) (fun _ _ _ h => h) (Or.inr ⟨by kernel_rfl, rfl⟩) HS1.out ?_
        refine wpAnyH_take (i := 16) (v := undef) rfl (by kernel_rfl) (by kernel_rfl) (by kernel_rfl) (fun _ _ _ h => h) (Or.inr ⟨by kernel_rfl, rfl⟩) HS1.out ?_
        refine wpAnyH_take (i := 17) (v := .bool true) rfl (by kernel_rfl) (by kernel_rfl) (by kernel_rfl) (fun _ _ _ h => h) (Or.inl ⟨by kernel_rfl, fun w9 h9 => ?_⟩) HS1.out ?_
        · go_simp
        refine wpAnyH_done (by kernel_rfl) ?_ _
        go_simp
        go_wp2
        go_ret
        exact ⟨ret_bool E3.out.symm, HS1.out.1.bel⟩
      · skip
        cases q1 : decide (z.epoch < 0)
        · skip
          cases q2 : decide (1099511627776 < z.epoch)
          · skip
            have E3 : Hid (allD (vmR s) (k + 1) = true) := (show allD (vmR s) (k + 1) = true by rw [HS.out, HALL.out, HEK.out]; have r1 := of_decide_eq_false q1; have r2 := of_decide_eq_false q2; simp [epB]; omega)
            clear HS HALL HEK HBAD
            have HSB : Hid ((fun w' => (LG w w' b0 #[.string z.name, .int .i64 z.tenant, .int .i64 z.cpu, .int .i64 z.mem, .int .i64 z.zone, .int .i64 z.apart, .string z.node, .int .i64 z.epoch] 41) ∧ CX w' b s ⟨.slice an s.nodes.length kn, .slice (some ⟨g, o, none⟩) s.vms.length kv, .slice ae s.tenants.length ke⟩ ∧ w'.ownsRow w.heap.size 9 1 (.slice ao k cp) k (sR ((s.vms.take k).map VMC.name))) u0.drew) := ⟨HZ.out.drew, HX1.out.below ⟨rfl, rfl, rfl, Nat.le_refl _, fun _ _ => rfl⟩, own_belowN HO1.out (⟨rfl, rfl, rfl, Nat.le_refl _, fun _ _ => rfl⟩ : Below u0.heap.size u0 u0.drew)⟩
            refine wp_region_held (S := fun w' => (LG w w' b0 #[.string z.name, .int .i64 z.tenant, .int .i64 z.cpu, .int .i64 z.mem, .int .i64 z.zone, .int .i64 z.apart, .string z.node, .int .i64 z.epoch] 41) ∧ CX w' b s ⟨.slice an s.nodes.length kn, .slice (some ⟨g, o, none⟩) s.vms.length kv, .slice ae s.tenants.length ke⟩ ∧ w'.ownsRow w.heap.size 9 1 (.slice ao k cp) k (sR ((s.vms.take k).map VMC.name))) (by kernel_rfl) ?_
            change wpAnyH _ _ _ _ _ _ _ _ (World.drew _)
            refine wpAnyH_take (i := 0) (v := .agg #[.string z.name, .int .i64 z.tenant, .int .i64 z.cpu, .int .i64 z.mem, .int .i64 z.zone, .int .i64 z.apart, .string z.node, .int .i64 z.epoch]) rfl (by kernel_rfl) (by kernel_rfl) (by kernel_rfl) (fun _ _ _ h => h) (Or.inl ⟨by kernel_rfl, fun w9 h9 => ?_⟩) HSB.out ?_
            · obtain ⟨hlg, hcx, _⟩ := h9; have z0 := hlg.cel 0 _ rfl; have z1 := hlg.cel 1 _ rfl; have z2 := hlg.cel 2 _ rfl; have z3 := hlg.cel 3 _ rfl; have z4 := hlg.cel 4 _ rfl; have z5 := hlg.cel 5 _ rfl; have z6 := hlg.cel 6 _ rfl; have z7 := hlg.cel 7 _ rfl; have x2 := hcx.cel 2 (.slice ae s.tenants.length ke) rfl; go_simp
            refine wpAnyH_take (i := 1) (v := .pointer (some ⟨b, 0, none⟩)) rfl (by kernel_rfl) (by kernel_rfl) (by kernel_rfl) (fun _ _ _ h => h) (Or.inl ⟨by kernel_rfl, fun w9 h9 => ?_⟩) HSB.out ?_
            · go_simp
            refine wpAnyH_take (i := 2) (v := .pointer (some ⟨b, 0, none⟩)) rfl (by kernel_rfl) (by kernel_rfl) (by kernel_rfl) (fun _ _ _ h => h) (Or.inl ⟨by kernel_rfl, fun w9 h9 => ?_⟩) HSB.out ?_
            · go_simp
            refine wpAnyH_take (i := 3) (v := .pointer (some ⟨b, 2, none⟩)) rfl (by kernel_rfl) (by kernel_rfl) (by kernel_rfl) (fun _ _ _ h => h) (Or.inl ⟨by kernel_rfl, fun w9 h9 => ?_⟩) HSB.out ?_
            · go_simp
            refine wpAnyH_take (i := 4) (v := .slice ae s.tenants.length ke) rfl (by kernel_rfl) (by kernel_rfl) (by kernel_rfl) (fun _ _ _ h => h) (Or.inl ⟨by kernel_rfl, fun w9 h9 => ?_⟩) HSB.out ?_
            · obtain ⟨hlg, hcx, _⟩ := h9; have z0 := hlg.cel 0 _ rfl; have z1 := hlg.cel 1 _ rfl; have z2 := hlg.cel 2 _ rfl; have z3 := hlg.cel 3 _ rfl; have z4 := hlg.cel 4 _ rfl; have z5 := hlg.cel 5 _ rfl; have z6 := hlg.cel 6 _ rfl; have z7 := hlg.cel 7 _ rfl; have x2 := hcx.cel 2 (.slice ae s.tenants.length ke) rfl; go_simp
            refine wpAnyH_take (i := 5) (v := .int .i64 (s.tenants.length : Nat)) rfl (by kernel_rfl) (by kernel_rfl) (by kernel_rfl) (fun _ _ _ h => h) (Or.inl ⟨by kernel_rfl, fun w9 h9 => ?_⟩) HSB.out ?_
            · go_simp
            refine held_one 6 (by kernel_rfl) rfl (by kernel_rfl) fun K hK => ?_
            go_simp
            go_wp2_with (go_at_call 34; refine Calls.mono (HCL.out _) ?_; rintro e u1 ⟨rfl, hb1⟩; have HS1 : Hid ((fun w' => (LG w w' b0 #[.string z.name, .int .i64 z.tenant, .int .i64 z.cpu, .int .i64 z.mem, .int .i64 z.zone, .int .i64 z.apart, .string z.node, .int .i64 z.epoch] 41) ∧ CX w' b s ⟨.slice an s.nodes.length kn, .slice (some ⟨g, o, none⟩) s.vms.length kv, .slice ae s.tenants.length ke⟩ ∧ w'.ownsRow w.heap.size 9 1 (.slice ao k cp) k (sR ((s.vms.take k).map VMC.name))) u1) := ⟨HSB.out.1.step hb1, HSB.out.2.1.below hb1, own_belowN HSB.out.2.2 hb1⟩; clear hb1)
            refine hK _ _ HS1.out ?_
            clear hK K
            refine wpAnyH_take (i := 7) (v := .bool false) rfl (by kernel_rfl) (by kernel_rfl) (by kernel_rfl) (fun _ _ _ h => h) (Or.inl ⟨by kernel_rfl, fun w9 h9 => ?_⟩) HS1.out ?_
            · go_simp
            refine wpAnyH_take (i := 8) (v := .bool false) rfl (by kernel_rfl) (by kernel_rfl) (by kernel_rfl) (fun _ _ _ h => h) (Or.inl ⟨by kernel_rfl, fun w9 h9 => ?_⟩) HS1.out ?_
            · go_simp
            refine wpAnyH_take (i := 9) (v := .pointer (some ⟨b0, 7, none⟩)) rfl (by kernel_rfl) (by kernel_rfl) (by kernel_rfl) (fun _ _ _ h => h) (Or.inl ⟨by kernel_rfl, fun w9 h9 => ?_⟩) HS1.out ?_
            · go_simp
            refine wpAnyH_take (i := 10) (v := .int .i64 z.epoch) rfl (by kernel_rfl) (by kernel_rfl) (by kernel_rfl) (fun _ _ _ h => h) (Or.inl ⟨by kernel_rfl, fun w9 h9 => ?_⟩) HS1.out ?_
            · obtain ⟨hlg, hcx, _⟩ := h9; have z0 := hlg.cel 0 _ rfl; have z1 := hlg.cel 1 _ rfl; have z2 := hlg.cel 2 _ rfl; have z3 := hlg.cel 3 _ rfl; have z4 := hlg.cel 4 _ rfl; have z5 := hlg.cel 5 _ rfl; have z6 := hlg.cel 6 _ rfl; have z7 := hlg.cel 7 _ rfl; have x2 := hcx.cel 2 (.slice ae s.tenants.length ke) rfl; go_simp
            refine wpAnyH_take (i := 11) (v := .bool false) rfl (by kernel_rfl) (by kernel_rfl) (by kernel_rfl) (fun _ _ _ h => h) (Or.inl ⟨by kernel_rfl, fun w9 h9 => ?_⟩) HS1.out ?_
            · go_simp; all_goals omega
            refine wpAnyH_take (i := 12) (v := .bool false) rfl (by kernel_rfl) (by kernel_rfl) (by kernel_rfl) (fun _ _ _ h => h) (Or.inl ⟨by kernel_rfl, fun w9 h9 => ?_⟩) HS1.out ?_
            · go_simp
            refine wpAnyH_take (i := 13) (v := .bool false) rfl (by kernel_rfl) (by kernel_rfl) (by kernel_rfl) (fun _ _ _ h => h) (Or.inl ⟨by kernel_rfl, fun w9 h9 => ?_⟩) HS1.out ?_
            · go_simp
            refine wpAnyH_take (i := 14) (v := .pointer (some ⟨b0, 7, none⟩)) rfl (by kernel_rfl) (by kernel_rfl) (by kernel_rfl) (fun _ _ _ h => h) (Or.inl ⟨by kernel_rfl, fun w9 h9 => ?_⟩) HS1.out ?_
            · go_simp
            refine wpAnyH_take (i := 15) (v := .int .i64 z.epoch) rfl (by kernel_rfl) (by kernel_rfl) (by kernel_rfl) (fun _ _ _ h => h) (Or.inl ⟨by kernel_rfl, fun w9 h9 => ?_⟩) HS1.out ?_
            · obtain ⟨hlg, hcx, _⟩ := h9; have z0 := hlg.cel 0 _ rfl; have z1 := hlg.cel 1 _ rfl; have z2 := hlg.cel 2 _ rfl; have z3 := hlg.cel 3 _ rfl; have z4 := hlg.cel 4 _ rfl; have z5 := hlg.cel 5 _ rfl; have z6 := hlg.cel 6 _ rfl; have z7 := hlg.cel 7 _ rfl; have x2 := hcx.cel 2 (.slice ae s.tenants.length ke) rfl; go_simp
            refine wpAnyH_take (i := 16) (v := .bool false) rfl (by kernel_rfl) (by kernel_rfl) (by kernel_rfl) (fun _ _ _ h => h) (Or.inl ⟨by kernel_rfl, fun w9 h9 => ?_⟩) HS1.out ?_
            · go_simp; all_goals omega
            refine wpAnyH_take (i := 17) (v := .bool false) rfl (by kernel_rfl) (by kernel_rfl) (by kernel_rfl) (fun _ _ _ h => h) (Or.inl ⟨by kernel_rfl, fun w9 h9 => ?_⟩) HS1.out ?_
            · go_simp
            refine wpAnyH_done (by kernel_rfl) ?_ _
            go_simp
            have HZ2 : Hid (LG w u1 b0 #[.string z.name, .int .i64 z.tenant, .int .i64 z.cpu, .int .i64 z.mem, .int .i64 z.zone, .int .i64 z.apart, .string z.node, .int .i64 z.epoch] 41) := HS1.out.1
            have HO2 : Hid (u1.ownsRow w.heap.size 9 1 (.slice ao k cp) k (sR ((s.vms.take k).map VMC.name))) := HS1.out.2.2
            clear HSB HS1 HX1 HO1 HZ HCL
            have z0 := HZ2.out.cel 0 _ rfl
            have zl := HZ2.out.lt
            have HAP : Hid _ := app1S HO2.out z.name (by omega) HZ2.out.bel.size
            go_wp2_with (at_builtin; (refine wl_append_ex rfl _ _ 111 rfl _ _ rfl rfl HAP.out ?_; rintro v' u6 ⟨ho, hg9⟩; obtain ⟨a9, c9, rfl⟩ := s_slS ho; have HO6 : Hid (u6.ownsRow w.heap.size 9 1 (.slice a9 (k + 1) c9) (k + 1) (sR ((s.vms.take ((k + 1))).map VMC.name))) := (by rw [HTK.out]; exact ho); have HB6 : Hid (Below w.heap.size w u6) := (HZ2.out.bel.alloc HZ2.out.bel.size _).grown hg9 (Nat.le_trans HZ2.out.bel.size (by simp)) (own_ge HO2.out); clear ho hg9))
            exact ⟨⟨k + 1, a9, c9, hlt, rfl, by go_num, E3.out, HO6.out, HB6.out⟩, by simp [intOf]; omega⟩
          · skip
            have E3 : Hid (V = false) := HBAD.out (HEK.out.trans (by have r1 := of_decide_eq_false q1; have r2 := of_decide_eq_true q2; simp [epB]; try omega))
            clear HS HALL HEK HBAD
            have HSB : Hid ((fun w' => (LG w w' b0 #[.string z.name, .int .i64 z.tenant, .int .i64 z.cpu, .int .i64 z.mem, .int .i64 z.zone, .int .i64 z.apart, .string z.node, .int .i64 z.epoch] 41) ∧ CX w' b s ⟨.slice an s.nodes.length kn, .slice (some ⟨g, o, none⟩) s.vms.length kv, .slice ae s.tenants.length ke⟩ ∧ w'.ownsRow w.heap.size 9 1 (.slice ao k cp) k (sR ((s.vms.take k).map VMC.name))) u0.drew) := ⟨HZ.out.drew, HX1.out.below ⟨rfl, rfl, rfl, Nat.le_refl _, fun _ _ => rfl⟩, own_belowN HO1.out (⟨rfl, rfl, rfl, Nat.le_refl _, fun _ _ => rfl⟩ : Below u0.heap.size u0 u0.drew)⟩
            refine wp_region_held (S := fun w' => (LG w w' b0 #[.string z.name, .int .i64 z.tenant, .int .i64 z.cpu, .int .i64 z.mem, .int .i64 z.zone, .int .i64 z.apart, .string z.node, .int .i64 z.epoch] 41) ∧ CX w' b s ⟨.slice an s.nodes.length kn, .slice (some ⟨g, o, none⟩) s.vms.length kv, .slice ae s.tenants.length ke⟩ ∧ w'.ownsRow w.heap.size 9 1 (.slice ao k cp) k (sR ((s.vms.take k).map VMC.name))) (by kernel_rfl) ?_
            change wpAnyH _ _ _ _ _ _ _ _ (World.drew _)
            refine wpAnyH_take (i := 0) (v := .agg #[.string z.name, .int .i64 z.tenant, .int .i64 z.cpu, .int .i64 z.mem, .int .i64 z.zone, .int .i64 z.apart, .string z.node, .int .i64 z.epoch]) rfl (by kernel_rfl) (by kernel_rfl) (by kernel_rfl) (fun _ _ _ h => h) (Or.inl ⟨by kernel_rfl, fun w9 h9 => ?_⟩) HSB.out ?_
            · obtain ⟨hlg, hcx, _⟩ := h9; have z0 := hlg.cel 0 _ rfl; have z1 := hlg.cel 1 _ rfl; have z2 := hlg.cel 2 _ rfl; have z3 := hlg.cel 3 _ rfl; have z4 := hlg.cel 4 _ rfl; have z5 := hlg.cel 5 _ rfl; have z6 := hlg.cel 6 _ rfl; have z7 := hlg.cel 7 _ rfl; have x2 := hcx.cel 2 (.slice ae s.tenants.length ke) rfl; go_simp
            refine wpAnyH_take (i := 1) (v := .pointer (some ⟨b, 0, none⟩)) rfl (by kernel_rfl) (by kernel_rfl) (by kernel_rfl) (fun _ _ _ h => h) (Or.inl ⟨by kernel_rfl, fun w9 h9 => ?_⟩) HSB.out ?_
            · go_simp
            refine wpAnyH_take (i := 2) (v := .pointer (some ⟨b, 0, none⟩)) rfl (by kernel_rfl) (by kernel_rfl) (by kernel_rfl) (fun _ _ _ h => h) (Or.inl ⟨by kernel_rfl, fun w9 h9 => ?_⟩) HSB.out ?_
            · go_simp
            refine wpAnyH_take (i := 3) (v := .pointer (some ⟨b, 2, none⟩)) rfl (by kernel_rfl) (by kernel_rfl) (by kernel_rfl) (fun _ _ _ h => h) (Or.inl ⟨by kernel_rfl, fun w9 h9 => ?_⟩) HSB.out ?_
            · go_simp
            refine wpAnyH_take (i := 4) (v := .slice ae s.tenants.length ke) rfl (by kernel_rfl) (by kernel_rfl) (by kernel_rfl) (fun _ _ _ h => h) (Or.inl ⟨by kernel_rfl, fun w9 h9 => ?_⟩) HSB.out ?_
            · obtain ⟨hlg, hcx, _⟩ := h9; have z0 := hlg.cel 0 _ rfl; have z1 := hlg.cel 1 _ rfl; have z2 := hlg.cel 2 _ rfl; have z3 := hlg.cel 3 _ rfl; have z4 := hlg.cel 4 _ rfl; have z5 := hlg.cel 5 _ rfl; have z6 := hlg.cel 6 _ rfl; have z7 := hlg.cel 7 _ rfl; have x2 := hcx.cel 2 (.slice ae s.tenants.length ke) rfl; go_simp
            refine wpAnyH_take (i := 5) (v := .int .i64 (s.tenants.length : Nat)) rfl (by kernel_rfl) (by kernel_rfl) (by kernel_rfl) (fun _ _ _ h => h) (Or.inl ⟨by kernel_rfl, fun w9 h9 => ?_⟩) HSB.out ?_
            · go_simp
            refine held_one 6 (by kernel_rfl) rfl (by kernel_rfl) fun K hK => ?_
            go_simp
            go_wp2_with (go_at_call 34; refine Calls.mono (HCL.out _) ?_; rintro e u1 ⟨rfl, hb1⟩; have HS1 : Hid ((fun w' => (LG w w' b0 #[.string z.name, .int .i64 z.tenant, .int .i64 z.cpu, .int .i64 z.mem, .int .i64 z.zone, .int .i64 z.apart, .string z.node, .int .i64 z.epoch] 41) ∧ CX w' b s ⟨.slice an s.nodes.length kn, .slice (some ⟨g, o, none⟩) s.vms.length kv, .slice ae s.tenants.length ke⟩ ∧ w'.ownsRow w.heap.size 9 1 (.slice ao k cp) k (sR ((s.vms.take k).map VMC.name))) u1) := ⟨HSB.out.1.step hb1, HSB.out.2.1.below hb1, own_belowN HSB.out.2.2 hb1⟩; clear hb1)
            refine hK _ _ HS1.out ?_
            clear hK K
            refine wpAnyH_take (i := 7) (v := .bool false) rfl (by kernel_rfl) (by kernel_rfl) (by kernel_rfl) (fun _ _ _ h => h) (Or.inl ⟨by kernel_rfl, fun w9 h9 => ?_⟩) HS1.out ?_
            · go_simp
            refine wpAnyH_take (i := 8) (v := .bool false) rfl (by kernel_rfl) (by kernel_rfl) (by kernel_rfl) (fun _ _ _ h => h) (Or.inl ⟨by kernel_rfl, fun w9 h9 => ?_⟩) HS1.out ?_
            · go_simp
            refine wpAnyH_take (i := 9) (v := .pointer (some ⟨b0, 7, none⟩)) rfl (by kernel_rfl) (by kernel_rfl) (by kernel_rfl) (fun _ _ _ h => h) (Or.inl ⟨by kernel_rfl, fun w9 h9 => ?_⟩) HS1.out ?_
            · go_simp
            refine wpAnyH_take (i := 10) (v := .int .i64 z.epoch) rfl (by kernel_rfl) (by kernel_rfl) (by kernel_rfl) (fun _ _ _ h => h) (Or.inl ⟨by kernel_rfl, fun w9 h9 => ?_⟩) HS1.out ?_
            · obtain ⟨hlg, hcx, _⟩ := h9; have z0 := hlg.cel 0 _ rfl; have z1 := hlg.cel 1 _ rfl; have z2 := hlg.cel 2 _ rfl; have z3 := hlg.cel 3 _ rfl; have z4 := hlg.cel 4 _ rfl; have z5 := hlg.cel 5 _ rfl; have z6 := hlg.cel 6 _ rfl; have z7 := hlg.cel 7 _ rfl; have x2 := hcx.cel 2 (.slice ae s.tenants.length ke) rfl; go_simp
            refine wpAnyH_take (i := 11) (v := .bool false) rfl (by kernel_rfl) (by kernel_rfl) (by kernel_rfl) (fun _ _ _ h => h) (Or.inl ⟨by kernel_rfl, fun w9 h9 => ?_⟩) HS1.out ?_
            · go_simp; all_goals omega
            refine wpAnyH_take (i := 12) (v := .bool false) rfl (by kernel_rfl) (by kernel_rfl) (by kernel_rfl) (fun _ _ _ h => h) (Or.inl ⟨by kernel_rfl, fun w9 h9 => ?_⟩) HS1.out ?_
            · go_simp
            refine wpAnyH_take (i := 13) (v := .bool false) rfl (by kernel_rfl) (by kernel_rfl) (by kernel_rfl) (fun _ _ _ h => h) (Or.inl ⟨by kernel_rfl, fun w9 h9 => ?_⟩) HS1.out ?_
            · go_simp
            refine wpAnyH_take (i := 14) (v := .pointer (some ⟨b0, 7, none⟩)) rfl (by kernel_rfl) (by kernel_rfl) (by kernel_rfl) (fun _ _ _ h => h) (Or.inl ⟨by kernel_rfl, fun w9 h9 => ?_⟩) HS1.out ?_
            · go_simp
            refine wpAnyH_take (i := 15) (v := .int .i64 z.epoch) rfl (by kernel_rfl) (by kernel_rfl) (by kernel_rfl) (fun _ _ _ h => h) (Or.inl ⟨by kernel_rfl, fun w9 h9 => ?_⟩) HS1.out ?_
            · obtain ⟨hlg, hcx, _⟩ := h9; have z0 := hlg.cel 0 _ rfl; have z1 := hlg.cel 1 _ rfl; have z2 := hlg.cel 2 _ rfl; have z3 := hlg.cel 3 _ rfl; have z4 := hlg.cel 4 _ rfl; have z5 := hlg.cel 5 _ rfl; have z6 := hlg.cel 6 _ rfl; have z7 := hlg.cel 7 _ rfl; have x2 := hcx.cel 2 (.slice ae s.tenants.length ke) rfl; go_simp
            refine wpAnyH_take (i := 16) (v := .bool true) rfl (by kernel_rfl) (by kernel_rfl) (by kernel_rfl) (fun _ _ _ h => h) (Or.inl ⟨by kernel_rfl, fun w9 h9 => ?_⟩) HS1.out ?_
            · go_simp; all_goals omega
            refine wpAnyH_take (i := 17) (v := .bool true) rfl (by kernel_rfl) (by kernel_rfl) (by kernel_rfl) (fun _ _ _ h => h) (Or.inl ⟨by kernel_rfl, fun w9 h9 => ?_⟩) HS1.out ?_
            · go_simp
            refine wpAnyH_done (by kernel_rfl) ?_ _
            go_simp
            go_wp2
            go_ret
            exact ⟨ret_bool E3.out.symm, HS1.out.1.bel⟩
        · skip
          have E3 : Hid (V = false) := HBAD.out (HEK.out.trans (by have r1 := of_decide_eq_true q1; simp [epB]; try omega))
          clear HS HALL HEK HBAD
          have HSB : Hid ((fun w' => (LG w w' b0 #[.string z.name, .int .i64 z.tenant, .int .i64 z.cpu, .int .i64 z.mem, .int .i64 z.zone, .int .i64 z.apart, .string z.node, .int .i64 z.epoch] 41) ∧ CX w' b s ⟨.slice an s.nodes.length kn, .slice (some ⟨g, o, none⟩) s.vms.length kv, .slice ae s.tenants.length ke⟩ ∧ w'.ownsRow w.heap.size 9 1 (.slice ao k cp) k (sR ((s.vms.take k).map VMC.name))) u0.drew) := ⟨HZ.out.drew, HX1.out.below ⟨rfl, rfl, rfl, Nat.le_refl _, fun _ _ => rfl⟩, own_belowN HO1.out (⟨rfl, rfl, rfl, Nat.le_refl _, fun _ _ => rfl⟩ : Below u0.heap.size u0 u0.drew)⟩
          refine wp_region_held (S := fun w' => (LG w w' b0 #[.string z.name, .int .i64 z.tenant, .int .i64 z.cpu, .int .i64 z.mem, .int .i64 z.zone, .int .i64 z.apart, .string z.node, .int .i64 z.epoch] 41) ∧ CX w' b s ⟨.slice an s.nodes.length kn, .slice (some ⟨g, o, none⟩) s.vms.length kv, .slice ae s.tenants.length ke⟩ ∧ w'.ownsRow w.heap.size 9 1 (.slice ao k cp) k (sR ((s.vms.take k).map VMC.name))) (by kernel_rfl) ?_
          change wpAnyH _ _ _ _ _ _ _ _ (World.drew _)
          refine wpAnyH_take (i := 0) (v := .agg #[.string z.name, .int .i64 z.tenant, .int .i64 z.cpu, .int .i64 z.mem, .int .i64 z.zone, .int .i64 z.apart, .string z.node, .int .i64 z.epoch]) rfl (by kernel_rfl) (by kernel_rfl) (by kernel_rfl) (fun _ _ _ h => h) (Or.inl ⟨by kernel_rfl, fun w9 h9 => ?_⟩) HSB.out ?_
          · obtain ⟨hlg, hcx, _⟩ := h9; have z0 := hlg.cel 0 _ rfl; have z1 := hlg.cel 1 _ rfl; have z2 := hlg.cel 2 _ rfl; have z3 := hlg.cel 3 _ rfl; have z4 := hlg.cel 4 _ rfl; have z5 := hlg.cel 5 _ rfl; have z6 := hlg.cel 6 _ rfl; have z7 := hlg.cel 7 _ rfl; have x2 := hcx.cel 2 (.slice ae s.tenants.length ke) rfl; go_simp
          refine wpAnyH_take (i := 1) (v := .pointer (some ⟨b, 0, none⟩)) rfl (by kernel_rfl) (by kernel_rfl) (by kernel_rfl) (fun _ _ _ h => h) (Or.inl ⟨by kernel_rfl, fun w9 h9 => ?_⟩) HSB.out ?_
          · go_simp
          refine wpAnyH_take (i := 2) (v := .pointer (some ⟨b, 0, none⟩)) rfl (by kernel_rfl) (by kernel_rfl) (by kernel_rfl) (fun _ _ _ h => h) (Or.inl ⟨by kernel_rfl, fun w9 h9 => ?_⟩) HSB.out ?_
          · go_simp
          refine wpAnyH_take (i := 3) (v := .pointer (some ⟨b, 2, none⟩)) rfl (by kernel_rfl) (by kernel_rfl) (by kernel_rfl) (fun _ _ _ h => h) (Or.inl ⟨by kernel_rfl, fun w9 h9 => ?_⟩) HSB.out ?_
          · go_simp
          refine wpAnyH_take (i := 4) (v := .slice ae s.tenants.length ke) rfl (by kernel_rfl) (by kernel_rfl) (by kernel_rfl) (fun _ _ _ h => h) (Or.inl ⟨by kernel_rfl, fun w9 h9 => ?_⟩) HSB.out ?_
          · obtain ⟨hlg, hcx, _⟩ := h9; have z0 := hlg.cel 0 _ rfl; have z1 := hlg.cel 1 _ rfl; have z2 := hlg.cel 2 _ rfl; have z3 := hlg.cel 3 _ rfl; have z4 := hlg.cel 4 _ rfl; have z5 := hlg.cel 5 _ rfl; have z6 := hlg.cel 6 _ rfl; have z7 := hlg.cel 7 _ rfl; have x2 := hcx.cel 2 (.slice ae s.tenants.length ke) rfl; go_simp
          refine wpAnyH_take (i := 5) (v := .int .i64 (s.tenants.length : Nat)) rfl (by kernel_rfl) (by kernel_rfl) (by kernel_rfl) (fun _ _ _ h => h) (Or.inl ⟨by kernel_rfl, fun w9 h9 => ?_⟩) HSB.out ?_
          · go_simp
          refine held_one 6 (by kernel_rfl) rfl (by kernel_rfl) fun K hK => ?_
          go_simp
          go_wp2_with (go_at_call 34; refine Calls.mono (HCL.out _) ?_; rintro e u1 ⟨rfl, hb1⟩; have HS1 : Hid ((fun w' => (LG w w' b0 #[.string z.name, .int .i64 z.tenant, .int .i64 z.cpu, .int .i64 z.mem, .int .i64 z.zone, .int .i64 z.apart, .string z.node, .int .i64 z.epoch] 41) ∧ CX w' b s ⟨.slice an s.nodes.length kn, .slice (some ⟨g, o, none⟩) s.vms.length kv, .slice ae s.tenants.length ke⟩ ∧ w'.ownsRow w.heap.size 9 1 (.slice ao k cp) k (sR ((s.vms.take k).map VMC.name))) u1) := ⟨HSB.out.1.step hb1, HSB.out.2.1.below hb1, own_belowN HSB.out.2.2 hb1⟩; clear hb1)
          refine hK _ _ HS1.out ?_
          clear hK K
          refine wpAnyH_take (i := 7) (v := .bool false) rfl (by kernel_rfl) (by kernel_rfl) (by kernel_rfl) (fun _ _ _ h => h) (Or.inl ⟨by kernel_rfl, fun w9 h9 => ?_⟩) HS1.out ?_
          · go_simp
          refine wpAnyH_take (i := 8) (v := .bool false) rfl (by kernel_rfl) (by kernel_rfl) (by kernel_rfl) (fun _ _ _ h => h) (Or.inl ⟨by kernel_rfl, fun w9 h9 => ?_⟩) HS1.out ?_
          · go_simp
          refine wpAnyH_take (i := 9) (v := .pointer (some ⟨b0, 7, none⟩)) rfl (by kernel_rfl) (by kernel_rfl) (by kernel_rfl) (fun _ _ _ h => h) (Or.inl ⟨by kernel_rfl, fun w9 h9 => ?_⟩) HS1.out ?_
          · go_simp
          refine wpAnyH_take (i := 10) (v := .int .i64 z.epoch) rfl (by kernel_rfl) (by kernel_rfl) (by kernel_rfl) (fun _ _ _ h => h) (Or.inl ⟨by kernel_rfl, fun w9 h9 => ?_⟩) HS1.out ?_
          · obtain ⟨hlg, hcx, _⟩ := h9; have z0 := hlg.cel 0 _ rfl; have z1 := hlg.cel 1 _ rfl; have z2 := hlg.cel 2 _ rfl; have z3 := hlg.cel 3 _ rfl; have z4 := hlg.cel 4 _ rfl; have z5 := hlg.cel 5 _ rfl; have z6 := hlg.cel 6 _ rfl; have z7 := hlg.cel 7 _ rfl; have x2 := hcx.cel 2 (.slice ae s.tenants.length ke) rfl; go_simp
          refine wpAnyH_take (i := 11) (v := .bool true) rfl (by kernel_rfl) (by kernel_rfl) (by kernel_rfl) (fun _ _ _ h => h) (Or.inl ⟨by kernel_rfl, fun w9 h9 => ?_⟩) HS1.out ?_
          · go_simp; all_goals omega
          refine wpAnyH_take (i := 12) (v := .bool true) rfl (by kernel_rfl) (by kernel_rfl) (by kernel_rfl) (fun _ _ _ h => h) (Or.inl ⟨by kernel_rfl, fun w9 h9 => ?_⟩) HS1.out ?_
          · go_simp
          refine wpAnyH_take (i := 13) (v := .bool true) rfl (by kernel_rfl) (by kernel_rfl) (by kernel_rfl) (fun _ _ _ h => h) (Or.inl ⟨by kernel_rfl, fun w9 h9 => ?_⟩) HS1.out ?_
          · go_simp
          refine wpAnyH_take (i := 14) (v := undef) rfl (by kernel_rfl) (by kernel_rfl) (by kernel_rfl) (fun _ _ _ h => h) (Or.inr ⟨by kernel_rfl, rfl⟩) HS1.out ?_
          refine wpAnyH_take (i := 15) (v := undef) rfl (by kernel_rfl) (by kernel_rfl) (by kernel_rfl) (fun _ _ _ h => h) (Or.inr ⟨by kernel_rfl, rfl⟩) HS1.out ?_
          refine wpAnyH_take (i := 16) (v := undef) rfl (by kernel_rfl) (by kernel_rfl) (by kernel_rfl) (fun _ _ _ h => h) (Or.inr ⟨by kernel_rfl, rfl⟩) HS1.out ?_
          refine wpAnyH_take (i := 17) (v := .bool true) rfl (by kernel_rfl) (by kernel_rfl) (by kernel_rfl) (fun _ _ _ h => h) (Or.inl ⟨by kernel_rfl, fun w9 h9 => ?_⟩) HS1.out ?_
          · go_simp
          refine wpAnyH_done (by kernel_rfl) ?_ _
          go_simp
          go_wp2
          go_ret
          exact ⟨ret_bool E3.out.symm, HS1.out.1.bel⟩
    · obtain rfl : k = s.vms.length := by omega
      have E2 : Hid (V = RS) := (show V = RS by rw [E.out, HALL.out, Bool.true_and])
      have HSR : Hid (Srow wr (.slice ao s.vms.length cp) (s.vms.map VMC.name)) := by
        have h9 := HO.out
        rw [List.take_length] at h9
        have h8 : (s.vms.map VMC.name).length = s.vms.length := by simp
        have h7 := Srow.of (zs := s.vms.map VMC.name) (v := .slice ao s.vms.length cp) (B := w.heap.size) (w := wr) (by rw [h8]; exact h9)
        exact h7
      clear E HALL HO HXR
      go_wp2_with (go_at_call 70; refine Calls.mono (HAR.out _ _ HSR.out) ?_; rintro e u1 ⟨rfl, hu⟩; have HB1 : Hid (Below w.heap.size w u1) := HB.out.trans (hu.mono HB.out.size); clear hu)
      go_ret
      exact ⟨ret_bool E2.out.symm, HB1.out⟩
end Go.Proofs.Ytkmbhhkgfofcoaa
