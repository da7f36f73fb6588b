import Derived.Test.YtkmbhhkgfofcoaaCm2
import Derived.Test.YtkmbhhkgfofcoaaCr6
namespace Go.Proofs.Ytkmbhhkgfofcoaa
open Go.ChangeShapes Go.WideShapes Go.ChangeAt Go.RowKit

set_option maxRecDepth 100000 in
set_option maxHeartbeats 4000000 in
theorem isRight_any {w : World} {b : Nat} {s : CL} {a : CA} (h : CX w b s a) (hl : CLlen s) : Calls Try.prog 28 #[.pointer (some ⟨b, 0, none⟩)] w fun e w' => e = .returned (.bool (irB s)) ∧ Below w.heap.size w w' := by
  have HX : Hid (CX w b s a) := h
  have l0 : s.nodes.length ≤ 1048576 := hl.lnodes.1
  have l1 : s.vms.length ≤ 1048576 := hl.lvms.1
  have l2 : s.tenants.length ≤ 1048576 := hl.ltenants
  obtain ⟨an, kn, av, kv, ae, ke, e⟩ := h.rows.sl
  subst e
  clear h
  have HE : Hid (irB s = (bdB s && nrB s && vrB s && allD (tkB s) s.tenants.length && !(s.vms.any fun v => !msB s (cnL s) v))) := rfl
  have H1 : Hid (∀ u, Below w.heap.size w u → Calls Try.prog 43 #[.pointer (some ⟨b, 0, none⟩)] u fun e w' => e = .returned (.bool (bdB s)) ∧ Below u.heap.size u w') := fun u hu => Calls.mono (isBounded_any (HX.out.below hu) hl) (fun e w' hh => ⟨hh.1, by rw [hh.2]; exact Below.refl _ _⟩)
  have H2 : Hid (∀ u, Below w.heap.size w u → Calls Try.prog 44 #[.pointer (some ⟨b, 0, none⟩)] u fun e w' => e = .returned (.bool (nrB s)) ∧ Below u.heap.size u w') := fun u hu => nodesR_any (HX.out.below hu) l0
  have H3 : Hid (∀ u, Below w.heap.size w u → Calls Try.prog 45 #[.pointer (some ⟨b, 0, none⟩)] u fun e w' => e = .returned (.bool (vrB s)) ∧ Below u.heap.size u w') := fun u hu => vmsR_any (HX.out.below hu) l1 l2
  have H4 : Hid (∀ u, Below w.heap.size w u → Calls Try.prog 46 #[.pointer (some ⟨b, 0, none⟩)] u fun e w' => e = .returned (.bool (allD (tkB s) s.tenants.length)) ∧ Below u.heap.size u w') := fun u hu => tenantsR_any (HX.out.below hu) l1 l2
  have H5 : Hid (∀ u, Below w.heap.size w u → Calls Try.prog 35 #[.agg #[.slice an s.nodes.length kn, .slice av s.vms.length kv, .slice ae s.tenants.length ke, .int .i64 s.over, .int .i64 s.time]] u fun e w' => ∃ (r : Nat) (a2 : CA) (cb : Nat), e = .returned (.pointer (some ⟨r, 0, none⟩)) ∧ RX w' r s a2 cb (cnL s) ∧ Below u.heap.size u w') := (fun u hu => by have h9 := newRunner_any (HX.out.below hu).rows hl; unfold clA clC at h9; simp only at h9; exact h9)
  have H6 : Hid (∀ u p r a2 cb, RX u r s a2 cb (cnL s) → LG w u p #[.pointer (some ⟨r, 0, none⟩)] 66 → Calls Try.prog 47 #[a2.vvms, .func (.func 48) #[] #[.pointer (some ⟨p, 0, none⟩)]] u fun e w' => e = .returned (.bool (s.vms.any fun v => !msB s (cnL s) v)) ∧ Below u.heap.size u w') :=
    fun u p r a2 cb hr hp => containsVMC_any hr.cx.rows.rvms l1 _ _ (fun v => !msB s (cnL s) v) (fun xs w' => by kernel_rfl) (fun x w' hw => isRightF_any (w := w) (hr.below hw) l0 l1 x (hp.step hw))
  have k0 := HX.out.cel 0 (.slice an s.nodes.length kn) rfl
  have k1 := HX.out.cel 1 (.slice av s.vms.length kv) rfl
  have k2 := HX.out.cel 2 (.slice ae s.tenants.length ke) rfl
  have k3 := HX.out.cel 3 (.int .i64 s.over) rfl
  have k4 := HX.out.cel 4 (.int .i64 s.time) rfl
  have kl := HX.out.lt
  have HC : Hid (∀ u, Below w.heap.size w u → u.cell? ⟨b, 0, none⟩ = some (.slice an s.nodes.length kn) ∧ u.cell? ⟨b, 1, none⟩ = some (.slice av s.vms.length kv) ∧ u.cell? ⟨b, 2, none⟩ = some (.slice ae s.tenants.length ke) ∧ u.cell? ⟨b, 3, none⟩ = some (.int .i64 s.over) ∧ u.cell? ⟨b, 4, none⟩ = some (.int .i64 s.time) ∧ b < u.heap.size) := fun u hu => ⟨(HX.out.below hu).cel 0 _ rfl, (HX.out.below hu).cel 1 _ rfl, (HX.out.below hu).cel 2 _ rfl, (HX.out.below hu).cel 3 _ rfl, (HX.out.below hu).cel 4 _ rfl, (HX.out.below hu).lt⟩
  have HB0 : Hid (Below w.heap.size w w) := Below.refl _ _
  clear HX
  generalize irB s = V at *
  generalize bdB s = R1 at *
  generalize nrB s = R2 at *
  generalize vrB s = R3 at *
  generalize allD (tkB s) s.tenants.length = R4 at *
  generalize (s.vms.any fun v => !msB s (cnL s) v) = R5 at *
  cases R1
  · have E2 : Hid (V = false) := (show V = false by rw [HE.out]; simp)
    clear HE HC H5 H6
    go_enter Try.func28, Try.ntmps28
    go_wp2_with (go_at_call 43; refine Calls.mono (H1.out _ HB0.out) ?_; rintro e w1 ⟨rfl, hb⟩; have HB1 : Hid (Below w.heap.size w w1) := HB0.out.trans (hb.mono HB0.out.size); clear hb H1)
    go_ret
    exact ⟨ret_bool E2.out.symm, HB1.out⟩
  cases R2
  · have E2 : Hid (V = false) := (show V = false by rw [HE.out]; simp)
    clear HE HC H5 H6
    go_enter Try.func28, Try.ntmps28
    go_wp2_with (first | (go_at_call 43; refine Calls.mono (H1.out _ HB0.out) ?_; rintro e w1 ⟨rfl, hb⟩; have HB1 : Hid (Below w.heap.size w w1) := HB0.out.trans (hb.mono HB0.out.size); clear hb H1) | (go_at_call 44; refine Calls.mono (H2.out _ HB1.out) ?_; rintro e w2 ⟨rfl, hb⟩; have HB2 : Hid (Below w.heap.size w w2) := HB1.out.trans (hb.mono HB1.out.size); clear hb H2))
    go_ret
    exact ⟨ret_bool E2.out.symm, HB2.out⟩
  cases R3
  · have E2 : Hid (V = false) := (show V = false by rw [HE.out]; simp)
    clear HE HC H5 H6
    go_enter Try.func28, Try.ntmps28
    go_wp2_with (first | (go_at_call 43; refine Calls.mono (H1.out _ HB0.out) ?_; rintro e w1 ⟨rfl, hb⟩; have HB1 : Hid (Below w.heap.size w w1) := HB0.out.trans (hb.mono HB0.out.size); clear hb H1) | (go_at_call 44; refine Calls.mono (H2.out _ HB1.out) ?_; rintro e w2 ⟨rfl, hb⟩; have HB2 : Hid (Below w.heap.size w w2) := HB1.out.trans (hb.mono HB1.out.size); clear hb H2) | (go_at_call 45; refine Calls.mono (H3.out _ HB2.out) ?_; rintro e w3 ⟨rfl, hb⟩; have HB3 : Hid (Below w.heap.size w w3) := HB2.out.trans (hb.mono HB2.out.size); clear hb H3))
    go_ret
    exact ⟨ret_bool E2.out.symm, HB3.out⟩
  cases R4
  · have E2 : Hid (V = false) := (show V = false by rw [HE.out]; simp)
    clear HE HC H5 H6
    go_enter Try.func28, Try.ntmps28
    go_wp2_with (first | (go_at_call 43; refine Calls.mono (H1.out _ HB0.out) ?_; rintro e w1 ⟨rfl, hb⟩; have HB1 : Hid (Below w.heap.size w w1) := HB0.out.trans (hb.mono HB0.out.size); clear hb H1) | (go_at_call 44; refine Calls.mono (H2.out _ HB1.out) ?_; rintro e w2 ⟨rfl, hb⟩; have HB2 : Hid (Below w.heap.size w w2) := HB1.out.trans (hb.mono HB1.out.size); clear hb H2) | (go_at_call 45; refine Calls.mono (H3.out _ HB2.out) ?_; rintro e w3 ⟨rfl, hb⟩; have HB3 : Hid (Below w.heap.size w w3) := HB2.out.trans (hb.mono HB2.out.size); clear hb H3) | (go_at_call 46; refine Calls.mono (H4.out _ HB3.out) ?_; rintro e w4 ⟨rfl, hb⟩; have HB4 : Hid (Below w.heap.size w w4) := HB3.out.trans (hb.mono HB3.out.size); clear hb H4))
    go_ret
    exact ⟨ret_bool E2.out.symm, HB4.out⟩
  have E2 : Hid (V = !R5) := (show V = !R5 by rw [HE.out]; simp)
  clear HE
  go_enter Try.func28, Try.ntmps28
  go_upto_region 3 with (first | (go_at_call 43; refine Calls.mono (H1.out _ HB0.out) ?_; rintro e w1 ⟨rfl, hb⟩; have HB1 : Hid (Below w.heap.size w w1) := HB0.out.trans (hb.mono HB0.out.size); clear hb H1) | (go_at_call 44; refine Calls.mono (H2.out _ HB1.out) ?_; rintro e w2 ⟨rfl, hb⟩; have HB2 : Hid (Below w.heap.size w w2) := HB1.out.trans (hb.mono HB1.out.size); clear hb H2) | (go_at_call 45; refine Calls.mono (H3.out _ HB2.out) ?_; rintro e w3 ⟨rfl, hb⟩; have HB3 : Hid (Below w.heap.size w w3) := HB2.out.trans (hb.mono HB2.out.size); clear hb H3) | (go_at_call 46; refine Calls.mono (H4.out _ HB3.out) ?_; rintro e w4 ⟨rfl, hb⟩; have HB4 : Hid (Below w.heap.size w w4) := HB3.out.trans (hb.mono HB3.out.size); clear hb H4))
  obtain ⟨q0, q1, q2, q3, q4, ql⟩ := HC.out _ HB4.out
  clear k0 k1 k2 k3 k4 kl HC
  go_upto_region 4 with (go_at_call 35; refine Calls.mono (H5.out _ HB4.out) ?_; rintro e w5 ⟨r, a2, cb, rfl, hrx, hb⟩; have HR5 : Hid (RX w5 r s a2 cb (cnL s)) := hrx; have HB5 : Hid (Below w.heap.size w w5) := HB4.out.trans (hb.mono HB4.out.size); clear hb hrx H5)
  have HP : Hid (LG w (w5.alloc (.cells #[.pointer (some ⟨r, 0, none⟩)] 66)) w5.heap.size #[.pointer (some ⟨r, 0, none⟩)] 66) := LG.mk2 HB5.out
  have HR6 : Hid (RX (w5.alloc (.cells #[.pointer (some ⟨r, 0, none⟩)] 66)) r s a2 cb (cnL s)) := HR5.out.below (bx1 _ _)
  have HB6 : Hid (Below w.heap.size w (w5.alloc (.cells #[.pointer (some ⟨r, 0, none⟩)] 66))) := HP.out.bel
  have HI : Hid _ := H6.out _ _ _ _ _ HR6.out HP.out
  obtain ⟨an2, kn2, av2, kv2, ae2, ke2, e⟩ := HR6.out.sl
  have r1 := HR6.out.cx.cel 1 a2.vvms rfl
  have rl := HR6.out.cx.lt
  have p0 := HP.out.cel 0 _ rfl
  have pl := HP.out.lt
  subst e
  simp only at r1 HI
  clear HR5 HR6 HB5 H6 q0 q1 q2 q3 q4 ql HP
  generalize (w5.alloc (.cells #[.pointer (some ⟨r, 0, none⟩)] 66)) = w6 at *
  generalize w5.heap.size = bp at *
  go_wp2_with (go_at_call 47; refine Calls.mono HI.out ?_; rintro e w7 ⟨rfl, hb⟩; have HB7 : Hid (Below w.heap.size w w7) := HB6.out.trans (hb.mono HB6.out.size); clear hb)
  go_ret
  exact ⟨ret_bool E2.out.symm, HB7.out⟩
set_option maxRecDepth 100000 in
set_option maxHeartbeats 4000000 in
theorem implCF_any {w : World} {s : CL} {a : CA} (h : CLRows w s a) (hl : CLlen s) : Calls Try.prog 9 #[clA s a] w fun e w' => e = .returned (.int .i64 (cfV s)) ∧ Below w.heap.size w w' := by
  obtain ⟨an, kn, av, kv, ae, ke, e⟩ := h.sl
  subst e
  have HL0 : Hid (LG w (w.alloc (.cells #[.slice an s.nodes.length kn, .slice av s.vms.length kv, .slice ae s.tenants.length ke, .int .i64 s.over, .int .i64 s.time] 33)) w.heap.size #[.slice an s.nodes.length kn, .slice av s.vms.length kv, .slice ae s.tenants.length ke, .int .i64 s.over, .int .i64 s.time] 33) := LG.new w _ _
  have HI : Hid (Calls Try.prog 28 #[.pointer (some ⟨w.heap.size, 0, none⟩)] (w.alloc (.cells #[.slice an s.nodes.length kn, .slice av s.vms.length kv, .slice ae s.tenants.length ke, .int .i64 s.over, .int .i64 s.time] 33)) fun e w' => e = .returned (.bool (cfB s)) ∧ Below (w.alloc (.cells #[.slice an s.nodes.length kn, .slice av s.vms.length kv, .slice ae s.tenants.length ke, .int .i64 s.over, .int .i64 s.time] 33)).heap.size (w.alloc (.cells #[.slice an s.nodes.length kn, .slice av s.vms.length kv, .slice ae s.tenants.length ke, .int .i64 s.over, .int .i64 s.time] 33)) w') := by
    have h9 := isRight_any (w := w.alloc (.cells #[.slice an s.nodes.length kn, .slice av s.vms.length kv, .slice ae s.tenants.length ke, .int .i64 s.over, .int .i64 s.time] 33)) (b := w.heap.size) (s := s) (a := ⟨.slice an s.nodes.length kn, .slice av s.vms.length kv, .slice ae s.tenants.length ke⟩) ⟨HL0.out.lt, fun k v hk => HL0.out.cel k v hk, h.below HL0.out.bel⟩ hl
    rw [ir_eq] at h9
    exact h9
  have HE : Hid (cfV s = if cfB s = true then 0 else 1) := rfl
  clear h hl
  unfold clA clC
  simp only
  generalize cfV s = V at *
  generalize cfB s = R at *
  cases R
  · have E2 : Hid (V = 1) := HE.out
    clear HE
    go_enter Try.func9, Try.ntmps9
    go_upto_region 1 with fail
    generalize (w.alloc (.cells #[.slice an s.nodes.length kn, .slice av s.vms.length kv, .slice ae s.tenants.length ke, .int .i64 s.over, .int .i64 s.time] 33)) = u0 at *
    generalize w.heap.size = b0 at *
    go_wp2_with (go_at_call 28; refine Calls.mono HI.out ?_; rintro e u1 ⟨rfl, hb⟩; have HL1 : Hid (LG w u1 b0 _ _) := HL0.out.step hb; clear hb)
    go_ret
    exact ⟨ret_int E2.out.symm, HL1.out.bel⟩
  · have E2 : Hid (V = 0) := HE.out
    clear HE
    go_enter Try.func9, Try.ntmps9
    go_upto_region 1 with fail
    generalize (w.alloc (.cells #[.slice an s.nodes.length kn, .slice av s.vms.length kv, .slice ae s.tenants.length ke, .int .i64 s.over, .int .i64 s.time] 33)) = u0 at *
    generalize w.heap.size = b0 at *
    go_wp2_with (go_at_call 28; refine Calls.mono HI.out ?_; rintro e u1 ⟨rfl, hb⟩; have HL1 : Hid (LG w u1 b0 _ _) := HL0.out.step hb; clear hb)
    go_ret
    exact ⟨ret_int E2.out.symm, HL1.out.bel⟩
end Go.Proofs.Ytkmbhhkgfofcoaa
