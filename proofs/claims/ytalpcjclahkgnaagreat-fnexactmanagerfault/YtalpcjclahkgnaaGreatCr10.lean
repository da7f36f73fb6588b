import Derived.Test.YtalpcjclahkgnaaGreatCm2
import Derived.Test.YtalpcjclahkgnaaGreatCr6
namespace Go.Proofs.YtalpcjclahkgnaaGreat
open Go.ChangeShapes Go.WideShapes Go.ChangeAt Go.RowKit

set_option maxRecDepth 100000 in
set_option maxHeartbeats 4000000 in
theorem isRight_any {w : World} {b : Nat} {s : CL} {a : CA} (h : CX w b s a) (hl : CLlen s) : Calls Tryz.prog 40 #[.pointer (some ⟨b, 0, none⟩)] w fun e w' => e = .returned (.bool (irB s)) ∧ Below w.heap.size w w' := by
  have HX : Hid (CX w b s a) := h
  have l0 : s.nodes.length ≤ 1048576 := hl.lnodes.1
  have l1 : s.vms.length ≤ 1048576 := hl.lvms.1
  have l2 : s.tenants.length ≤ 1048576 := hl.ltenants
  obtain ⟨an, kn, av, kv, ae, ke, e⟩ := h.rows.sl
  subst e
  clear h
  have HE : Hid (irB s = (bdB s && nrB s && vrB s && allD (tkB s) s.tenants.length && !(s.vms.any fun v => !msB s (cnL s) v))) := rfl
  have H1 : Hid (∀ u, Below w.heap.size w u → Calls Tryz.prog 58 #[.pointer (some ⟨b, 0, none⟩)] u fun e w' => e = .returned (.bool (bdB s)) ∧ Below u.heap.size u w') := fun u hu => Calls.mono (isBounded_any (HX.out.below hu) hl) (fun e w' hh => ⟨hh.1, by rw [hh.2]; exact Below.refl _ _⟩)
  have H2 : Hid (∀ u, Below w.heap.size w u → Calls Tryz.prog 59 #[.pointer (some ⟨b, 0, none⟩)] u fun e w' => e = .returned (.bool (nrB s)) ∧ Below u.heap.size u w') := fun u hu => nodesR_any (HX.out.below hu) l0
  have H3 : Hid (∀ u, Below w.heap.size w u → Calls Tryz.prog 60 #[.pointer (some ⟨b, 0, none⟩)] u fun e w' => e = .returned (.bool (vrB s)) ∧ Below u.heap.size u w') := fun u hu => vmsR_any (HX.out.below hu) l1 l2
  have H4 : Hid (∀ u, Below w.heap.size w u → Calls Tryz.prog 61 #[.pointer (some ⟨b, 0, none⟩)] u fun e w' => e = .returned (.bool (allD (tkB s) s.tenants.length)) ∧ Below u.heap.size u w') := fun u hu => tenantsR_any (HX.out.below hu) l1 l2
  have H5 : Hid (∀ u, Below w.heap.size w u → Calls Tryz.prog 62 #[.agg #[.slice an s.nodes.length kn, .slice av s.vms.length kv, .slice ae s.tenants.length ke, .int .i64 s.over, .int .i64 s.time]] u fun e w' => ∃ (r : Nat) (a2 : CA) (cb : Nat), e = .returned (.pointer (some ⟨r, 0, none⟩)) ∧ RX w' r s a2 cb (cnL s) ∧ Below u.heap.size u w') := (fun u hu => by have h9 := newRunner_any (HX.out.below hu).rows hl; unfold clA clC at h9; simp only at h9; exact h9)
  have H6 : Hid (∀ u p r a2 cb, RX u r s a2 cb (cnL s) → LG w u p #[.pointer (some ⟨r, 0, none⟩)] 108 → Calls Tryz.prog 63 #[a2.vvms, .func (.func 64) #[] #[.pointer (some ⟨p, 0, none⟩)]] u fun e w' => e = .returned (.bool (s.vms.any fun v => !msB s (cnL s) v)) ∧ Below u.heap.size u w') :=
    fun u p r a2 cb hr hp => containsVMC_any hr.cx.rows.rvms l1 _ _ (fun v => !msB s (cnL s) v) (fun xs w' => by kernel_rfl) (fun x w' hw => isRightF_any (w := w) (hr.below hw) l0 l1 x (hp.step hw))
  have k0 := HX.out.cel 0 (.slice an s.nodes.length kn) rfl
  have k1 := HX.out.cel 1 (.slice av s.vms.length kv) rfl
  have k2 := HX.out.cel 2 (.slice ae s.tenants.length ke) rfl
  have k3 := HX.out.cel 3 (.int .i64 s.over) rfl
  have k4 := HX.out.cel 4 (.int .i64 s.time) rfl
  have kl := HX.out.lt
  have HC : Hid (∀ u, Below w.heap.size w u → u.cell? ⟨b, 0, none⟩ = some (.slice an s.nodes.length kn) ∧ u.cell? ⟨b, 1, none⟩ = some (.slice av s.vms.length kv) ∧ u.cell? ⟨b, 2, none⟩ = some (.slice ae s.tenants.length ke) ∧ u.cell? ⟨b, 3, none⟩ = some (.int .i64 s.over) ∧ u.cell? ⟨b, 4, none⟩ = some (.int .i64 s.time) ∧ b < u.heap.size) := fun u hu => ⟨(HX.out.below hu).cel 0 _ rfl, (HX.out.below hu).cel 1 _ rfl, (HX.out.below hu).cel 2 _ rfl, (HX.out.below hu).cel 3 _ rfl, (HX.out.below hu).cel 4 _ rfl, (HX.out.below hu).lt⟩
  have HB0 : Hid (Below w.heap.size w w) := Below.refl _ _
  clear HX
  generalize irB s = V at *
  generalize bdB s = R1 at *
  generalize nrB s = R2 at *
  generalize vrB s = R3 at *
  generalize allD (tkB s) s.tenants.length = R4 at *
  generalize (s.vms.any fun v => !msB s (cnL s) v) = R5 at *
  cases R1
  · have E2 : Hid (V = false) := (show V = false by rw [HE.out]; simp)
    clear HE HC H5 H6
    go_enter Tryz.func40, Tryz.ntmps40
    go_wp2_with (go_at_call 58; refine Calls.mono (H1.out _ HB0.out) ?_; rintro e w1 ⟨rfl, hb⟩; have HB1 : Hid (Below w.heap.size w w1) := HB0.out.trans (hb.mono HB0.out.size); clear hb H1)
    go_ret
    exact ⟨ret_bool E2.out.symm, HB1.out⟩
  cases R2
  · have E2 : Hid (V = false) := (show V = false by rw [HE.out]; simp)
    clear HE HC H5 H6
    go_enter Tryz.func40, Tryz.ntmps40
    go_wp2_with (first | (go_at_call 58; refine Calls.mono (H1.out _ HB0.out) ?_; rintro e w1 ⟨rfl, hb⟩; have HB1 : Hid (Below w.heap.size w w1) := HB0.out.trans (hb.mono HB0.out.size); clear hb H1) | (go_at_call 59; refine Calls.mono (H2.out _ HB1.out) ?_; rintro e w2 ⟨rfl, hb⟩; have HB2 : Hid (Below w.heap.size w w2) := HB1.out.trans (hb.mono HB1.out.size); clear hb H2))
    go_ret
    exact ⟨ret_bool E2.out.symm, HB2.out⟩
  cases R3
  · have E2 : Hid (V = false) := (show V = false by rw [HE.out]; simp)
    clear HE HC H5 H6
    go_enter Tryz.func40, Tryz.ntmps40
    go_wp2_with (first | (go_at_call 58; refine Calls.mono (H1.out _ HB0.out) ?_; rintro e w1 ⟨rfl, hb⟩; have HB1 : Hid (Below w.heap.size w w1) := HB0.out.trans (hb.mono HB0.out.size); clear hb H1) | (go_at_call 59; refine Calls.mono (H2.out _ HB1.out) ?_; rintro e w2 ⟨rfl, hb⟩; have HB2 : Hid (Below w.heap.size w w2) := HB1.out.trans (hb.mono HB1.out.size); clear hb H2) | (go_at_call 60; refine Calls.mono (H3.out _ HB2.out) ?_; rintro e w3 ⟨rfl, hb⟩; have HB3 : Hid (Below w.heap.size w w3) := HB2.out.trans (hb.mono HB2.out.size); clear hb H3))
    go_ret
    exact ⟨ret_bool E2.out.symm, HB3.out⟩
  cases R4
  · have E2 : Hid (V = false) := (show V = false by rw [HE.out]; simp)
    clear HE HC H5 H6
    go_enter Tryz.func40, Tryz.ntmps40
    go_wp2_with (first | (go_at_call 58; refine Calls.mono (H1.out _ HB0.out) ?_; rintro e w1 ⟨rfl, hb⟩; have HB1 : Hid (Below w.heap.size w w1) := HB0.out.trans (hb.mono HB0.out.size); clear hb H1) | (go_at_call 59; refine Calls.mono (H2.out _ HB1.out) ?_; rintro e w2 ⟨rfl, hb⟩; have HB2 : Hid (Below w.heap.size w w2) := HB1.out.trans (hb.mono HB1.out.size); clear hb H2) | (go_at_call 60; refine Calls.mono (H3.out _ HB2.out) ?_; rintro e w3 ⟨rfl, hb⟩; have HB3 : Hid (Below w.heap.size w w3) := HB2.out.trans (hb.mono HB2.out.size); clear hb H3) | (go_at_call 61; refine Calls.mono (H4.out _ HB3.out) ?_; rintro e w4 ⟨rfl, hb⟩; have HB4 : Hid (Below w.heap.size w w4) := HB3.out.trans (hb.mono HB3.out.size); clear hb H4))
    go_ret
    exact ⟨ret_bool E2.out.symm, HB4.out⟩
  have E2 : Hid (V = !R5) := (show V = !R5 by rw [HE.out]; simp)
  clear HE
  go_enter Tryz.func40, Tryz.ntmps40
  go_upto_region 3 with (first | (go_at_call 58; refine Calls.mono (H1.out _ HB0.out) ?_; rintro e w1 ⟨rfl, hb⟩; have HB1 : Hid (Below w.heap.size w w1) := HB0.out.trans (hb.mono HB0.out.size); clear hb H1) | (go_at_call 59; refine Calls.mono (H2.out _ HB1.out) ?_; rintro e w2 ⟨rfl, hb⟩; have HB2 : Hid (Below w.heap.size w w2) := HB1.out.trans (hb.mono HB1.out.size); clear hb H2) | (go_at_call 60; refine Calls.mono (H3.out _ HB2.out) ?_; rintro e w3 ⟨rfl, hb⟩; have HB3 : Hid (Below w.heap.size w w3) := HB2.out.trans (hb.mono HB2.out.size); clear hb H3) | (go_at_call 61; refine Calls.mono (H4.out _ HB3.out) ?_; rintro e w4 ⟨rfl, hb⟩; have HB4 : Hid (Below w.heap.size w w4) := HB3.out.trans (hb.mono HB3.out.size); clear hb H4))
  obtain ⟨q0, q1, q2, q3, q4, ql⟩ := HC.out _ HB4.out
  clear k0 k1 k2 k3 k4 kl HC
  go_upto_region 4 with (go_at_call 62; refine Calls.mono (H5.out _ HB4.out) ?_; rintro e w5 ⟨r, a2, cb, rfl, hrx, hb⟩; have HR5 : Hid (RX w5 r s a2 cb (cnL s)) := hrx; have HB5 : Hid (Below w.heap.size w w5) := HB4.out.trans (hb.mono HB4.out.size); clear hb hrx H5)
  have HP : Hid (LG w (w5.alloc (.cells #[.pointer (some ⟨r, 0, none⟩)] 108)) w5.heap.size #[.pointer (some ⟨r, 0, none⟩)] 108) := LG.mk2 HB5.out
  have HR6 : Hid (RX (w5.alloc (.cells #[.pointer (some ⟨r, 0, none⟩)] 108)) r s a2 cb (cnL s)) := HR5.out.below (bx1 _ _)
  have HB6 : Hid (Below w.heap.size w (w5.alloc (.cells #[.pointer (some ⟨r, 0, none⟩)] 108))) := HP.out.bel
  have HI : Hid _ := H6.out _ _ _ _ _ HR6.out HP.out
  obtain ⟨an2, kn2, av2, kv2, ae2, ke2, e⟩ := HR6.out.sl
  have r1 := HR6.out.cx.cel 1 a2.vvms rfl
  have rl := HR6.out.cx.lt
  have p0 := HP.out.cel 0 _ rfl
  have pl := HP.out.lt
  subst e
  simp only at r1 HI
  clear HR5 HR6 HB5 H6 q0 q1 q2 q3 q4 ql HP
  generalize (w5.alloc (.cells #[.pointer (some ⟨r, 0, none⟩)] 108)) = w6 at *
  generalize w5.heap.size = bp at *
  go_wp2_with (go_at_call 63; refine Calls.mono HI.out ?_; rintro e w7 ⟨rfl, hb⟩; have HB7 : Hid (Below w.heap.size w w7) := HB6.out.trans (hb.mono HB6.out.size); clear hb)
  go_ret
  exact ⟨ret_bool E2.out.symm, HB7.out⟩
end Go.Proofs.YtalpcjclahkgnaaGreat
