import Derived.Test.YtkmbhhkgfofcoaaCm2
import Derived.Test.YtkmbhhkgfofcoaaCr6
import Derived.Test.YtkmbhhkgfofcoaaBytesC
import Derived.Test.YtkmbhhkgfofcoaaCs4
namespace Go.Proofs.Ytkmbhhkgfofcoaa
open Go.ChangeShapes Go.WideShapes Go.ChangeAt Go.RowKit

set_option maxRecDepth 100000 in
set_option maxHeartbeats 4000000 in
theorem isRight_any {w : World} {b : Nat} {s : CL} {a : CA} (h : CX w b s a) (hl : CLlen s) : Calls Try.prog 28 #[.pointer (some ⟨b, 0, none⟩)] w fun e w' => e = .returned (.bool (irB s)) ∧ Below w.heap.size w w' := by
  have HX : Hid (CX w b s a) := h
  have l0 : s.nodes.length ≤ 1048576 := hl.lnodes.1
  have l1 : s.vms.length ≤ 1048576 := hl.lvms.1
  have l2 : s.tenants.length ≤ 1048576 := hl.ltenants
  obtain ⟨an, kn, av, kv, ae, ke, e⟩ := h.rows.sl
  subst e
  clear h
  have HE : Hid (irB s = (bdB s && nrB s && vrB s && allD (tkB s) s.tenants.length && !(s.vms.any fun v => !msB s (cnL s) v))) := rfl
  have H1 : Hid (∀ u, Below w.heap.size w u → Calls Try.prog 43 #[.pointer (some ⟨b, 0, none⟩)] u fun e w' => e = .returned (.bool (bdB s)) ∧ Below u.heap.size u w') := fun u hu => Calls.mono (isBounded_any (HX.out.below hu) hl) (fun e w' hh => ⟨hh.1, by rw [hh.2]; exact Below.refl _ _⟩)
  have H2 : Hid (∀ u, Below w.heap.size w u → Calls Try.prog 44 #[.pointer (some ⟨b, 0, none⟩)] u fun e w' => e = .returned (.bool (nrB s)) ∧ Below u.heap.size u w') := fun u hu => nodesR_any (HX.out.below hu) l0
  have H3 : Hid (∀ u, Below w.heap.size w u → Calls Try.prog 45 #[.pointer (some ⟨b, 0, none⟩)] u fun e w' => e = .returned (.bool (vrB s)) ∧ Below u.heap.size u w') := fun u hu => vmsR_any (HX.out.below hu) l1 l2
  have H4 : Hid (∀ u, Below w.heap.size w u → Calls Try.prog 46 #[.pointer (some ⟨b, 0, none⟩)] u fun e w' => e = .returned (.bool (allD (tkB s) s.tenants.length)) ∧ Below u.heap.size u w') := fun u hu => tenantsR_any (HX.out.below hu) l1 l2
  have H5 : Hid (∀ u, Below w.heap.size w u → Calls Try.prog 35 #[.agg #[.slice an s.nodes.length kn, .slice av s.vms.length kv, .slice ae s.tenants.length ke, .int .i64 s.over, .int .i64 s.time]] u fun e w' => ∃ (r : Nat) (a2 : CA) (cb : Nat), e = .returned (.pointer (some ⟨r, 0, none⟩)) ∧ RX w' r s a2 cb (cnL s) ∧ Below u.heap.size u w') := (fun u hu => by have h9 := newRunner_any (HX.out.below hu).rows hl; unfold clA clC at h9; simp only at h9; exact h9)
  have H6 : Hid (∀ u p r a2 cb, RX u r s a2 cb (cnL s) → LG w u p #[.pointer (some ⟨r, 0, none⟩)] 66 → Calls Try.prog 47 #[a2.vvms, .func (.func 48) #[] #[.pointer (some ⟨p, 0, none⟩)]] u fun e w' => e = .returned (.bool (s.vms.any fun v => !msB s (cnL s) v)) ∧ Below u.heap.size u w') :=
    fun u p r a2 cb hr hp => containsVMC_any hr.cx.rows.rvms l1 _ _ (fun v => !msB s (cnL s) v) (fun xs w' => by kernel_rfl) (fun x w' hw => isRightF_any (w := w) (hr.below hw) l0 l1 x (hp.step hw))
  have k0 := HX.out.cel 0 (.slice an s.nodes.length kn) rfl
  have k1 := HX.out.cel 1 (.slice av s.vms.length kv) rfl
  have k2 := HX.out.cel 2 (.slice ae s.tenants.length ke) rfl
  have k3 := HX.out.cel 3 (.int .i64 s.over) rfl
  have k4 := HX.out.cel 4 (.int .i64 s.time) rfl
  have kl := HX.out.lt
  have HC : Hid (∀ u, Below w.heap.size w u → u.cell? ⟨b, 0, none⟩ = some (.slice an s.nodes.length kn) ∧ u.cell? ⟨b, 1, none⟩ = some (.slice av s.vms.length kv) ∧ u.cell? ⟨b, 2, none⟩ = some (.slice ae s.tenants.length ke) ∧ u.cell? ⟨b, 3, none⟩ = some (.int .i64 s.over) ∧ u.cell? ⟨b, 4, none⟩ = some (.int .i64 s.time) ∧ b < u.heap.size) := fun u hu => ⟨(HX.out.below hu).cel 0 _ rfl, (HX.out.below hu).cel 1 _ rfl, (HX.out.below hu).cel 2 _ rfl, (HX.out.below hu).cel 3 _ rfl, (HX.out.below hu).cel 4 _ rfl, (HX.out.below hu).lt⟩
  have HB0 : Hid (Below w.heap.size w w) := Below.refl _ _
  clear HX
  generalize irB s = V at *
  generalize bdB s = R1 at *
  generalize nrB s = R2 at *
  generalize vrB s = R3 at *
  generalize allD (tkB s) s.tenants.length = R4 at *
  generalize (s.vms.any fun v => !msB s (cnL s) v) = R5 at *
  cases R1
  · have E2 : Hid (V = false) := (show V = false by rw [HE.out]; simp)
    clear HE HC H5 H6
    go_enter Try.func28, Try.ntmps28
    go_wp2_with (go_at_call 43; refine Calls.mono (H1.out _ HB0.out) ?_; rintro e w1 ⟨rfl, hb⟩; have HB1 : Hid (Below w.heap.size w w1) := HB0.out.trans (hb.mono HB0.out.size); clear hb H1)
    go_ret
    exact ⟨ret_bool E2.out.symm, HB1.out⟩
  cases R2
  · have E2 : Hid (V = false) := (show V = false by rw [HE.out]; simp)
    clear HE HC H5 H6
    go_enter Try.func28, Try.ntmps28
    go_wp2_with (first | (go_at_call 43; refine Calls.mono (H1.out _ HB0.out) ?_; rintro e w1 ⟨rfl, hb⟩; have HB1 : Hid (Below w.heap.size w w1) := HB0.out.trans (hb.mono HB0.out.size); clear hb H1) | (go_at_call 44; refine Calls.mono (H2.out _ HB1.out) ?_; rintro e w2 ⟨rfl, hb⟩; have HB2 : Hid (Below w.heap.size w w2) := HB1.out.trans (hb.mono HB1.out.size); clear hb H2))
    go_ret
    exact ⟨ret_bool E2.out.symm, HB2.out⟩
  cases R3
  · have E2 : Hid (V = false) := (show V = false by rw [HE.out]; simp)
    clear HE HC H5 H6
    go_enter Try.func28, Try.ntmps28
    go_wp2_with (first | (go_at_call 43; refine Calls.mono (H1.out _ HB0.out) ?_; rintro e w1 ⟨rfl, hb⟩; have HB1 : Hid (Below w.heap.size w w1) := HB0.out.trans (hb.mono HB0.out.size); clear hb H1) | (go_at_call 44; refine Calls.mono (H2.out _ HB1.out) ?_; rintro e w2 ⟨rfl, hb⟩; have HB2 : Hid (Below w.heap.size w w2) := HB1.out.trans (hb.mono HB1.out.size); clear hb H2) | (go_at_call 45; refine Calls.mono (H3.out _ HB2.out) ?_; rintro e w3 ⟨rfl, hb⟩; have HB3 : Hid (Below w.heap.size w w3) := HB2.out.trans (hb.mono HB2.out.size); clear hb H3))
    go_ret
    exact ⟨ret_bool E2.out.symm, HB3.out⟩
  cases R4
  · have E2 : Hid (V = false) := (show V = false by rw [HE.out]; simp)
    clear HE HC H5 H6
    go_enter Try.func28, Try.ntmps28
    go_wp2_with (first | (go_at_call 43; refine Calls.mono (H1.out _ HB0.out) ?_; rintro e w1 ⟨rfl, hb⟩; have HB1 : Hid (Below w.heap.size w w1) := HB0.out.trans (hb.mono HB0.out.size); clear hb H1) | (go_at_call 44; refine Calls.mono (H2.out _ HB1.out) ?_; rintro e w2 ⟨rfl, hb⟩; have HB2 : Hid (Below w.heap.size w w2) := HB1.out.trans (hb.mono HB1.out.size); clear hb H2) | (go_at_call 45; refine Calls.mono (H3.out _ HB2.out) ?_; rintro e w3 ⟨rfl, hb⟩; have HB3 : Hid (Below w.heap.size w w3) := HB2.out.trans (hb.mono HB2.out.size); clear hb H3) | (go_at_call 46; refine Calls.mono (H4.out _ HB3.out) ?_; rintro e w4 ⟨rfl, hb⟩; have HB4 : Hid (Below w.heap.size w w4) := HB3.out.trans (hb.mono HB3.out.size); clear hb H4))
    go_ret
    exact ⟨ret_bool E2.out.symm, HB4.out⟩
  have E2 : Hid (V = !R5) := (show V = !R5 by rw [HE.out]; simp)
  clear HE
  go_enter Try.func28, Try.ntmps28
  go_upto_region 3 with (first | (go_at_call 43; refine Calls.mono (H1.out _ HB0.out) ?_; rintro e w1 ⟨rfl, hb⟩; have HB1 : Hid (Below w.heap.size w w1) := HB0.out.trans (hb.mono HB0.out.size); clear hb H1) | (go_at_call 44; refine Calls.mono (H2.out _ HB1.out) ?_; rintro e w2 ⟨rfl, hb⟩; have HB2 : Hid (Below w.heap.size w w2) := HB1.out.trans (hb.mono HB1.out.size); clear hb H2) | (go_at_call 45; refine Calls.mono (H3.out _ HB2.out) ?_; rintro e w3 ⟨rfl, hb⟩; have HB3 : Hid (Below w.heap.size w w3) := HB2.out.trans (hb.mono HB2.out.size); clear hb H3) | (go_at_call 46; refine Calls.mono (H4.out _ HB3.out) ?_; rintro e w4 ⟨rfl, hb⟩; have HB4 : Hid (Below w.heap.size w w4) := HB3.out.trans (hb.mono HB3.out.size); clear hb H4))
  obtain ⟨q0, q1, q2, q3, q4, ql⟩ := HC.out _ HB4.out
  clear k0 k1 k2 k3 k4 kl HC
  go_upto_region 4 with (go_at_call 35; refine Calls.mono (H5.out _ HB4.out) ?_; rintro e w5 ⟨r, a2, cb, rfl, hrx, hb⟩; have HR5 : Hid (RX w5 r s a2 cb (cnL s)) := hrx; have HB5 : Hid (Below w.heap.size w w5) := HB4.out.trans (hb.mono HB4.out.size); clear hb hrx H5)
  have HP : Hid (LG w (w5.alloc (.cells #[.pointer (some ⟨r, 0, none⟩)] 66)) w5.heap.size #[.pointer (some ⟨r, 0, none⟩)] 66) := LG.mk2 HB5.out
  have HR6 : Hid (RX (w5.alloc (.cells #[.pointer (some ⟨r, 0, none⟩)] 66)) r s a2 cb (cnL s)) := HR5.out.below (bx1 _ _)
  have HB6 : Hid (Below w.heap.size w (w5.alloc (.cells #[.pointer (some ⟨r, 0, none⟩)] 66))) := HP.out.bel
  have HI : Hid _ := H6.out _ _ _ _ _ HR6.out HP.out
  obtain ⟨an2, kn2, av2, kv2, ae2, ke2, e⟩ := HR6.out.sl
  have r1 := HR6.out.cx.cel 1 a2.vvms rfl
  have rl := HR6.out.cx.lt
  have p0 := HP.out.cel 0 _ rfl
  have pl := HP.out.lt
  subst e
  simp only at r1 HI
  clear HR5 HR6 HB5 H6 q0 q1 q2 q3 q4 ql HP
  generalize (w5.alloc (.cells #[.pointer (some ⟨r, 0, none⟩)] 66)) = w6 at *
  generalize w5.heap.size = bp at *
  go_wp2_with (go_at_call 47; refine Calls.mono HI.out ?_; rintro e w7 ⟨rfl, hb⟩; have HB7 : Hid (Below w.heap.size w w7) := HB6.out.trans (hb.mono HB6.out.size); clear hb)
  go_ret
  exact ⟨ret_bool E2.out.symm, HB7.out⟩
set_option maxRecDepth 100000 in
set_option maxHeartbeats 4000000 in
theorem implCF_any {w : World} {s : CL} {a : CA} (h : CLRows w s a) (hl : CLlen s) : Calls Try.prog 9 #[clA s a] w fun e w' => e = .returned (.int .i64 (cfV s)) ∧ Below w.heap.size w w' := by
  obtain ⟨an, kn, av, kv, ae, ke, e⟩ := h.sl
  subst e
  have HL0 : Hid (LG w (w.alloc (.cells #[.slice an s.nodes.length kn, .slice av s.vms.length kv, .slice ae s.tenants.length ke, .int .i64 s.over, .int .i64 s.time] 33)) w.heap.size #[.slice an s.nodes.length kn, .slice av s.vms.length kv, .slice ae s.tenants.length ke, .int .i64 s.over, .int .i64 s.time] 33) := LG.new w _ _
  have HI : Hid (Calls Try.prog 28 #[.pointer (some ⟨w.heap.size, 0, none⟩)] (w.alloc (.cells #[.slice an s.nodes.length kn, .slice av s.vms.length kv, .slice ae s.tenants.length ke, .int .i64 s.over, .int .i64 s.time] 33)) fun e w' => e = .returned (.bool (cfB s)) ∧ Below (w.alloc (.cells #[.slice an s.nodes.length kn, .slice av s.vms.length kv, .slice ae s.tenants.length ke, .int .i64 s.over, .int .i64 s.time] 33)).heap.size (w.alloc (.cells #[.slice an s.nodes.length kn, .slice av s.vms.length kv, .slice ae s.tenants.length ke, .int .i64 s.over, .int .i64 s.time] 33)) w') := by
    have h9 := isRight_any (w := w.alloc (.cells #[.slice an s.nodes.length kn, .slice av s.vms.length kv, .slice ae s.tenants.length ke, .int .i64 s.over, .int .i64 s.time] 33)) (b := w.heap.size) (s := s) (a := ⟨.slice an s.nodes.length kn, .slice av s.vms.length kv, .slice ae s.tenants.length ke⟩) ⟨HL0.out.lt, fun k v hk => HL0.out.cel k v hk, h.below HL0.out.bel⟩ hl
    rw [ir_eq] at h9
    exact h9
  have HE : Hid (cfV s = if cfB s = true then 0 else 1) := rfl
  clear h hl
  unfold clA clC
  simp only
  generalize cfV s = V at *
  generalize cfB s = R at *
  cases R
  · have E2 : Hid (V = 1) := HE.out
    clear HE
    go_enter Try.func9, Try.ntmps9
    go_upto_region 1 with fail
    generalize (w.alloc (.cells #[.slice an s.nodes.length kn, .slice av s.vms.length kv, .slice ae s.tenants.length ke, .int .i64 s.over, .int .i64 s.time] 33)) = u0 at *
    generalize w.heap.size = b0 at *
    go_wp2_with (go_at_call 28; refine Calls.mono HI.out ?_; rintro e u1 ⟨rfl, hb⟩; have HL1 : Hid (LG w u1 b0 _ _) := HL0.out.step hb; clear hb)
    go_ret
    exact ⟨ret_int E2.out.symm, HL1.out.bel⟩
  · have E2 : Hid (V = 0) := HE.out
    clear HE
    go_enter Try.func9, Try.ntmps9
    go_upto_region 1 with fail
    generalize (w.alloc (.cells #[.slice an s.nodes.length kn, .slice av s.vms.length kv, .slice ae s.tenants.length ke, .int .i64 s.over, .int .i64 s.time] 33)) = u0 at *
    generalize w.heap.size = b0 at *
    go_wp2_with (go_at_call 28; refine Calls.mono HI.out ?_; rintro e u1 ⟨rfl, hb⟩; have HL1 : Hid (LG w u1 b0 _ _) := HL0.out.step hb; clear hb)
    go_ret
    exact ⟨ret_int E2.out.symm, HL1.out.bel⟩

/-- What holdCode tells. -/
def hcV (s : CL) (cs : List (Int × Int)) (nm : ByteArray) (v : VMC) : Int :=
  if 65536 < (nm.size : Int) then 2 else if ndX s nm < 0 then 5 else if opnB (ndA s (ndX s nm).toNat) = false then 6 else ftV s cs (ndX s nm).toNat v
/-- What l22May tells. -/
def myV (s : CL) (nm : ByteArray) (v : VMC) : Int :=
  if ndX s nm < 0 then 5 else if opnB (ndA s (ndX s nm).toNat) = false then 6 else hlV s (ndX s nm).toNat v
def mhV (s : CL) (nm : ByteArray) (v : VMC) : Int :=
  if 65536 < (nm.size : Int) then 2 else if cfB s = false then 1 else if vmB s.tenants.length v = false then 1 else myV s nm v
theorem hc_my {s : CL} (h : cfB s = true) {nm : ByteArray} {v : VMC} (hv : vmB s.tenants.length v = true) (hs : ¬ 65536 < (nm.size : Int)) : hcV s (cnL s) nm v = myV s nm v := by
  have h2 := h
  rw [← ir_eq] at h2
  unfold irB at h2
  simp only [Bool.and_eq_true] at h2
  have g := GC.of h2.1.1.1.1 h2.1.1.1.2 h2.1.1.2
  have b := vmB_bd hv
  unfold hcV myV
  rw [if_neg hs]
  rcases ndX_or s nm with ⟨e, _⟩ | ⟨q, hq, e, _⟩
  · rw [e]
    rfl
  · rw [e, show ((q : Int).toNat) = q from rfl, g.ft hq b.1 b.2]
set_option maxRecDepth 100000 in
set_option maxHeartbeats 4000000 in
theorem tooLong22_any (nm : ByteArray) (w : World) : Calls Try.prog 33 #[.string nm] w fun e w' => e = .returned (.bool (decide (65536 < (nm.size : Int)))) ∧ w' = w := by
  go_enter Try.func33, Try.ntmps33
  go_wp2
  go_ret
  exact ⟨rfl, rfl⟩
set_option maxRecDepth 100000 in
set_option maxHeartbeats 4000000 in
theorem holdCode_any {w : World} {r : Nat} {s : CL} {a : CA} {cb : Nat} {cs : List (Int × Int)} (h : RX w r s a cb cs) (hn : s.nodes.length ≤ 1048576) (hl : s.vms.length ≤ 1048576) (nm : ByteArray) (v : VMC) : Calls Try.prog 36 #[.pointer (some ⟨r, 0, none⟩), .string nm, .agg #[.string v.name, .int .i64 v.tenant, .int .i64 v.cpu, .int .i64 v.mem, .int .i64 v.zone, .int .i64 v.apart, .string v.node, .int .i64 v.epoch]] w fun e w' => e = .returned (.int .i64 (hcV s cs nm v)) ∧ Below w.heap.size w w' := by
  have HE : Hid (hcV s cs nm v = if 65536 < (nm.size : Int) then 2 else if ndX s nm < 0 then 5 else if opnB (ndA s (ndX s nm).toNat) = false then 6 else ftV s cs (ndX s nm).toNat v) := rfl
  have HTL : Hid (∀ u, Calls Try.prog 33 #[.string nm] u fun e w' => e = .returned (.bool (decide (65536 < (nm.size : Int)))) ∧ w' = u) := fun u => tooLong22_any nm u
  have HV0 : Hid (LG w (w.alloc (.cells #[.string v.name, .int .i64 v.tenant, .int .i64 v.cpu, .int .i64 v.mem, .int .i64 v.zone, .int .i64 v.apart, .string v.node, .int .i64 v.epoch] 41)) w.heap.size #[.string v.name, .int .i64 v.tenant, .int .i64 v.cpu, .int .i64 v.mem, .int .i64 v.zone, .int .i64 v.apart, .string v.node, .int .i64 v.epoch] 41) := LG.new w _ _
  have HX0 : Hid (RX (w.alloc (.cells #[.string v.name, .int .i64 v.tenant, .int .i64 v.cpu, .int .i64 v.mem, .int .i64 v.zone, .int .i64 v.apart, .string v.node, .int .i64 v.epoch] 41)) r s a cb cs) := h.below HV0.out.bel
  clear h
  have HND : Hid (∀ u, RX u r s a cb cs → Calls Try.prog 60 #[.pointer (some ⟨r, 0, none⟩), .string nm] u fun e w' => e = .returned (.int .i64 (ndX s nm)) ∧ Below u.heap.size u w') := fun u hu => nodeAt_any hu.cx hn nm
  have HFT : Hid (∀ u q, RX u r s a cb cs → q < s.nodes.length → Calls Try.prog 63 #[.pointer (some ⟨r, 0, none⟩), .int .i64 (q : Nat), .agg #[.string v.name, .int .i64 v.tenant, .int .i64 v.cpu, .int .i64 v.mem, .int .i64 v.zone, .int .i64 v.apart, .string v.node, .int .i64 v.epoch]] u fun e w' => e = .returned (.int .i64 (ftV s cs q v)) ∧ Below u.heap.size u w') := fun u q hu hq => fitCode_any hu hl q hq v
  generalize hcV s cs nm v = V at *
  go_enter Try.func36, Try.ntmps36
  go_upto_region 1 with fail
  generalize (w.alloc (.cells #[.string v.name, .int .i64 v.tenant, .int .i64 v.cpu, .int .i64 v.mem, .int .i64 v.zone, .int .i64 v.apart, .string v.node, .int .i64 v.epoch] 41)) = u0 at *
  generalize hbv : w.heap.size = bv at HV0 ⊢
  cases t1 : decide (65536 < (nm.size : Int))
  rotate_left
  · have E2 : Hid (V = 2) := HE.out.trans (if_pos (of_decide_eq_true t1))
    rw [t1] at HTL
    clear HE t1
    go_wp2_with (go_at_call 33; refine Calls.mono (HTL.out _) ?_; rintro e u1 ⟨rfl, rfl⟩)
    go_ret
    exact ⟨ret_int E2.out.symm, hbv ▸ HV0.out.bel⟩
  have HE1 : Hid (V = if ndX s nm < 0 then 5 else if opnB (ndA s (ndX s nm).toNat) = false then 6 else ftV s cs (ndX s nm).toNat v) := HE.out.trans (if_neg (of_decide_eq_false t1))
  rw [t1] at HTL
  clear HE t1
  go_upto_region 3 with (go_at_call 33; refine Calls.mono (HTL.out _) ?_; rintro e u1 ⟨rfl, rfl⟩)
  clear HTL
  go_upto_region 4 with (go_at_call 60; refine Calls.mono (HND.out _ HX0.out) ?_; rintro e u1 ⟨rfl, hb⟩)
  have HV1 : Hid (LG w u1 bv #[.string v.name, .int .i64 v.tenant, .int .i64 v.cpu, .int .i64 v.mem, .int .i64 v.zone, .int .i64 v.apart, .string v.node, .int .i64 v.epoch] 41) := HV0.out.step hb
  have HX1 : Hid (RX u1 r s a cb cs) := HX0.out.below hb
  clear hb HV0 HX0 HND
  rcases ndX_or s nm with ⟨hx, _⟩ | ⟨q, hq, hx, _⟩
  · have E2 : Hid (V = 5) := HE1.out.trans (if_pos (by rw [hx]; decide))
    clear HE1 HFT
    rw [hx]
    clear hx
    go_wp2
    go_ret
    exact ⟨ret_int E2.out.symm, hbv ▸ HV1.out.bel⟩
  have HE2 : Hid (V = if opnB s.nodes[q] = false then 6 else ftV s cs q v) := (show V = _ by rw [HE1.out, hx, if_neg (by omega), show ((q : Int).toNat) = q from rfl, ndA_at hq])
  have HF1 : Hid (∀ u, RX u r s a cb cs → Calls Try.prog 63 #[.pointer (some ⟨r, 0, none⟩), .int .i64 (q : Int), .agg #[.string v.name, .int .i64 v.tenant, .int .i64 v.cpu, .int .i64 v.mem, .int .i64 v.zone, .int .i64 v.apart, .string v.node, .int .i64 v.epoch]] u fun e w' => e = .returned (.int .i64 (ftV s cs q v)) ∧ Below u.heap.size u w') := fun u hu => HFT.out u q hu hq
  rw [hx]
  clear hx HE1 HFT
  have hq0 : (0 : Int) ≤ (q : Int) := by omega
  have hq1 : (q : Int) < (s.nodes.length : Int) := by omega
  obtain ⟨gn, on, kn, en, hgn, hcn⟩ := HX1.out.nodeA hq
  obtain ⟨d0, d1, d2, d3, d4, d5, d6⟩ := hcn _ (Below.refl _ _) q hq
  have c0 := HX1.out.cx.cel 0 a.vnodes rfl
  rw [en] at c0
  have rl := HX1.out.cx.lt
  have HOP : Hid (∀ u, Calls Try.prog 62 #[.agg #[.string s.nodes[q].name, .int .i64 s.nodes[q].cpu, .int .i64 s.nodes[q].mem, .int .i64 s.nodes[q].zone, .int .i64 s.nodes[q].beat, .bool s.nodes[q].fenced, .bool s.nodes[q].closed]] u fun e w' => e = .returned (.bool (opnB s.nodes[q])) ∧ Below u.heap.size u w') := fun u => ndOpen_any _ u
  clear hcn en
  generalize s.nodes[q] = n at *
  generalize opnB n = O at *
  generalize ftV s cs q v = FV at *
  cases O
  · have E2 : Hid (V = 6) := HE2.out
    clear HE2 HF1
    go_wp2_with (go_at_call 62; refine Calls.mono (HOP.out _) ?_; rintro e u2 ⟨rfl, hb⟩)
    go_ret
    exact ⟨ret_int E2.out.symm, hbv ▸ (HV1.out.step hb).bel⟩
  · have E2 : Hid (V = FV) := HE2.out
    clear HE2
    go_upto_region 8 with (go_at_call 62; refine Calls.mono (HOP.out _) ?_; rintro e u2 ⟨rfl, hb⟩)
    have HV2 : Hid (LG w u2 bv #[.string v.name, .int .i64 v.tenant, .int .i64 v.cpu, .int .i64 v.mem, .int .i64 v.zone, .int .i64 v.apart, .string v.node, .int .i64 v.epoch] 41) := HV1.out.step hb
    have HX2 : Hid (RX u2 r s a cb cs) := HX1.out.below hb
    clear hb HV1 HX1 HOP d0 d1 d2 d3 d4 d5 d6 c0 rl hgn
    have v0 := HV2.out.cel 0 _ rfl
    have v1 := HV2.out.cel 1 _ rfl
    have v2 := HV2.out.cel 2 _ rfl
    have v3 := HV2.out.cel 3 _ rfl
    have v4 := HV2.out.cel 4 _ rfl
    have v5 := HV2.out.cel 5 _ rfl
    have v6 := HV2.out.cel 6 _ rfl
    have v7 := HV2.out.cel 7 _ rfl
    have vl := HV2.out.lt
    go_wp2_with (go_at_call 63; refine Calls.mono (HF1.out _ HX2.out) ?_; rintro e u3 ⟨rfl, hb⟩)
    go_ret
    exact ⟨ret_int E2.out.symm, hbv ▸ (HV2.out.step hb).bel⟩
set_option maxRecDepth 100000 in
set_option maxHeartbeats 8000000 in
theorem implMH_any {w : World} {s : CL} {a : CA} (h : CLRows w s a) (hl : CLlen s) (nm : ByteArray) (v : VMC) : Calls Try.prog 14 #[clA s a, .string nm, .agg #[.string v.name, .int .i64 v.tenant, .int .i64 v.cpu, .int .i64 v.mem, .int .i64 v.zone, .int .i64 v.apart, .string v.node, .int .i64 v.epoch]] w fun e w' => e = .returned (.int .i64 (mhV s nm v)) ∧ Below w.heap.size w w' := by
  have l0 : s.nodes.length ≤ 1048576 := hl.lnodes.1
  have l1 : s.vms.length ≤ 1048576 := hl.lvms.1
  have l2 : s.tenants.length ≤ 1048576 := hl.ltenants
  obtain ⟨an, kn, av, kv, ae, ke, e⟩ := h.sl
  subst e
  have HL0 : Hid (LG w ((w.alloc (.cells #[.slice an s.nodes.length kn, .slice av s.vms.length kv, .slice ae s.tenants.length ke, .int .i64 s.over, .int .i64 s.time] 33)).alloc (.cells #[.string v.name, .int .i64 v.tenant, .int .i64 v.cpu, .int .i64 v.mem, .int .i64 v.zone, .int .i64 v.apart, .string v.node, .int .i64 v.epoch] 41)) w.heap.size #[.slice an s.nodes.length kn, .slice av s.vms.length kv, .slice ae s.tenants.length ke, .int .i64 s.over, .int .i64 s.time] 33) := (LG.new w _ _).next
  have HV0 : Hid (LG w ((w.alloc (.cells #[.slice an s.nodes.length kn, .slice av s.vms.length kv, .slice ae s.tenants.length ke, .int .i64 s.over, .int .i64 s.time] 33)).alloc (.cells #[.string v.name, .int .i64 v.tenant, .int .i64 v.cpu, .int .i64 v.mem, .int .i64 v.zone, .int .i64 v.apart, .string v.node, .int .i64 v.epoch] 41)) (w.heap.size + 1) #[.string v.name, .int .i64 v.tenant, .int .i64 v.cpu, .int .i64 v.mem, .int .i64 v.zone, .int .i64 v.apart, .string v.node, .int .i64 v.epoch] 41) := (LG.mk2 (LG.new w _ _).bel).cast (by simp)
  have HX0 : Hid (CX ((w.alloc (.cells #[.slice an s.nodes.length kn, .slice av s.vms.length kv, .slice ae s.tenants.length ke, .int .i64 s.over, .int .i64 s.time] 33)).alloc (.cells #[.string v.name, .int .i64 v.tenant, .int .i64 v.cpu, .int .i64 v.mem, .int .i64 v.zone, .int .i64 v.apart, .string v.node, .int .i64 v.epoch] 41)) w.heap.size s ⟨.slice an s.nodes.length kn, .slice av s.vms.length kv, .slice ae s.tenants.length ke⟩) := ⟨HL0.out.lt, fun k v hk => HL0.out.cel k v hk, h.below HL0.out.bel⟩
  have HE : Hid (mhV s nm v = if 65536 < (nm.size : Int) then 2 else if cfB s = false then 1 else if vmB s.tenants.length v = false then 1 else myV s nm v) := rfl
  have HTL : Hid (∀ u, Calls Try.prog 33 #[.string nm] u fun e w' => e = .returned (.bool (decide (65536 < (nm.size : Int)))) ∧ w' = u) := fun u => tooLong22_any nm u
  have HIR : Hid (∀ u b, CX u b s ⟨.slice an s.nodes.length kn, .slice av s.vms.length kv, .slice ae s.tenants.length ke⟩ → Calls Try.prog 28 #[.pointer (some ⟨b, 0, none⟩)] u fun e w' => e = .returned (.bool (cfB s)) ∧ Below u.heap.size u w') := (fun u b hu => by have h9 := isRight_any hu hl; rw [ir_eq] at h9; exact h9)
  have HIO : Hid (∀ u, Calls Try.prog 34 #[.agg #[.string v.name, .int .i64 v.tenant, .int .i64 v.cpu, .int .i64 v.mem, .int .i64 v.zone, .int .i64 v.apart, .string v.node, .int .i64 v.epoch], .int .i64 (s.tenants.length : Nat)] u fun e w' => e = .returned (.bool (vmB s.tenants.length v)) ∧ Below u.heap.size u w') := fun u => vmOne_any v _ l2 u
  have HNR : Hid (∀ u, CLRows u s ⟨.slice an s.nodes.length kn, .slice av s.vms.length kv, .slice ae s.tenants.length ke⟩ → Calls Try.prog 35 #[.agg #[.slice an s.nodes.length kn, .slice av s.vms.length kv, .slice ae s.tenants.length ke, .int .i64 s.over, .int .i64 s.time]] u fun e w' => ∃ (r : Nat) (a2 : CA) (cb : Nat), e = .returned (.pointer (some ⟨r, 0, none⟩)) ∧ RX w' r s a2 cb (cnL s) ∧ Below u.heap.size u w') := (fun u hu => by have h9 := newRunner_any hu hl; unfold clA clC at h9; simp only at h9; exact h9)
  have HHC : Hid (∀ u r a2 cb, RX u r s a2 cb (cnL s) → Calls Try.prog 36 #[.pointer (some ⟨r, 0, none⟩), .string nm, .agg #[.string v.name, .int .i64 v.tenant, .int .i64 v.cpu, .int .i64 v.mem, .int .i64 v.zone, .int .i64 v.apart, .string v.node, .int .i64 v.epoch]] u fun e w' => e = .returned (.int .i64 (hcV s (cnL s) nm v)) ∧ Below u.heap.size u w') := fun u r a2 cb hu => holdCode_any hu l0 l1 nm v
  have HMY : Hid (cfB s = true → vmB s.tenants.length v = true → ¬ 65536 < (nm.size : Int) → hcV s (cnL s) nm v = myV s nm v) := fun h1 h2 h3 => hc_my h1 h2 h3
  clear h hl
  unfold clA clC
  simp only
  generalize mhV s nm v = V at *
  generalize myV s nm v = MY at *
  generalize hcV s (cnL s) nm v = HC at *
  generalize cfB s = R at *
  generalize vmB s.tenants.length v = VB at *
  go_enter Try.func14, Try.ntmps14
  go_upto_region 1 with fail
  generalize ((w.alloc (.cells #[.slice an s.nodes.length kn, .slice av s.vms.length kv, .slice ae s.tenants.length ke, .int .i64 s.over, .int .i64 s.time] 33)).alloc (.cells #[.string v.name, .int .i64 v.tenant, .int .i64 v.cpu, .int .i64 v.mem, .int .i64 v.zone, .int .i64 v.apart, .string v.node, .int .i64 v.epoch] 41)) = u0 at *
  generalize hvb : w.heap.size + 1 = bv at HV0 ⊢
  generalize hbb : w.heap.size = bc at HL0 HX0 ⊢
  cases t1 : decide (65536 < (nm.size : Int))
  rotate_left
  · have E2 : Hid (V = 2) := HE.out.trans (if_pos (of_decide_eq_true t1))
    rw [t1] at HTL
    clear HE t1
    go_wp2_with (go_at_call 33; refine Calls.mono (HTL.out _) ?_; rintro e u1 ⟨rfl, rfl⟩)
    go_ret
    exact ⟨ret_int E2.out.symm, hbb ▸ HL0.out.bel⟩
  have HE1 : Hid (V = if R = false then 1 else if VB = false then 1 else MY) := HE.out.trans (if_neg (of_decide_eq_false t1))
  have HMY1 : Hid (R = true → VB = true → HC = MY) := fun h1 h2 => HMY.out h1 h2 (of_decide_eq_false t1)
  rw [t1] at HTL
  clear HE t1 HMY
  go_upto_region 3 with (go_at_call 33; refine Calls.mono (HTL.out _) ?_; rintro e u1 ⟨rfl, rfl⟩)
  clear HTL
  have v0 := HV0.out.cel 0 _ rfl
  have v1 := HV0.out.cel 1 _ rfl
  have v2 := HV0.out.cel 2 _ rfl
  have v3 := HV0.out.cel 3 _ rfl
  have v4 := HV0.out.cel 4 _ rfl
  have v5 := HV0.out.cel 5 _ rfl
  have v6 := HV0.out.cel 6 _ rfl
  have v7 := HV0.out.cel 7 _ rfl
  have vl := HV0.out.lt
  have k0 := HL0.out.cel 0 _ rfl
  have k1 := HL0.out.cel 1 _ rfl
  have k2 := HL0.out.cel 2 _ rfl
  have k3 := HL0.out.cel 3 _ rfl
  have k4 := HL0.out.cel 4 _ rfl
  have kl := HL0.out.lt
  cases R
  · have E2 : Hid (V = 1) := HE1.out
    clear HE1
    go_wp2_with (go_at_call 28; refine Calls.mono (HIR.out _ _ HX0.out) ?_; rintro e u2 ⟨rfl, hb⟩)
    go_ret
    exact ⟨ret_int E2.out.symm, hbb ▸ (HL0.out.step hb).bel⟩
  cases VB
  · have E2 : Hid (V = 1) := HE1.out
    clear HE1
    go_wp2_with (first | (go_at_call 28; refine Calls.mono (HIR.out _ _ HX0.out) ?_; rintro e u2 ⟨rfl, hb⟩; have HL2 : Hid (LG w u2 bc #[.slice an s.nodes.length kn, .slice av s.vms.length kv, .slice ae s.tenants.length ke, .int .i64 s.over, .int .i64 s.time] 33) := HL0.out.step hb; have HV2 : Hid (LG w u2 bv #[.string v.name, .int .i64 v.tenant, .int .i64 v.cpu, .int .i64 v.mem, .int .i64 v.zone, .int .i64 v.apart, .string v.node, .int .i64 v.epoch] 41) := HV0.out.step hb; have HX2 : Hid (CX u2 bc s ⟨.slice an s.nodes.length kn, .slice av s.vms.length kv, .slice ae s.tenants.length ke⟩) := HX0.out.below hb; clear hb; have p2 := HL2.out.cel 2 _ rfl; have pl := HL2.out.lt; have y0 := HV2.out.cel 0 _ rfl; have y1 := HV2.out.cel 1 _ rfl; have y2 := HV2.out.cel 2 _ rfl; have y3 := HV2.out.cel 3 _ rfl; have y4 := HV2.out.cel 4 _ rfl; have y5 := HV2.out.cel 5 _ rfl; have y6 := HV2.out.cel 6 _ rfl; have y7 := HV2.out.cel 7 _ rfl; have yl := HV2.out.lt) | (go_at_call 34; refine Calls.mono (HIO.out _) ?_; rintro e u3 ⟨rfl, hb⟩; have HL3 : Hid (LG w u3 bc #[.slice an s.nodes.length kn, .slice av s.vms.length kv, .slice ae s.tenants.length ke, .int .i64 s.over, .int .i64 s.time] 33) := HL2.out.step hb; have HV3 : Hid (LG w u3 bv #[.string v.name, .int .i64 v.tenant, .int .i64 v.cpu, .int .i64 v.mem, .int .i64 v.zone, .int .i64 v.apart, .string v.node, .int .i64 v.epoch] 41) := HV2.out.step hb; have HX3 : Hid (CX u3 bc s ⟨.slice an s.nodes.length kn, .slice av s.vms.length kv, .slice ae s.tenants.length ke⟩) := HX2.out.below hb; clear hb))
    go_ret
    exact ⟨ret_int E2.out.symm, hbb ▸ HL3.out.bel⟩
  have E2 : Hid (V = HC) := (show V = HC by rw [HMY1.out rfl rfl]; exact HE1.out)
  clear HE1 HMY1
  go_upto_region 5 with (first | (go_at_call 28; refine Calls.mono (HIR.out _ _ HX0.out) ?_; rintro e u2 ⟨rfl, hb⟩; have HL2 : Hid (LG w u2 bc #[.slice an s.nodes.length kn, .slice av s.vms.length kv, .slice ae s.tenants.length ke, .int .i64 s.over, .int .i64 s.time] 33) := HL0.out.step hb; have HV2 : Hid (LG w u2 bv #[.string v.name, .int .i64 v.tenant, .int .i64 v.cpu, .int .i64 v.mem, .int .i64 v.zone, .int .i64 v.apart, .string v.node, .int .i64 v.epoch] 41) := HV0.out.step hb; have HX2 : Hid (CX u2 bc s ⟨.slice an s.nodes.length kn, .slice av s.vms.length kv, .slice ae s.tenants.length ke⟩) := HX0.out.below hb; clear hb; have p2 := HL2.out.cel 2 _ rfl; have pl := HL2.out.lt; have y0 := HV2.out.cel 0 _ rfl; have y1 := HV2.out.cel 1 _ rfl; have y2 := HV2.out.cel 2 _ rfl; have y3 := HV2.out.cel 3 _ rfl; have y4 := HV2.out.cel 4 _ rfl; have y5 := HV2.out.cel 5 _ rfl; have y6 := HV2.out.cel 6 _ rfl; have y7 := HV2.out.cel 7 _ rfl; have yl := HV2.out.lt) | (go_at_call 34; refine Calls.mono (HIO.out _) ?_; rintro e u3 ⟨rfl, hb⟩; have HL3 : Hid (LG w u3 bc #[.slice an s.nodes.length kn, .slice av s.vms.length kv, .slice ae s.tenants.length ke, .int .i64 s.over, .int .i64 s.time] 33) := HL2.out.step hb; have HV3 : Hid (LG w u3 bv #[.string v.name, .int .i64 v.tenant, .int .i64 v.cpu, .int .i64 v.mem, .int .i64 v.zone, .int .i64 v.apart, .string v.node, .int .i64 v.epoch] 41) := HV2.out.step hb; have HX3 : Hid (CX u3 bc s ⟨.slice an s.nodes.length kn, .slice av s.vms.length kv, .slice ae s.tenants.length ke⟩) := HX2.out.below hb; clear hb))
  clear p2 pl y0 y1 y2 y3 y4 y5 y6 y7 yl HL0 HV0 HX0 HL2 HV2 HX2 k0 k1 k2 k3 k4 kl v0 v1 v2 v3 v4 v5 v6 v7 vl
  have HSB : Hid ((fun w' => (LG w w' bc #[.slice an s.nodes.length kn, .slice av s.vms.length kv, .slice ae s.tenants.length ke, .int .i64 s.over, .int .i64 s.time] 33) ∧ LG w w' bv #[.string v.name, .int .i64 v.tenant, .int .i64 v.cpu, .int .i64 v.mem, .int .i64 v.zone, .int .i64 v.apart, .string v.node, .int .i64 v.epoch] 41 ∧ CLRows w' s ⟨.slice an s.nodes.length kn, .slice av s.vms.length kv, .slice ae s.tenants.length ke⟩) u3.drew) := ⟨HL3.out.drew, HV3.out.drew, HX3.out.rows.below ⟨rfl, rfl, rfl, Nat.le_refl _, fun _ _ => rfl⟩⟩
  refine wp_region_held (S := fun w' => (LG w w' bc #[.slice an s.nodes.length kn, .slice av s.vms.length kv, .slice ae s.tenants.length ke, .int .i64 s.over, .int .i64 s.time] 33) ∧ LG w w' bv #[.string v.name, .int .i64 v.tenant, .int .i64 v.cpu, .int .i64 v.mem, .int .i64 v.zone, .int .i64 v.apart, .string v.node, .int .i64 v.epoch] 41 ∧ CLRows w' s ⟨.slice an s.nodes.length kn, .slice av s.vms.length kv, .slice ae s.tenants.length ke⟩) (by kernel_rfl) ?_
  change wpAnyH _ _ _ _ _ _ _ _ (World.drew _)
  refine wpAnyH_take (i := 0) (v := .agg #[.slice an s.nodes.length kn, .slice av s.vms.length kv, .slice ae s.tenants.length ke, .int .i64 s.over, .int .i64 s.time]) rfl (by kernel_rfl) (by kernel_rfl) (by kernel_rfl) (fun _ _ _ h => h) (Or.inl ⟨by kernel_rfl, fun w9 h9 => ?_⟩) HSB.out ?_
  · obtain ⟨hlg, hvg, _⟩ := h9; have z0 := hlg.cel 0 _ rfl; have z1 := hlg.cel 1 _ rfl; have z2 := hlg.cel 2 _ rfl; have z3 := hlg.cel 3 _ rfl; have z4 := hlg.cel 4 _ rfl; have y0 := hvg.cel 0 _ rfl; have y1 := hvg.cel 1 _ rfl; have y2 := hvg.cel 2 _ rfl; have y3 := hvg.cel 3 _ rfl; have y4 := hvg.cel 4 _ rfl; have y5 := hvg.cel 5 _ rfl; have y6 := hvg.cel 6 _ rfl; have y7 := hvg.cel 7 _ rfl; go_simp
  refine wpAnyH_take (i := 2) (v := .string nm) rfl (by kernel_rfl) (by kernel_rfl) (by kernel_rfl) (fun _ _ _ h => h) (Or.inl ⟨by kernel_rfl, fun w9 h9 => ?_⟩) HSB.out ?_
  · go_simp
  refine wpAnyH_take (i := 3) (v := .agg #[.string v.name, .int .i64 v.tenant, .int .i64 v.cpu, .int .i64 v.mem, .int .i64 v.zone, .int .i64 v.apart, .string v.node, .int .i64 v.epoch]) rfl (by kernel_rfl) (by kernel_rfl) (by kernel_rfl) (fun _ _ _ h => h) (Or.inl ⟨by kernel_rfl, fun w9 h9 => ?_⟩) HSB.out ?_
  · obtain ⟨hlg, hvg, _⟩ := h9; have z0 := hlg.cel 0 _ rfl; have z1 := hlg.cel 1 _ rfl; have z2 := hlg.cel 2 _ rfl; have z3 := hlg.cel 3 _ rfl; have z4 := hlg.cel 4 _ rfl; have y0 := hvg.cel 0 _ rfl; have y1 := hvg.cel 1 _ rfl; have y2 := hvg.cel 2 _ rfl; have y3 := hvg.cel 3 _ rfl; have y4 := hvg.cel 4 _ rfl; have y5 := hvg.cel 5 _ rfl; have y6 := hvg.cel 6 _ rfl; have y7 := hvg.cel 7 _ rfl; go_simp
  refine held_one 1 (by kernel_rfl) rfl (by kernel_rfl) fun K hK => ?_
  go_simp
  go_wp2_with (go_at_call 35; refine Calls.mono (HNR.out _ HSB.out.2.2) ?_; rintro e w1 ⟨r, a2, cb, rfl, hrx, hb1⟩; have HRX : Hid (RX w1 r s a2 cb (cnL s)) := hrx; have HS1 : Hid ((fun w' => (LG w w' bc #[.slice an s.nodes.length kn, .slice av s.vms.length kv, .slice ae s.tenants.length ke, .int .i64 s.over, .int .i64 s.time] 33) ∧ LG w w' bv #[.string v.name, .int .i64 v.tenant, .int .i64 v.cpu, .int .i64 v.mem, .int .i64 v.zone, .int .i64 v.apart, .string v.node, .int .i64 v.epoch] 41 ∧ CLRows w' s ⟨.slice an s.nodes.length kn, .slice av s.vms.length kv, .slice ae s.tenants.length ke⟩) w1) := ⟨HSB.out.1.step hb1, HSB.out.2.1.step hb1, HSB.out.2.2.below hb1⟩; clear hb1 hrx)
  refine hK _ _ HS1.out ?_
  clear hK K
  refine held_one 4 (by kernel_rfl) rfl (by kernel_rfl) fun K hK => ?_
  go_simp
  go_wp2_with (go_at_call 36; refine Calls.mono (HHC.out _ _ _ _ HRX.out) ?_; rintro e w2 ⟨rfl, hb1⟩; have HS2 : Hid ((fun w' => (LG w w' bc #[.slice an s.nodes.length kn, .slice av s.vms.length kv, .slice ae s.tenants.length ke, .int .i64 s.over, .int .i64 s.time] 33) ∧ LG w w' bv #[.string v.name, .int .i64 v.tenant, .int .i64 v.cpu, .int .i64 v.mem, .int .i64 v.zone, .int .i64 v.apart, .string v.node, .int .i64 v.epoch] 41 ∧ CLRows w' s ⟨.slice an s.nodes.length kn, .slice av s.vms.length kv, .slice ae s.tenants.length ke⟩) w2) := ⟨HS1.out.1.step hb1, HS1.out.2.1.step hb1, HS1.out.2.2.below hb1⟩; clear hb1)
  refine hK _ _ HS2.out ?_
  clear hK K
  refine wpAnyH_take (i := 5) (v := .int .i64 HC) rfl (by kernel_rfl) (by kernel_rfl) (by kernel_rfl) (fun _ _ _ h => h) (Or.inl ⟨by kernel_rfl, fun w9 h9 => ?_⟩) HS2.out ?_
  · go_simp
  refine wpAnyH_done (by kernel_rfl) ?_ _
  go_simp
  go_wp2
  go_ret
  exact ⟨ret_int E2.out.symm, hbb ▸ HS2.out.1.bel⟩

set_option maxRecDepth 100000 in
set_option maxHeartbeats 4000000 in
theorem l22May_any {w : World} {s : CL} {a : CA} (h : CLRows w s a) (hl : CLlen s) (nm : ByteArray) (v : VMC) : Calls Try.prog 32 #[clA s a, .string nm, .agg #[.string v.name, .int .i64 v.tenant, .int .i64 v.cpu, .int .i64 v.mem, .int .i64 v.zone, .int .i64 v.apart, .string v.node, .int .i64 v.epoch]] w fun e w' => e = .returned (.int .i64 (myV s nm v)) ∧ Below w.heap.size w w' := by
  have HND : Hid (∀ u, Aft w u → Calls Try.prog 22 #[clA s a, .string nm] u fun e w' => e = .returned (.int .i64 (ndX s nm)) ∧ Below u.heap.size u w') := fun u hu => l22Node_any (h.below hu.out) hl.lnodes.1 nm
  have HHO : Hid (∀ u q, Aft w u → q < s.nodes.length → Calls Try.prog 23 #[clA s a, .int .i64 (q : Nat), .agg #[.string v.name, .int .i64 v.tenant, .int .i64 v.cpu, .int .i64 v.mem, .int .i64 v.zone, .int .i64 v.apart, .string v.node, .int .i64 v.epoch]] u fun e w' => e = .returned (.int .i64 (hlV s q v)) ∧ Below u.heap.size u w') := fun u q hu hq => l22Hold_any (h.below hu.out) hl.lvms.1 q hq v
  obtain ⟨an, kn, av, kv, ae, ke, e⟩ := h.sl
  subst e
  have HRN : Hid (NODrow w (.slice an s.nodes.length kn) s.nodes) := h.rnodes
  clear h hl
  have HL0 : Hid (LG w ((w.alloc (.cells #[.slice an s.nodes.length kn, .slice av s.vms.length kv, .slice ae s.tenants.length ke, .int .i64 s.over, .int .i64 s.time] 33)).alloc (.cells #[.string v.name, .int .i64 v.tenant, .int .i64 v.cpu, .int .i64 v.mem, .int .i64 v.zone, .int .i64 v.apart, .string v.node, .int .i64 v.epoch] 41)) w.heap.size #[.slice an s.nodes.length kn, .slice av s.vms.length kv, .slice ae s.tenants.length ke, .int .i64 s.over, .int .i64 s.time] 33) := (LG.new w _ _).next
  have HV0 : Hid (LG w ((w.alloc (.cells #[.slice an s.nodes.length kn, .slice av s.vms.length kv, .slice ae s.tenants.length ke, .int .i64 s.over, .int .i64 s.time] 33)).alloc (.cells #[.string v.name, .int .i64 v.tenant, .int .i64 v.cpu, .int .i64 v.mem, .int .i64 v.zone, .int .i64 v.apart, .string v.node, .int .i64 v.epoch] 41)) (w.heap.size + 1) #[.string v.name, .int .i64 v.tenant, .int .i64 v.cpu, .int .i64 v.mem, .int .i64 v.zone, .int .i64 v.apart, .string v.node, .int .i64 v.epoch] 41) := (LG.mk2 (LG.new w _ _).bel).cast (by simp)
  have HE : Hid (myV s nm v = if ndX s nm < 0 then 5 else if opnB (ndA s (ndX s nm).toNat) = false then 6 else hlV s (ndX s nm).toNat v) := rfl
  unfold clA clC at HND HHO
  unfold clA clC
  simp only at HND HHO ⊢
  generalize myV s nm v = V at *
  go_enter Try.func32, Try.ntmps32
  go_upto_region 1 with fail
  generalize ((w.alloc (.cells #[.slice an s.nodes.length kn, .slice av s.vms.length kv, .slice ae s.tenants.length ke, .int .i64 s.over, .int .i64 s.time] 33)).alloc (.cells #[.string v.name, .int .i64 v.tenant, .int .i64 v.cpu, .int .i64 v.mem, .int .i64 v.zone, .int .i64 v.apart, .string v.node, .int .i64 v.epoch] 41)) = u0 at *
  generalize hvb : w.heap.size + 1 = bv at HV0 ⊢
  generalize hbb : w.heap.size = bc at HL0 ⊢
  have k0 := HL0.out.cel 0 _ rfl
  have k1 := HL0.out.cel 1 _ rfl
  have k2 := HL0.out.cel 2 _ rfl
  have k3 := HL0.out.cel 3 _ rfl
  have k4 := HL0.out.cel 4 _ rfl
  have kl := HL0.out.lt
  have v0 := HV0.out.cel 0 _ rfl
  have v1 := HV0.out.cel 1 _ rfl
  have v2 := HV0.out.cel 2 _ rfl
  have v3 := HV0.out.cel 3 _ rfl
  have v4 := HV0.out.cel 4 _ rfl
  have v5 := HV0.out.cel 5 _ rfl
  have v6 := HV0.out.cel 6 _ rfl
  have v7 := HV0.out.cel 7 _ rfl
  have vl := HV0.out.lt
  go_upto_region 2 with (go_at_call 22; refine Calls.mono (HND.out _ HL0.out.aft) ?_; rintro e w1 ⟨rfl, hb⟩)
  have HL1 : Hid (LG w w1 bc #[.slice an s.nodes.length kn, .slice av s.vms.length kv, .slice ae s.tenants.length ke, .int .i64 s.over, .int .i64 s.time] 33) := HL0.out.step hb
  have HV1 : Hid (LG w w1 bv #[.string v.name, .int .i64 v.tenant, .int .i64 v.cpu, .int .i64 v.mem, .int .i64 v.zone, .int .i64 v.apart, .string v.node, .int .i64 v.epoch] 41) := HV0.out.step hb
  clear hb HL0 HV0 HND k0 k1 k2 k3 k4 kl v0 v1 v2 v3 v4 v5 v6 v7 vl
  have k0 := HL1.out.cel 0 _ rfl
  have k1 := HL1.out.cel 1 _ rfl
  have k2 := HL1.out.cel 2 _ rfl
  have k3 := HL1.out.cel 3 _ rfl
  have k4 := HL1.out.cel 4 _ rfl
  have kl := HL1.out.lt
  have v0 := HV1.out.cel 0 _ rfl
  have v1 := HV1.out.cel 1 _ rfl
  have v2 := HV1.out.cel 2 _ rfl
  have v3 := HV1.out.cel 3 _ rfl
  have v4 := HV1.out.cel 4 _ rfl
  have v5 := HV1.out.cel 5 _ rfl
  have v6 := HV1.out.cel 6 _ rfl
  have v7 := HV1.out.cel 7 _ rfl
  have vl := HV1.out.lt
  rcases ndX_or s nm with ⟨hx, _⟩ | ⟨q, hq, hx, _⟩
  · have E2 : Hid (V = 5) := HE.out.trans (if_pos (by rw [hx]; decide))
    clear HE HHO
    rw [hx]
    clear hx
    go_wp2
    go_ret
    exact ⟨ret_int E2.out.symm, hbb ▸ HL1.out.bel⟩
  have HE2 : Hid (V = if opnB s.nodes[q] = false then 6 else hlV s q v) := (show V = _ by rw [HE.out, hx, if_neg (by omega), show ((q : Int).toNat) = q from rfl, ndA_at hq])
  have HH : Hid (∀ u, Aft w u → Calls Try.prog 23 #[.agg #[.slice an s.nodes.length kn, .slice av s.vms.length kv, .slice ae s.tenants.length ke, .int .i64 s.over, .int .i64 s.time], .int .i64 (q : Int), .agg #[.string v.name, .int .i64 v.tenant, .int .i64 v.cpu, .int .i64 v.mem, .int .i64 v.zone, .int .i64 v.apart, .string v.node, .int .i64 v.epoch]] u fun e w' => e = .returned (.int .i64 (hlV s q v)) ∧ Below u.heap.size u w') := fun u hu => HHO.out u q hu hq
  rw [hx]
  clear hx HE HHO
  have hq0 : (0 : Int) ≤ (q : Int) := by omega
  have hq1 : (q : Int) < (s.nodes.length : Int) := by omega
  have hq2 : decide ((q : Int) < 0) = false := decide_eq_false (by omega)
  have HOP : Hid (∀ u, Calls Try.prog 53 #[.agg #[.string s.nodes[q].name, .int .i64 s.nodes[q].cpu, .int .i64 s.nodes[q].mem, .int .i64 s.nodes[q].zone, .int .i64 s.nodes[q].beat, .bool s.nodes[q].fenced, .bool s.nodes[q].closed]] u fun e w' => e = .returned (.bool (opnB s.nodes[q])) ∧ Below u.heap.size u w') := fun u => l22Open_any _ u
  obtain ⟨g, o, cap2, hv, _, hg, hc⟩ := HRN.out.resolve_left (fun h => by rw [h.1] at hq; simp at hq)
  injection hv with hv1 hv2 hv3
  subst hv1 hv3
  obtain ⟨d0, d1, d2, d3, d4, d5, d6⟩ := hc.below HL1.out.bel hg q hq
  have hgw : g < w1.heap.size := Nat.lt_of_lt_of_le hg HL1.out.bel.size
  clear hc HRN
  generalize s.nodes[q] = n at *
  generalize opnB n = O at *
  generalize hlV s q v = FV at *
  cases O
  · have E2 : Hid (V = 6) := HE2.out
    clear HE2 HH
    go_wp2_with (go_at_call 53; refine Calls.mono (HOP.out _) ?_; rintro e w2 ⟨rfl, hb⟩)
    go_ret
    exact ⟨ret_int E2.out.symm, hbb ▸ (HL1.out.step hb).bel⟩
  · have E2 : Hid (V = FV) := HE2.out
    clear HE2
    go_upto_region 6 with (go_at_call 53; refine Calls.mono (HOP.out _) ?_; rintro e w2 ⟨rfl, hb⟩)
    have HL2 : Hid (LG w w2 bc #[.slice (some ⟨g, o, none⟩) s.nodes.length kn, .slice av s.vms.length kv, .slice ae s.tenants.length ke, .int .i64 s.over, .int .i64 s.time] 33) := HL1.out.step hb
    have HV2 : Hid (LG w w2 bv #[.string v.name, .int .i64 v.tenant, .int .i64 v.cpu, .int .i64 v.mem, .int .i64 v.zone, .int .i64 v.apart, .string v.node, .int .i64 v.epoch] 41) := HV1.out.step hb
    clear hb HL1 HV1 HOP d0 d1 d2 d3 d4 d5 d6 hgw k0 k1 k2 k3 k4 kl v0 v1 v2 v3 v4 v5 v6 v7 vl
    have k0 := HL2.out.cel 0 _ rfl
    have k1 := HL2.out.cel 1 _ rfl
    have k2 := HL2.out.cel 2 _ rfl
    have k3 := HL2.out.cel 3 _ rfl
    have k4 := HL2.out.cel 4 _ rfl
    have kl := HL2.out.lt
    have v0 := HV2.out.cel 0 _ rfl
    have v1 := HV2.out.cel 1 _ rfl
    have v2 := HV2.out.cel 2 _ rfl
    have v3 := HV2.out.cel 3 _ rfl
    have v4 := HV2.out.cel 4 _ rfl
    have v5 := HV2.out.cel 5 _ rfl
    have v6 := HV2.out.cel 6 _ rfl
    have v7 := HV2.out.cel 7 _ rfl
    have vl := HV2.out.lt
    go_wp2_with (go_at_call 23; refine Calls.mono (HH.out _ HL2.out.aft) ?_; rintro e w3 ⟨rfl, hb⟩)
    go_ret
    exact ⟨ret_int E2.out.symm, hbb ▸ (HL2.out.step hb).bel⟩
set_option maxRecDepth 100000 in
set_option maxHeartbeats 4000000 in
theorem specMH_any {w : World} {s : CL} {a : CA} (h : CLRows w s a) (hl : CLlen s) (nm : ByteArray) (v : VMC) : Calls Try.prog 12 #[clA s a, .string nm, .agg #[.string v.name, .int .i64 v.tenant, .int .i64 v.cpu, .int .i64 v.mem, .int .i64 v.zone, .int .i64 v.apart, .string v.node, .int .i64 v.epoch]] w fun e w' => e = .returned (.int .i64 (mhV s nm v)) ∧ Below w.heap.size w w' := by
  have HCF : Hid (∀ u, Aft w u → Calls Try.prog 7 #[clA s a] u fun e w' => e = .returned (.int .i64 (cfV s)) ∧ Below u.heap.size u w') := fun u hu => specCF_any (h.below hu.out) hl
  have HMY : Hid (∀ u, Aft w u → Calls Try.prog 32 #[clA s a, .string nm, .agg #[.string v.name, .int .i64 v.tenant, .int .i64 v.cpu, .int .i64 v.mem, .int .i64 v.zone, .int .i64 v.apart, .string v.node, .int .i64 v.epoch]] u fun e w' => e = .returned (.int .i64 (myV s nm v)) ∧ Below u.heap.size u w') := fun u hu => l22May_any (h.below hu.out) hl nm v
  have HIV : Hid (∀ u, Calls Try.prog 21 #[.agg #[.string v.name, .int .i64 v.tenant, .int .i64 v.cpu, .int .i64 v.mem, .int .i64 v.zone, .int .i64 v.apart, .string v.node, .int .i64 v.epoch], .int .i64 (s.tenants.length : Nat)] u fun e w' => e = .returned (.bool (vmB s.tenants.length v)) ∧ Below u.heap.size u w') := fun u => l22IsVm_any v _ u
  obtain ⟨an, kn, av, kv, ae, ke, e⟩ := h.sl
  subst e
  clear h hl
  have HL0 : Hid (LG w ((w.alloc (.cells #[.slice an s.nodes.length kn, .slice av s.vms.length kv, .slice ae s.tenants.length ke, .int .i64 s.over, .int .i64 s.time] 33)).alloc (.cells #[.string v.name, .int .i64 v.tenant, .int .i64 v.cpu, .int .i64 v.mem, .int .i64 v.zone, .int .i64 v.apart, .string v.node, .int .i64 v.epoch] 41)) w.heap.size #[.slice an s.nodes.length kn, .slice av s.vms.length kv, .slice ae s.tenants.length ke, .int .i64 s.over, .int .i64 s.time] 33) := (LG.new w _ _).next
  have HV0 : Hid (LG w ((w.alloc (.cells #[.slice an s.nodes.length kn, .slice av s.vms.length kv, .slice ae s.tenants.length ke, .int .i64 s.over, .int .i64 s.time] 33)).alloc (.cells #[.string v.name, .int .i64 v.tenant, .int .i64 v.cpu, .int .i64 v.mem, .int .i64 v.zone, .int .i64 v.apart, .string v.node, .int .i64 v.epoch] 41)) (w.heap.size + 1) #[.string v.name, .int .i64 v.tenant, .int .i64 v.cpu, .int .i64 v.mem, .int .i64 v.zone, .int .i64 v.apart, .string v.node, .int .i64 v.epoch] 41) := (LG.mk2 (LG.new w _ _).bel).cast (by simp)
  have HE : Hid (mhV s nm v = if 65536 < (nm.size : Int) then 2 else if cfB s = false then 1 else if vmB s.tenants.length v = false then 1 else myV s nm v) := rfl
  have HC0 : Hid (cfV s = if cfB s = true then 0 else 1) := rfl
  unfold clA clC at HCF HMY
  unfold clA clC
  simp only at HCF HMY ⊢
  generalize mhV s nm v = V at *
  generalize myV s nm v = MY at *
  generalize cfV s = CV at *
  generalize cfB s = R at *
  generalize vmB s.tenants.length v = VB at *
  go_enter Try.func12, Try.ntmps12
  go_upto_region 1 with fail
  generalize ((w.alloc (.cells #[.slice an s.nodes.length kn, .slice av s.vms.length kv, .slice ae s.tenants.length ke, .int .i64 s.over, .int .i64 s.time] 33)).alloc (.cells #[.string v.name, .int .i64 v.tenant, .int .i64 v.cpu, .int .i64 v.mem, .int .i64 v.zone, .int .i64 v.apart, .string v.node, .int .i64 v.epoch] 41)) = u0 at *
  generalize hvb : w.heap.size + 1 = bv at HV0 ⊢
  generalize hbb : w.heap.size = bc at HL0 ⊢
  cases t1 : decide (65536 < (nm.size : Int))
  rotate_left
  · have E2 : Hid (V = 2) := HE.out.trans (if_pos (of_decide_eq_true t1))
    clear HE
    go_wp2
    go_ret
    exact ⟨ret_int E2.out.symm, hbb ▸ HL0.out.bel⟩
  have HE1 : Hid (V = if R = false then 1 else if VB = false then 1 else MY) := HE.out.trans (if_neg (of_decide_eq_false t1))
  clear HE
  have k0 := HL0.out.cel 0 _ rfl
  have k1 := HL0.out.cel 1 _ rfl
  have k2 := HL0.out.cel 2 _ rfl
  have k3 := HL0.out.cel 3 _ rfl
  have k4 := HL0.out.cel 4 _ rfl
  have kl := HL0.out.lt
  have v0 := HV0.out.cel 0 _ rfl
  have v1 := HV0.out.cel 1 _ rfl
  have v2 := HV0.out.cel 2 _ rfl
  have v3 := HV0.out.cel 3 _ rfl
  have v4 := HV0.out.cel 4 _ rfl
  have v5 := HV0.out.cel 5 _ rfl
  have v6 := HV0.out.cel 6 _ rfl
  have v7 := HV0.out.cel 7 _ rfl
  have vl := HV0.out.lt
  cases R
  · have E2 : Hid (V = 1) := HE1.out
    have hcv : CV = 1 := HC0.out
    subst hcv
    clear HE1 HC0
    go_wp2_with (go_at_call 7; refine Calls.mono (HCF.out _ HL0.out.aft) ?_; rintro e w1 ⟨rfl, hb⟩)
    go_ret
    exact ⟨ret_int E2.out.symm, hbb ▸ (HL0.out.step hb).bel⟩
  have hcv : CV = 0 := HC0.out
  subst hcv
  clear HC0
  cases VB
  · have E2 : Hid (V = 1) := HE1.out
    clear HE1
    go_wp2_with (first | (go_at_call 7; refine Calls.mono (HCF.out _ HL0.out.aft) ?_; rintro e w1 ⟨rfl, hb⟩; have HL1 : Hid (LG w w1 bc #[.slice an s.nodes.length kn, .slice av s.vms.length kv, .slice ae s.tenants.length ke, .int .i64 s.over, .int .i64 s.time] 33) := HL0.out.step hb; have HV1 : Hid (LG w w1 bv #[.string v.name, .int .i64 v.tenant, .int .i64 v.cpu, .int .i64 v.mem, .int .i64 v.zone, .int .i64 v.apart, .string v.node, .int .i64 v.epoch] 41) := HV0.out.step hb; clear hb; have p2 := HL1.out.cel 2 _ rfl; have pl := HL1.out.lt; have y0 := HV1.out.cel 0 _ rfl; have y1 := HV1.out.cel 1 _ rfl; have y2 := HV1.out.cel 2 _ rfl; have y3 := HV1.out.cel 3 _ rfl; have y4 := HV1.out.cel 4 _ rfl; have y5 := HV1.out.cel 5 _ rfl; have y6 := HV1.out.cel 6 _ rfl; have y7 := HV1.out.cel 7 _ rfl; have yl := HV1.out.lt) | (go_at_call 21; refine Calls.mono (HIV.out _) ?_; rintro e w2 ⟨rfl, hb⟩; have HL2 : Hid (LG w w2 bc #[.slice an s.nodes.length kn, .slice av s.vms.length kv, .slice ae s.tenants.length ke, .int .i64 s.over, .int .i64 s.time] 33) := HL1.out.step hb; have HV2 : Hid (LG w w2 bv #[.string v.name, .int .i64 v.tenant, .int .i64 v.cpu, .int .i64 v.mem, .int .i64 v.zone, .int .i64 v.apart, .string v.node, .int .i64 v.epoch] 41) := HV1.out.step hb; clear hb))
    go_ret
    exact ⟨ret_int E2.out.symm, hbb ▸ HL2.out.bel⟩
  have E2 : Hid (V = MY) := HE1.out
  clear HE1
  go_upto_region 5 with (first | (go_at_call 7; refine Calls.mono (HCF.out _ HL0.out.aft) ?_; rintro e w1 ⟨rfl, hb⟩; have HL1 : Hid (LG w w1 bc #[.slice an s.nodes.length kn, .slice av s.vms.length kv, .slice ae s.tenants.length ke, .int .i64 s.over, .int .i64 s.time] 33) := HL0.out.step hb; have HV1 : Hid (LG w w1 bv #[.string v.name, .int .i64 v.tenant, .int .i64 v.cpu, .int .i64 v.mem, .int .i64 v.zone, .int .i64 v.apart, .string v.node, .int .i64 v.epoch] 41) := HV0.out.step hb; clear hb; have p2 := HL1.out.cel 2 _ rfl; have pl := HL1.out.lt; have y0 := HV1.out.cel 0 _ rfl; have y1 := HV1.out.cel 1 _ rfl; have y2 := HV1.out.cel 2 _ rfl; have y3 := HV1.out.cel 3 _ rfl; have y4 := HV1.out.cel 4 _ rfl; have y5 := HV1.out.cel 5 _ rfl; have y6 := HV1.out.cel 6 _ rfl; have y7 := HV1.out.cel 7 _ rfl; have yl := HV1.out.lt) | (go_at_call 21; refine Calls.mono (HIV.out _) ?_; rintro e w2 ⟨rfl, hb⟩; have HL2 : Hid (LG w w2 bc #[.slice an s.nodes.length kn, .slice av s.vms.length kv, .slice ae s.tenants.length ke, .int .i64 s.over, .int .i64 s.time] 33) := HL1.out.step hb; have HV2 : Hid (LG w w2 bv #[.string v.name, .int .i64 v.tenant, .int .i64 v.cpu, .int .i64 v.mem, .int .i64 v.zone, .int .i64 v.apart, .string v.node, .int .i64 v.epoch] 41) := HV1.out.step hb; clear hb))
  clear HL0 HV0 HL1 HV1 k0 k1 k2 k3 k4 kl v0 v1 v2 v3 v4 v5 v6 v7 vl p2 pl y0 y1 y2 y3 y4 y5 y6 y7 yl
  have k0 := HL2.out.cel 0 _ rfl
  have k1 := HL2.out.cel 1 _ rfl
  have k2 := HL2.out.cel 2 _ rfl
  have k3 := HL2.out.cel 3 _ rfl
  have k4 := HL2.out.cel 4 _ rfl
  have kl := HL2.out.lt
  have v0 := HV2.out.cel 0 _ rfl
  have v1 := HV2.out.cel 1 _ rfl
  have v2 := HV2.out.cel 2 _ rfl
  have v3 := HV2.out.cel 3 _ rfl
  have v4 := HV2.out.cel 4 _ rfl
  have v5 := HV2.out.cel 5 _ rfl
  have v6 := HV2.out.cel 6 _ rfl
  have v7 := HV2.out.cel 7 _ rfl
  have vl := HV2.out.lt
  go_wp2_with (go_at_call 32; refine Calls.mono (HMY.out _ HL2.out.aft) ?_; rintro e w3 ⟨rfl, hb⟩)
  go_ret
  exact ⟨ret_int E2.out.symm, hbb ▸ (HL2.out.step hb).bel⟩
end Go.Proofs.Ytkmbhhkgfofcoaa
