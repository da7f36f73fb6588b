import Derived.Test.YtkmbhhkgfofcoaaCr4
namespace Go.Proofs.Ytkmbhhkgfofcoaa
open Go.ChangeShapes Go.WideShapes Go.ChangeAt Go.RowKit

def mtB (s : CL) (k : Nat) (v x : VMC) : Bool := onB s k v.name x && decide (x.tenant = v.tenant) && decide (x.apart = v.apart)
theorem cfl_any (s : CL) (k : Nat) (v : VMC) : s.vms.any (cfl s k v) = (decide (v.apart ≠ 0) && s.vms.any (mtB s k v)) := by
  cases h : decide (v.apart ≠ 0)
  · rw [Bool.false_and, List.any_eq_false]
    intro x _
    simp [cfl, h]
  · rw [Bool.true_and]
    congr 1
    funext x
    simp [cfl, mtB, h]
set_option maxRecDepth 100000 in
set_option maxHeartbeats 4000000 in
theorem meetsF_any {w u : World} {p q t r : Nat} {s : CL} {a : CA} {cb : Nat} {cs : List (Int × Int)} (h : RX u r s a cb cs) (k : Nat) (hk : k < s.nodes.length) (v x : VMC) (h1 : LG w u p #[.pointer (some ⟨r, 0, none⟩)] 66) (h2 : LG w u q #[.int .i64 k] 3) (h3 : LG w u t #[.string v.name, .int .i64 v.tenant, .int .i64 v.cpu, .int .i64 v.mem, .int .i64 v.zone, .int .i64 v.apart, .string v.node, .int .i64 v.epoch] 41) : Calls Try.prog 84 #[.agg #[.string x.name, .int .i64 x.tenant, .int .i64 x.cpu, .int .i64 x.mem, .int .i64 x.zone, .int .i64 x.apart, .string x.node, .int .i64 x.epoch], .pointer (some ⟨p, 0, none⟩), .pointer (some ⟨q, 0, none⟩), .pointer (some ⟨t, 0, none⟩)] u fun e w' => e = .returned (.bool (mtB s k v x)) ∧ Below u.heap.size u w' := by
  have HE : Hid (mtB s k v x = ((x.node.toList == s.nodes[k].name.toList) && !(x.name.toList == v.name.toList) && decide (x.tenant = v.tenant) && decide (x.apart = v.apart))) := by rw [← ndA_at hk]; exact rfl
  obtain ⟨gn, on, kn, en, hgn, hcn⟩ := h.nodeA hk
  have d0 := (hcn u (Below.refl _ _) k hk).1
  have c0 := h.cx.cel 0 a.vnodes rfl
  rw [en] at c0
  have rl := h.cx.lt
  have e0 := h1.cel 0 _ rfl
  have el := h1.lt
  have f0 := h2.cel 0 _ rfl
  have fl := h2.lt
  have g0 := h3.cel 0 _ rfl
  have g1 := h3.cel 1 _ rfl
  have g5 := h3.cel 5 _ rfl
  have gl := h3.lt
  have hk0 : (0 : Int) ≤ (k : Int) := by omega
  have hk1 : (k : Int) < (s.nodes.length : Int) := by omega
  have HB : Hid (Below u.heap.size u (u.alloc (.cells #[.string x.name, .int .i64 x.tenant, .int .i64 x.cpu, .int .i64 x.mem, .int .i64 x.zone, .int .i64 x.apart, .string x.node, .int .i64 x.epoch] 41))) := bx1 _ _
  clear h h1 h2 h3 hcn en
  generalize mtB s k v x = V at *
  generalize s.nodes[k] = n at *
  cases t1 : (x.node.toList == n.name.toList)
  · skip
    have E2 : Hid (V = false) := (show V = false by rw [HE.out, t1]; rfl)
    clear HE
    go_enter Try.func84, Try.ntmps84
    go_upto_region 1 with fail
    go_quiet (fail)
    go_wp2
    go_ret
    exact ⟨ret_bool E2.out.symm, bdn HB.out _⟩
  cases t2 : (x.name.toList == v.name.toList)
  rotate_left
  · skip
    have E2 : Hid (V = false) := (show V = false by rw [HE.out, t1, t2]; rfl)
    clear HE
    go_enter Try.func84, Try.ntmps84
    go_upto_region 1 with fail
    go_quiet (fail)
    go_wp2
    go_ret
    exact ⟨ret_bool E2.out.symm, bdn HB.out _⟩
  cases t3 : (x.tenant == v.tenant)
  · have T3 : Hid (decide (x.tenant = v.tenant) = false) := decide_eq_false (by simpa using t3)
    have E2 : Hid (V = false) := (show V = false by rw [HE.out, t1, t2, T3.out]; rfl)
    clear HE
    go_enter Try.func84, Try.ntmps84
    go_upto_region 1 with fail
    go_quiet (fail)
    go_wp2
    go_ret
    exact ⟨ret_bool E2.out.symm, bdn HB.out _⟩
  have T3 : Hid (decide (x.tenant = v.tenant) = true) := decide_eq_true (by simpa using t3)
  cases t4 : (x.apart == v.apart)
  · have T4 : Hid (decide (x.apart = v.apart) = false) := decide_eq_false (by simpa using t4)
    have E2 : Hid (V = false) := (show V = false by rw [HE.out, t1, t2, T3.out, T4.out]; rfl)
    clear HE
    go_enter Try.func84, Try.ntmps84
    go_upto_region 1 with fail
    go_quiet (fail)
    go_wp2
    go_ret
    exact ⟨ret_bool E2.out.symm, bdn HB.out _⟩
  have T4 : Hid (decide (x.apart = v.apart) = true) := decide_eq_true (by simpa using t4)
  have E2 : Hid (V = true) := (show V = true by rw [HE.out, t1, t2, T3.out, T4.out]; rfl)
  clear HE
  go_enter Try.func84, Try.ntmps84
  go_upto_region 1 with fail
  go_quiet (fail)
  go_wp2
  go_ret
  exact ⟨ret_bool E2.out.symm, bdn HB.out _⟩
set_option maxRecDepth 100000 in
set_option maxHeartbeats 4000000 in
theorem meets_any {w : World} {r : Nat} {s : CL} {a : CA} {cb : Nat} {cs : List (Int × Int)} (h : RX w r s a cb cs) (hl : s.vms.length ≤ 1048576) (k : Nat) (hk : k < s.nodes.length) (v : VMC) : Calls Try.prog 78 #[.pointer (some ⟨r, 0, none⟩), .int .i64 k, .agg #[.string v.name, .int .i64 v.tenant, .int .i64 v.cpu, .int .i64 v.mem, .int .i64 v.zone, .int .i64 v.apart, .string v.node, .int .i64 v.epoch]] w fun e w' => e = .returned (.bool (s.vms.any (cfl s k v))) ∧ Below w.heap.size w w' := by
  have HE : Hid (s.vms.any (cfl s k v) = (decide (v.apart ≠ 0) && s.vms.any (mtB s k v))) := cfl_any s k v
  have H1 : Hid (LG w (((w.alloc (.cells #[.pointer (some ⟨r, 0, none⟩)] 66)).alloc (.cells #[.int .i64 k] 3)).alloc (.cells #[.string v.name, .int .i64 v.tenant, .int .i64 v.cpu, .int .i64 v.mem, .int .i64 v.zone, .int .i64 v.apart, .string v.node, .int .i64 v.epoch] 41)) w.heap.size #[.pointer (some ⟨r, 0, none⟩)] 66) := (LG.new w _ _).next.next
  have H2 : Hid (LG w (((w.alloc (.cells #[.pointer (some ⟨r, 0, none⟩)] 66)).alloc (.cells #[.int .i64 k] 3)).alloc (.cells #[.string v.name, .int .i64 v.tenant, .int .i64 v.cpu, .int .i64 v.mem, .int .i64 v.zone, .int .i64 v.apart, .string v.node, .int .i64 v.epoch] 41)) (w.heap.size + 1) #[.int .i64 k] 3) := ((LG.mk2 (LG.new w _ _).bel).cast (by simp)).next
  have H3 : Hid (LG w (((w.alloc (.cells #[.pointer (some ⟨r, 0, none⟩)] 66)).alloc (.cells #[.int .i64 k] 3)).alloc (.cells #[.string v.name, .int .i64 v.tenant, .int .i64 v.cpu, .int .i64 v.mem, .int .i64 v.zone, .int .i64 v.apart, .string v.node, .int .i64 v.epoch] 41)) (w.heap.size + 1 + 1) #[.string v.name, .int .i64 v.tenant, .int .i64 v.cpu, .int .i64 v.mem, .int .i64 v.zone, .int .i64 v.apart, .string v.node, .int .i64 v.epoch] 41) := (LG.mk2 (LG.new w _ _).next.bel).cast (by simp)
  have HX : Hid (RX (((w.alloc (.cells #[.pointer (some ⟨r, 0, none⟩)] 66)).alloc (.cells #[.int .i64 k] 3)).alloc (.cells #[.string v.name, .int .i64 v.tenant, .int .i64 v.cpu, .int .i64 v.mem, .int .i64 v.zone, .int .i64 v.apart, .string v.node, .int .i64 v.epoch] 41)) r s a cb cs) := h.below H1.out.bel
  clear h
  have HI : Hid (Calls Try.prog 47 #[a.vvms, .func (.func 84) #[] #[.pointer (some ⟨w.heap.size, 0, none⟩), .pointer (some ⟨w.heap.size + 1, 0, none⟩), .pointer (some ⟨w.heap.size + 1 + 1, 0, none⟩)]] (((w.alloc (.cells #[.pointer (some ⟨r, 0, none⟩)] 66)).alloc (.cells #[.int .i64 k] 3)).alloc (.cells #[.string v.name, .int .i64 v.tenant, .int .i64 v.cpu, .int .i64 v.mem, .int .i64 v.zone, .int .i64 v.apart, .string v.node, .int .i64 v.epoch] 41)) fun e w' => e = .returned (.bool (s.vms.any (mtB s k v))) ∧ Below (((w.alloc (.cells #[.pointer (some ⟨r, 0, none⟩)] 66)).alloc (.cells #[.int .i64 k] 3)).alloc (.cells #[.string v.name, .int .i64 v.tenant, .int .i64 v.cpu, .int .i64 v.mem, .int .i64 v.zone, .int .i64 v.apart, .string v.node, .int .i64 v.epoch] 41)).heap.size (((w.alloc (.cells #[.pointer (some ⟨r, 0, none⟩)] 66)).alloc (.cells #[.int .i64 k] 3)).alloc (.cells #[.string v.name, .int .i64 v.tenant, .int .i64 v.cpu, .int .i64 v.mem, .int .i64 v.zone, .int .i64 v.apart, .string v.node, .int .i64 v.epoch] 41)) w') :=
    containsVMC_any HX.out.cx.rows.rvms hl _ _ (mtB s k v) (fun xs w' => by kernel_rfl) (fun x w' hw => meetsF_any (HX.out.below hw) k hk v x (H1.out.step hw) (H2.out.step hw) (H3.out.step hw))
  obtain ⟨an, kn, av, kv, ae, ke, e⟩ := HX.out.sl
  have y1 := HX.out.cx.cel 1 a.vvms rfl
  have yl := HX.out.cx.lt
  subst e
  simp only at y1 HI
  clear HX
  have e0 := H1.out.cel 0 _ rfl
  have el := H1.out.lt
  have g5 := H3.out.cel 5 _ rfl
  have gl := H3.out.lt
  have HB : Hid (Below w.heap.size w (((w.alloc (.cells #[.pointer (some ⟨r, 0, none⟩)] 66)).alloc (.cells #[.int .i64 k] 3)).alloc (.cells #[.string v.name, .int .i64 v.tenant, .int .i64 v.cpu, .int .i64 v.mem, .int .i64 v.zone, .int .i64 v.apart, .string v.node, .int .i64 v.epoch] 41))) := H1.out.bel
  clear H1 H2 H3
  generalize s.vms.any (cfl s k v) = V at *
  generalize s.vms.any (mtB s k v) = W at *
  cases t1 : (v.apart != 0)
  · have E2 : Hid (V = false) := (show V = false by rw [HE.out, decide_eq_false (by simpa using t1)]; rfl)
    clear HE HI
    go_enter Try.func78, Try.ntmps78
    go_upto_region 1 with fail
    generalize (((w.alloc (.cells #[.pointer (some ⟨r, 0, none⟩)] 66)).alloc (.cells #[.int .i64 k] 3)).alloc (.cells #[.string v.name, .int .i64 v.tenant, .int .i64 v.cpu, .int .i64 v.mem, .int .i64 v.zone, .int .i64 v.apart, .string v.node, .int .i64 v.epoch] 41)) = u0 at *
    go_wp2
    go_ret
    exact ⟨ret_bool E2.out.symm, HB.out⟩
  · have E2 : Hid (V = W) := (show V = W by rw [HE.out, decide_eq_true (by simpa using t1)]; rfl)
    clear HE
    go_enter Try.func78, Try.ntmps78
    go_upto_region 1 with fail
    generalize (((w.alloc (.cells #[.pointer (some ⟨r, 0, none⟩)] 66)).alloc (.cells #[.int .i64 k] 3)).alloc (.cells #[.string v.name, .int .i64 v.tenant, .int .i64 v.cpu, .int .i64 v.mem, .int .i64 v.zone, .int .i64 v.apart, .string v.node, .int .i64 v.epoch] 41)) = u0 at *
    go_wp2_with (go_at_call 47; refine Calls.mono HI.out ?_; rintro e u1 ⟨rfl, hu⟩; have HB1 : Hid (Below w.heap.size w u1) := HB.out.trans (hu.mono HB.out.size); clear hu)
    go_ret
    exact ⟨ret_bool E2.out.symm, HB1.out⟩
/-- What fitCode tells. -/
def ftV (s : CL) (cs : List (Int × Int)) (k : Nat) (v : VMC) : Int :=
  if v.zone ≠ 0 ∧ v.zone ≠ (ndA s k).zone then 7
  else if s.vms.any (cfl s k v) then 9
  else if (ndA s k).mem < wrap64 (otM s cs k v.name + v.mem) then 2
  else if wrap64 ((ndA s k).cpu * s.over) < wrap64 (wrap64 (otC s cs k v.name + v.cpu) * 100) then 8 else 0
set_option maxRecDepth 100000 in
set_option maxHeartbeats 4000000 in
theorem fitCode_any {w : World} {r : Nat} {s : CL} {a : CA} {cb : Nat} {cs : List (Int × Int)} (h : RX w r s a cb cs) (hl : s.vms.length ≤ 1048576) (k : Nat) (hk : k < s.nodes.length) (v : VMC) : Calls Try.prog 63 #[.pointer (some ⟨r, 0, none⟩), .int .i64 k, .agg #[.string v.name, .int .i64 v.tenant, .int .i64 v.cpu, .int .i64 v.mem, .int .i64 v.zone, .int .i64 v.apart, .string v.node, .int .i64 v.epoch]] w fun e w' => e = .returned (.int .i64 (ftV s cs k v)) ∧ Below w.heap.size w w' := by
  have HE : Hid (ftV s cs k v = if v.zone ≠ 0 ∧ v.zone ≠ s.nodes[k].zone then 7 else if s.vms.any (cfl s k v) then 9 else if s.nodes[k].mem < wrap64 (otM s cs k v.name + v.mem) then 2 else if wrap64 (s.nodes[k].cpu * s.over) < wrap64 (wrap64 (otC s cs k v.name + v.cpu) * 100) then 8 else 0) := by rw [← ndA_at hk]; rfl
  have HV0 : Hid (LG w (w.alloc (.cells #[.string v.name, .int .i64 v.tenant, .int .i64 v.cpu, .int .i64 v.mem, .int .i64 v.zone, .int .i64 v.apart, .string v.node, .int .i64 v.epoch] 41)) w.heap.size #[.string v.name, .int .i64 v.tenant, .int .i64 v.cpu, .int .i64 v.mem, .int .i64 v.zone, .int .i64 v.apart, .string v.node, .int .i64 v.epoch] 41) := LG.new w _ _
  have HX0 : Hid (RX (w.alloc (.cells #[.string v.name, .int .i64 v.tenant, .int .i64 v.cpu, .int .i64 v.mem, .int .i64 v.zone, .int .i64 v.apart, .string v.node, .int .i64 v.epoch] 41)) r s a cb cs) := h.below HV0.out.bel
  clear h
  obtain ⟨gn, on, kn, en, hgn, hcn⟩ := HX0.out.nodeA hk
  obtain ⟨d0, d1, d2, d3, d4, d5, d6⟩ := hcn _ (Below.refl _ _) k hk
  have c0 := HX0.out.cx.cel 0 a.vnodes rfl
  rw [en] at c0
  have rl := HX0.out.cx.lt
  have hk0 : (0 : Int) ≤ (k : Int) := by omega
  have hk1 : (k : Int) < (s.nodes.length : Int) := by omega
  have HOT : Hid (∀ u, RX u r s a cb cs → Calls Try.prog 68 #[.pointer (some ⟨r, 0, none⟩), .int .i64 k, .string v.name] u fun e w' => e = .returned (.tuple #[.int .i64 (otC s cs k v.name), .int .i64 (otM s cs k v.name)]) ∧ Below u.heap.size u w') := fun u hu => others_any hu hl k hk v.name
  have HMT : Hid (∀ u, RX u r s a cb cs → Calls Try.prog 78 #[.pointer (some ⟨r, 0, none⟩), .int .i64 k, .agg #[.string v.name, .int .i64 v.tenant, .int .i64 v.cpu, .int .i64 v.mem, .int .i64 v.zone, .int .i64 v.apart, .string v.node, .int .i64 v.epoch]] u fun e w' => e = .returned (.bool (s.vms.any (cfl s k v))) ∧ Below u.heap.size u w') := fun u hu => meets_any hu hl k hk v
  clear hcn en
  generalize s.nodes[k] = n at *
  generalize ftV s cs k v = V at *
  generalize otC s cs k v.name = OC at *
  generalize otM s cs k v.name = OM at *
  generalize s.vms.any (cfl s k v) = MT at *
  go_enter Try.func63, Try.ntmps63
  go_upto_region 1 with fail
  generalize (w.alloc (.cells #[.string v.name, .int .i64 v.tenant, .int .i64 v.cpu, .int .i64 v.mem, .int .i64 v.zone, .int .i64 v.apart, .string v.node, .int .i64 v.epoch] 41)) = u0 at *
  go_upto_region 2 with fail
  have HV1 : Hid (LG w (u0.alloc (.cells #[.string n.name, .int .i64 n.cpu, .int .i64 n.mem, .int .i64 n.zone, .int .i64 n.beat, .bool n.fenced, .bool n.closed] 73)) w.heap.size #[.string v.name, .int .i64 v.tenant, .int .i64 v.cpu, .int .i64 v.mem, .int .i64 v.zone, .int .i64 v.apart, .string v.node, .int .i64 v.epoch] 41) := HV0.out.next
  have HN1 : Hid (LG w (u0.alloc (.cells #[.string n.name, .int .i64 n.cpu, .int .i64 n.mem, .int .i64 n.zone, .int .i64 n.beat, .bool n.fenced, .bool n.closed] 73)) u0.heap.size #[.string n.name, .int .i64 n.cpu, .int .i64 n.mem, .int .i64 n.zone, .int .i64 n.beat, .bool n.fenced, .bool n.closed] 73) := LG.mk2 HV0.out.bel
  have HX1 : Hid (RX (u0.alloc (.cells #[.string n.name, .int .i64 n.cpu, .int .i64 n.mem, .int .i64 n.zone, .int .i64 n.beat, .bool n.fenced, .bool n.closed] 73)) r s a cb cs) := HX0.out.below (bx1 _ _)
  clear c0 rl d0 d1 d2 d3 d4 d5 d6 HV0 HX0 hgn hk0 hk1
  generalize (u0.alloc (.cells #[.string n.name, .int .i64 n.cpu, .int .i64 n.mem, .int .i64 n.zone, .int .i64 n.beat, .bool n.fenced, .bool n.closed] 73)) = u1 at *
  generalize u0.heap.size = bn at *
  generalize hbv : w.heap.size = bv at HV1 ⊢
  have v0 := HV1.out.cel 0 _ rfl
  have vl := HV1.out.lt
  go_upto_region 3 with (go_at_call 68; refine Calls.mono (HOT.out _ HX1.out) ?_; rintro e u2 ⟨rfl, hb⟩)
  have HV2 : Hid (LG w u2 bv #[.string v.name, .int .i64 v.tenant, .int .i64 v.cpu, .int .i64 v.mem, .int .i64 v.zone, .int .i64 v.apart, .string v.node, .int .i64 v.epoch] 41) := HV1.out.step hb
  have HN2 : Hid (LG w u2 bn #[.string n.name, .int .i64 n.cpu, .int .i64 n.mem, .int .i64 n.zone, .int .i64 n.beat, .bool n.fenced, .bool n.closed] 73) := HN1.out.step hb
  have HX2 : Hid (RX u2 r s a cb cs) := HX1.out.below hb
  clear hb HV1 HN1 HX1 HOT v0 vl
  have v0 := HV2.out.cel 0 _ rfl
  have v1 := HV2.out.cel 1 _ rfl
  have v2 := HV2.out.cel 2 _ rfl
  have v3 := HV2.out.cel 3 _ rfl
  have v4 := HV2.out.cel 4 _ rfl
  have v5 := HV2.out.cel 5 _ rfl
  have v6 := HV2.out.cel 6 _ rfl
  have v7 := HV2.out.cel 7 _ rfl
  have vl := HV2.out.lt
  have n3 := HN2.out.cel 3 _ rfl
  have nl := HN2.out.lt
  cases q0 : (v.zone != 0)
  rotate_left
  · cases q1 : (v.zone != n.zone)
    rotate_left
    · have E2 : Hid (V = 7) := HE.out.trans (if_pos ⟨by simpa using q0, by simpa using q1⟩)
      clear HE
      go_wp2
      go_ret
      exact ⟨ret_int E2.out.symm, hbv ▸ HV2.out.bel⟩
    have E : Hid (V = if MT = true then 9 else if n.mem < wrap64 (OM + v.mem) then 2 else if wrap64 (n.cpu * s.over) < wrap64 (wrap64 (OC + v.cpu) * 100) then 8 else 0) := HE.out.trans (if_neg (by simp at q1; simp [q1]))
    clear HE
    cases MT
    rotate_left
    · have E2 : Hid (V = 9) := E.out.trans (if_pos rfl)
      clear E
      go_wp2_with (go_at_call 78; refine Calls.mono (HMT.out _ HX2.out) ?_; rintro e u3 ⟨rfl, hb⟩)
      go_ret
      exact ⟨ret_int E2.out.symm, hbv ▸ (HV2.out.step hb).bel⟩
    have E3 : Hid (V = if n.mem < wrap64 (OM + v.mem) then 2 else if wrap64 (n.cpu * s.over) < wrap64 (wrap64 (OC + v.cpu) * 100) then 8 else 0) := E.out.trans (if_neg (by decide))
    clear E
    go_upto_region 7 with (go_at_call 78; refine Calls.mono (HMT.out _ HX2.out) ?_; rintro e u3 ⟨rfl, hb⟩)
    have HV3 : Hid (LG w u3 bv #[.string v.name, .int .i64 v.tenant, .int .i64 v.cpu, .int .i64 v.mem, .int .i64 v.zone, .int .i64 v.apart, .string v.node, .int .i64 v.epoch] 41) := HV2.out.step hb
    have HN3 : Hid (LG w u3 bn #[.string n.name, .int .i64 n.cpu, .int .i64 n.mem, .int .i64 n.zone, .int .i64 n.beat, .bool n.fenced, .bool n.closed] 73) := HN2.out.step hb
    have HX3 : Hid (RX u3 r s a cb cs) := HX2.out.below hb
    clear hb HV2 HN2 HX2 HMT v0 v1 v2 v3 v4 v5 v6 v7 vl n3 nl
    have v2 := HV3.out.cel 2 _ rfl
    have v3 := HV3.out.cel 3 _ rfl
    have vl := HV3.out.lt
    have n1 := HN3.out.cel 1 _ rfl
    have n2 := HN3.out.cel 2 _ rfl
    have nl := HN3.out.lt
    have r3 := HX3.out.cx.cel 3 (.int .i64 s.over) rfl
    have rl := HX3.out.cx.lt
    cases t1 : decide (n.mem < wrap64 (OM + v.mem))
    rotate_left
    · have E2 : Hid (V = 2) := E3.out.trans (if_pos (of_decide_eq_true t1))
      clear E3
      go_wp2
      go_ret
      exact ⟨ret_int E2.out.symm, hbv ▸ HV3.out.bel⟩
    go_upto_region 9 with fail
    have hw1 : IntKind.i64.wrap (OC + v.cpu) = wrap64 (OC + v.cpu) := by simp [wrap64, IntKind.wrap_i64]
    have hw2 : IntKind.i64.wrap (wrap64 (OC + v.cpu) * 100) = wrap64 (wrap64 (OC + v.cpu) * 100) := by simp [wrap64, IntKind.wrap_i64]
    have hw3 : IntKind.i64.wrap (n.cpu * s.over) = wrap64 (n.cpu * s.over) := by simp [wrap64, IntKind.wrap_i64]
    clear v3 n2
    cases t2 : decide (wrap64 (n.cpu * s.over) < wrap64 (wrap64 (OC + v.cpu) * 100))
    · have E2 : Hid (V = 0) := E3.out.trans ((if_neg (of_decide_eq_false t1)).trans (if_neg (of_decide_eq_false t2)))
      clear E3 t1
      go_quiet (fail)
      go_wp2
      go_ret
      exact ⟨ret_int E2.out.symm, hbv ▸ (bdn HV3.out.bel _)⟩
    · have E2 : Hid (V = 8) := E3.out.trans ((if_neg (of_decide_eq_false t1)).trans (if_pos (of_decide_eq_true t2)))
      clear E3 t1
      go_quiet (fail)
      go_wp2
      go_ret
      exact ⟨ret_int E2.out.symm, hbv ▸ (bdn HV3.out.bel _)⟩
  have E : Hid (V = if MT = true then 9 else if n.mem < wrap64 (OM + v.mem) then 2 else if wrap64 (n.cpu * s.over) < wrap64 (wrap64 (OC + v.cpu) * 100) then 8 else 0) := HE.out.trans (if_neg (by simp at q0; simp [q0]))
  clear HE
  cases MT
  rotate_left
  · have E2 : Hid (V = 9) := E.out.trans (if_pos rfl)
    clear E
    go_wp2_with (go_at_call 78; refine Calls.mono (HMT.out _ HX2.out) ?_; rintro e u3 ⟨rfl, hb⟩)
    go_ret
    exact ⟨ret_int E2.out.symm, hbv ▸ (HV2.out.step hb).bel⟩
  have E3 : Hid (V = if n.mem < wrap64 (OM + v.mem) then 2 else if wrap64 (n.cpu * s.over) < wrap64 (wrap64 (OC + v.cpu) * 100) then 8 else 0) := E.out.trans (if_neg (by decide))
  clear E
  go_upto_region 7 with (go_at_call 78; refine Calls.mono (HMT.out _ HX2.out) ?_; rintro e u3 ⟨rfl, hb⟩)
  have HV3 : Hid (LG w u3 bv #[.string v.name, .int .i64 v.tenant, .int .i64 v.cpu, .int .i64 v.mem, .int .i64 v.zone, .int .i64 v.apart, .string v.node, .int .i64 v.epoch] 41) := HV2.out.step hb
  have HN3 : Hid (LG w u3 bn #[.string n.name, .int .i64 n.cpu, .int .i64 n.mem, .int .i64 n.zone, .int .i64 n.beat, .bool n.fenced, .bool n.closed] 73) := HN2.out.step hb
  have HX3 : Hid (RX u3 r s a cb cs) := HX2.out.below hb
  clear hb HV2 HN2 HX2 HMT v0 v1 v2 v3 v4 v5 v6 v7 vl n3 nl
  have v2 := HV3.out.cel 2 _ rfl
  have v3 := HV3.out.cel 3 _ rfl
  have vl := HV3.out.lt
  have n1 := HN3.out.cel 1 _ rfl
  have n2 := HN3.out.cel 2 _ rfl
  have nl := HN3.out.lt
  have r3 := HX3.out.cx.cel 3 (.int .i64 s.over) rfl
  have rl := HX3.out.cx.lt
  cases t1 : decide (n.mem < wrap64 (OM + v.mem))
  rotate_left
  · have E2 : Hid (V = 2) := E3.out.trans (if_pos (of_decide_eq_true t1))
    clear E3
    go_wp2
    go_ret
    exact ⟨ret_int E2.out.symm, hbv ▸ HV3.out.bel⟩
  go_upto_region 9 with fail
  have hw1 : IntKind.i64.wrap (OC + v.cpu) = wrap64 (OC + v.cpu) := by simp [wrap64, IntKind.wrap_i64]
  have hw2 : IntKind.i64.wrap (wrap64 (OC + v.cpu) * 100) = wrap64 (wrap64 (OC + v.cpu) * 100) := by simp [wrap64, IntKind.wrap_i64]
  have hw3 : IntKind.i64.wrap (n.cpu * s.over) = wrap64 (n.cpu * s.over) := by simp [wrap64, IntKind.wrap_i64]
  clear v3 n2
  cases t2 : decide (wrap64 (n.cpu * s.over) < wrap64 (wrap64 (OC + v.cpu) * 100))
  · have E2 : Hid (V = 0) := E3.out.trans ((if_neg (of_decide_eq_false t1)).trans (if_neg (of_decide_eq_false t2)))
    clear E3 t1
    go_quiet (fail)
    go_wp2
    go_ret
    exact ⟨ret_int E2.out.symm, hbv ▸ (bdn HV3.out.bel _)⟩
  · have E2 : Hid (V = 8) := E3.out.trans ((if_neg (of_decide_eq_false t1)).trans (if_pos (of_decide_eq_true t2)))
    clear E3 t1
    go_quiet (fail)
    go_wp2
    go_ret
    exact ⟨ret_int E2.out.symm, hbv ▸ (bdn HV3.out.bel _)⟩
end Go.Proofs.Ytkmbhhkgfofcoaa
