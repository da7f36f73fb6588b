import Derived.Test.YtalpcjclahkgnaaGreatCs1
namespace Go.Proofs.YtalpcjclahkgnaaGreat
open Go.ChangeShapes Go.WideShapes Go.ChangeAt Go.RowKit

theorem ndA_at {s : CL} {k : Nat} (h : k < s.nodes.length) : ndA s k = s.nodes[k] := by simp [ndA, List.getD, List.getElem?_eq_getElem h]
theorem vmA_at {s : CL} {k : Nat} (h : k < s.vms.length) : vmA s k = s.vms[k] := by simp [vmA, List.getD, List.getElem?_eq_getElem h]
theorem teA_at {s : CL} {k : Nat} (h : k < s.tenants.length) : teA s k = s.tenants[k] := by simp [teA, List.getD, List.getElem?_eq_getElem h]
theorem LG.next {w u : World} {b t t2 : Nat} {cs cs2 : Array Value} (h : LG w u b cs t) : LG w (u.alloc (.cells cs2 t2)) b cs t := h.step (bx1 _ _)
theorem LG.cast {w u : World} {b b2 t : Nat} {cs : Array Value} (h : LG w u b cs t) (e : b = b2) : LG w u b2 cs t := e ▸ h
theorem LG.mk2 {w u : World} {t2 : Nat} {cs2 : Array Value} (h : Below w.heap.size w u) : LG w (u.alloc (.cells cs2 t2)) u.heap.size cs2 t2 := ⟨h.trans ((bx1 _ _).mono h.size), heap_new _ _, h.size⟩
set_option maxRecDepth 100000 in
set_option maxHeartbeats 4000000 in
theorem l22Hold_any {w : World} {s : CL} {a : CA} (h : CLRows w s a) (hl : s.vms.length ≤ 1048576) (q : Nat) (hq : q < s.nodes.length) (v : VMC) : Calls Tryz.prog 29 #[clA s a, .int .i64 q, .agg #[.string v.name, .int .i64 v.tenant, .int .i64 v.cpu, .int .i64 v.mem, .int .i64 v.zone, .int .i64 v.apart, .string v.node, .int .i64 v.epoch]] w fun e w' => e = .returned (.int .i64 (hlV s q v)) ∧ Below w.heap.size w w' := by
  obtain ⟨an, kn, av, kv, ae, ke, e⟩ := h.sl
  subst e
  have HRN : Hid (NODrow w (.slice an s.nodes.length kn) s.nodes) := h.rnodes
  have HR : Hid (VMCrow w (.slice av s.vms.length kv) s.vms) := h.rvms
  clear h
  have HE : Hid (hlV s q v = if v.zone ≠ 0 ∧ v.zone ≠ s.nodes[q].zone then 7 else if s.vms.any (cfl s q v) then 9 else if s.nodes[q].mem < smW VMC.mem (onB s q v.name) v.mem (s.vms.take s.vms.length) then 2 else if wrap64 (s.nodes[q].cpu * s.over) < wrap64 (smW VMC.cpu (onB s q v.name) v.cpu (s.vms.take s.vms.length) * 100) then 8 else 0) := by rw [List.take_length, ← ndA_at hq]; rfl
  have HON : Hid (∀ x, onB s q v.name x = ((x.node.toList == s.nodes[q].name.toList) && !(x.name.toList == v.name.toList))) := by rw [← ndA_at hq]; exact fun x => rfl
  have HCF : Hid (∀ x, cfl s q v x = (decide (v.apart ≠ 0) && (onB s q v.name x && decide (x.tenant = v.tenant) && decide (x.apart = v.apart)))) := fun x => rfl
  generalize hlV s q v = V at *
  have HL0 : Hid (LG w ((w.alloc (.cells #[.slice an s.nodes.length kn, .slice av s.vms.length kv, .slice ae s.tenants.length ke, .int .i64 s.over, .int .i64 s.time] 37)).alloc (.cells #[.string v.name, .int .i64 v.tenant, .int .i64 v.cpu, .int .i64 v.mem, .int .i64 v.zone, .int .i64 v.apart, .string v.node, .int .i64 v.epoch] 71)) w.heap.size #[.slice an s.nodes.length kn, .slice av s.vms.length kv, .slice ae s.tenants.length ke, .int .i64 s.over, .int .i64 s.time] 37) := (LG.new w _ _).next
  have HV0 : Hid (LG w ((w.alloc (.cells #[.slice an s.nodes.length kn, .slice av s.vms.length kv, .slice ae s.tenants.length ke, .int .i64 s.over, .int .i64 s.time] 37)).alloc (.cells #[.string v.name, .int .i64 v.tenant, .int .i64 v.cpu, .int .i64 v.mem, .int .i64 v.zone, .int .i64 v.apart, .string v.node, .int .i64 v.epoch] 71)) (w.heap.size + 1) #[.string v.name, .int .i64 v.tenant, .int .i64 v.cpu, .int .i64 v.mem, .int .i64 v.zone, .int .i64 v.apart, .string v.node, .int .i64 v.epoch] 71) := (LG.mk2 (LG.new w _ _).bel).cast (by simp)
  obtain ⟨g, o, cap2, hv, _, hg, hc⟩ := HRN.out.resolve_left (fun h => by rw [h.1] at hq; simp at hq)
  injection hv with hv1 hv2 hv3
  subst hv1 hv3
  obtain ⟨d0, d1, d2, d3, d4, d5, d6⟩ := hc.below HL0.out.bel hg q hq
  generalize s.nodes[q] = n at *
  have hg0 : g < ((w.alloc (.cells #[.slice (some ⟨g, o, none⟩) s.nodes.length kn, .slice av s.vms.length kv, .slice ae s.tenants.length ke, .int .i64 s.over, .int .i64 s.time] 37)).alloc (.cells #[.string v.name, .int .i64 v.tenant, .int .i64 v.cpu, .int .i64 v.mem, .int .i64 v.zone, .int .i64 v.apart, .string v.node, .int .i64 v.epoch] 71)).heap.size := Nat.lt_of_lt_of_le hg HL0.out.bel.size
  have hk0 : (0 : Int) ≤ (q : Int) := by omega
  have hk1 : (q : Int) < (s.nodes.length : Int) := by omega
  unfold clA clC
  simp only
  go_enter Tryz.func29, Tryz.ntmps29
  go_upto_region 1 with fail
  generalize ((w.alloc (.cells #[.slice (some ⟨g, o, none⟩) s.nodes.length kn, .slice av s.vms.length kv, .slice ae s.tenants.length ke, .int .i64 s.over, .int .i64 s.time] 37)).alloc (.cells #[.string v.name, .int .i64 v.tenant, .int .i64 v.cpu, .int .i64 v.mem, .int .i64 v.zone, .int .i64 v.apart, .string v.node, .int .i64 v.epoch] 71)) = u0 at *
  have c0 := HL0.out.cel 0 _ rfl
  have cl := HL0.out.lt
  go_upto_region 2 with fail
  have HL1 : Hid (LG w (u0.alloc (.cells #[.string n.name, .int .i64 n.cpu, .int .i64 n.mem, .int .i64 n.zone, .int .i64 n.beat, .bool n.fenced, .bool n.closed] 97)) w.heap.size #[.slice (some ⟨g, o, none⟩) s.nodes.length kn, .slice av s.vms.length kv, .slice ae s.tenants.length ke, .int .i64 s.over, .int .i64 s.time] 37) := HL0.out.next
  have HV1 : Hid (LG w (u0.alloc (.cells #[.string n.name, .int .i64 n.cpu, .int .i64 n.mem, .int .i64 n.zone, .int .i64 n.beat, .bool n.fenced, .bool n.closed] 97)) (w.heap.size + 1) #[.string v.name, .int .i64 v.tenant, .int .i64 v.cpu, .int .i64 v.mem, .int .i64 v.zone, .int .i64 v.apart, .string v.node, .int .i64 v.epoch] 71) := HV0.out.next
  have HN1 : Hid (LG w (u0.alloc (.cells #[.string n.name, .int .i64 n.cpu, .int .i64 n.mem, .int .i64 n.zone, .int .i64 n.beat, .bool n.fenced, .bool n.closed] 97)) u0.heap.size #[.string n.name, .int .i64 n.cpu, .int .i64 n.mem, .int .i64 n.zone, .int .i64 n.beat, .bool n.fenced, .bool n.closed] 97) := LG.mk2 HL0.out.bel
  clear c0 cl d0 d1 d2 d3 d4 d5 d6 hg0 hc HL0 HV0 hk0 hk1 HRN
  generalize (u0.alloc (.cells #[.string n.name, .int .i64 n.cpu, .int .i64 n.mem, .int .i64 n.zone, .int .i64 n.beat, .bool n.fenced, .bool n.closed] 97)) = u1 at *
  generalize u0.heap.size = bn at *
  generalize hvb : w.heap.size + 1 = bv at HV1 ⊢
  generalize hbb : w.heap.size = bb at HL1 ⊢
  have c3 := HL1.out.cel 3 _ rfl
  have cl := HL1.out.lt
  have e2 := HV1.out.cel 2 _ rfl
  have e3 := HV1.out.cel 3 _ rfl
  have e4 := HV1.out.cel 4 _ rfl
  have el := HV1.out.lt
  have f3 := HN1.out.cel 3 _ rfl
  have fl := HN1.out.lt
  cases q0 : (v.zone != 0)
  rotate_left
  · cases q1 : (v.zone != n.zone)
    rotate_left
    · have E2 : Hid (V = 7) := HE.out.trans (if_pos ⟨by simpa using q0, by simpa using q1⟩)
      clear HE
      go_wp2
      go_ret
      exact ⟨ret_int E2.out.symm, hbb ▸ HL1.out.bel⟩
    all_goals skip
    have E : Hid (V = if s.vms.any (cfl s q v) then 9 else if n.mem < smW VMC.mem (onB s q v.name) v.mem (s.vms.take s.vms.length) then 2 else if wrap64 (n.cpu * s.over) < wrap64 (smW VMC.cpu (onB s q v.name) v.cpu (s.vms.take s.vms.length) * 100) then 8 else 0) := HE.out.trans (if_neg (by simp at q1; simp [q1]))
    clear HE
    go_wp2
    clear q0 q1 e2 e3 e4 el c3 cl f3 fl
    go_loopw [8, 9, 10] (fun c m i wr => ∃ k : Nat, k ≤ s.vms.length ∧ c = .int .i64 (smW VMC.cpu (onB s q v.name) v.cpu (s.vms.take k)) ∧ m = .int .i64 (smW VMC.mem (onB s q v.name) v.mem (s.vms.take k)) ∧ i = .int .i64 k ∧ (∀ j (hj : j < s.vms.length), j < k → cfl s q v s.vms[j] = false) ∧ LG w wr bb #[.slice (some ⟨g, o, none⟩) s.nodes.length kn, .slice av s.vms.length kv, .slice ae s.tenants.length ke, .int .i64 s.over, .int .i64 s.time] 37 ∧ LG w wr bv #[.string v.name, .int .i64 v.tenant, .int .i64 v.cpu, .int .i64 v.mem, .int .i64 v.zone, .int .i64 v.apart, .string v.node, .int .i64 v.epoch] 71 ∧ LG w wr bn #[.string n.name, .int .i64 n.cpu, .int .i64 n.mem, .int .i64 n.zone, .int .i64 n.beat, .bool n.fenced, .bool n.closed] 97) (fun _ _ i _ => s.vms.length - (intOf i).toNat)
    case atStart => exact ⟨0, Nat.zero_le _, rfl, rfl, rfl, fun j hj h => absurd h (by omega), HL1.out, HV1.out, HN1.out⟩
    case round =>
      obtain ⟨k, hk, rfl, rfl, rfl, hno, hb, hb2, hb3⟩ := hrel
      have HX : Hid (LG w wr bb #[.slice (some ⟨g, o, none⟩) s.nodes.length kn, .slice av s.vms.length kv, .slice ae s.tenants.length ke, .int .i64 s.over, .int .i64 s.time] 37) := hb
      have HXV : Hid (LG w wr bv #[.string v.name, .int .i64 v.tenant, .int .i64 v.cpu, .int .i64 v.mem, .int .i64 v.zone, .int .i64 v.apart, .string v.node, .int .i64 v.epoch] 71) := hb2
      have HXN : Hid (LG w wr bn #[.string n.name, .int .i64 n.cpu, .int .i64 n.mem, .int .i64 n.zone, .int .i64 n.beat, .bool n.fenced, .bool n.closed] 97) := hb3
      have HB : Hid (Below w.heap.size w wr) := hb.bel
      have HN : Hid (∀ j (hj : j < s.vms.length), j < k → cfl s q v s.vms[j] = false) := hno
      clear hno hb hb2 hb3 HL1 HV1 HN1
      have c1 := HX.out.cel 1 _ rfl
      have cl := HX.out.lt
      by_cases hlt : k < s.vms.length
      · skip
        obtain ⟨g2, o2, cap2, hv, _, hg, hc⟩ := HR.out.resolve_left (fun h => by rw [h.1] at hlt; simp at hlt)
        injection hv with hv1 hv2 hv3
        subst hv1 hv3
        have hgw : g2 < wr.heap.size := Nat.lt_of_lt_of_le hg HB.out.size
        have hk0 : (0 : Int) ≤ (k : Int) := by omega
        have hk1 : (k : Int) < (s.vms.length : Int) := by omega
        obtain ⟨d0, d1, d2, d3, d4, d5, d6, d7⟩ := hc.below HB.out hg k hlt
        have HSC : Hid (smW VMC.cpu (onB s q v.name) v.cpu (s.vms.take (k + 1)) = _) := smW_succ hlt
        have HSM : Hid (smW VMC.mem (onB s q v.name) v.mem (s.vms.take (k + 1)) = _) := smW_succ hlt
        generalize smW VMC.cpu (onB s q v.name) v.cpu (s.vms.take k) = SC at *
        generalize smW VMC.mem (onB s q v.name) v.mem (s.vms.take k) = SM at *
        have H9 : Hid (cfl s q v s.vms[k] = true → V = 9) := fun h9 => E.out.trans (if_pos (List.any_eq_true.2 ⟨_, List.getElem_mem hlt, h9⟩))
        have HN2 : Hid (cfl s q v s.vms[k] = false → ∀ j (hj : j < s.vms.length), j < k + 1 → cfl s q v s.vms[j] = false) := fun h1 j hj h2 => if h3 : j < k then HN.out j hj h3 else by
          obtain rfl : j = k := by omega
          exact h1
        have HON1 := HON.out s.vms[k]
        have HCF1 := HCF.out s.vms[k]
        clear hc E HN HON HCF
        generalize s.vms[k] = x at *
        have HON2 : Hid _ := HON1
        have HCF2 : Hid _ := HCF1
        clear HON1 HCF1
        go_upto_region 10 with fail
        have HX2 : Hid (LG w (wr.alloc (.cells #[.string x.name, .int .i64 x.tenant, .int .i64 x.cpu, .int .i64 x.mem, .int .i64 x.zone, .int .i64 x.apart, .string x.node, .int .i64 x.epoch] 71)) bb #[.slice (some ⟨g, o, none⟩) s.nodes.length kn, .slice (some ⟨g2, o2, none⟩) s.vms.length kv, .slice ae s.tenants.length ke, .int .i64 s.over, .int .i64 s.time] 37) := HX.out.next
        have HXV2 : Hid (LG w (wr.alloc (.cells #[.string x.name, .int .i64 x.tenant, .int .i64 x.cpu, .int .i64 x.mem, .int .i64 x.zone, .int .i64 x.apart, .string x.node, .int .i64 x.epoch] 71)) bv #[.string v.name, .int .i64 v.tenant, .int .i64 v.cpu, .int .i64 v.mem, .int .i64 v.zone, .int .i64 v.apart, .string v.node, .int .i64 v.epoch] 71) := HXV.out.next
        have HXN2 : Hid (LG w (wr.alloc (.cells #[.string x.name, .int .i64 x.tenant, .int .i64 x.cpu, .int .i64 x.mem, .int .i64 x.zone, .int .i64 x.apart, .string x.node, .int .i64 x.epoch] 71)) bn #[.string n.name, .int .i64 n.cpu, .int .i64 n.mem, .int .i64 n.zone, .int .i64 n.beat, .bool n.fenced, .bool n.closed] 97) := HXN.out.next
        have HXX : Hid (LG w (wr.alloc (.cells #[.string x.name, .int .i64 x.tenant, .int .i64 x.cpu, .int .i64 x.mem, .int .i64 x.zone, .int .i64 x.apart, .string x.node, .int .i64 x.epoch] 71)) wr.heap.size #[.string x.name, .int .i64 x.tenant, .int .i64 x.cpu, .int .i64 x.mem, .int .i64 x.zone, .int .i64 x.apart, .string x.node, .int .i64 x.epoch] 71) := LG.mk2 HB.out
        clear HX HXV HXN HB d0 d1 d2 d3 d4 d5 d6 d7 hgw c1 cl hk0 hk1
        generalize (wr.alloc (.cells #[.string x.name, .int .i64 x.tenant, .int .i64 x.cpu, .int .i64 x.mem, .int .i64 x.zone, .int .i64 x.apart, .string x.node, .int .i64 x.epoch] 71)) = u2 at *
        generalize wr.heap.size = bx at *
        have e0 := HXV2.out.cel 0 _ rfl
        have e1 := HXV2.out.cel 1 _ rfl
        have e5 := HXV2.out.cel 5 _ rfl
        have x0 := HXX.out.cel 0 _ rfl
        have x1 := HXX.out.cel 1 _ rfl
        have x2 := HXX.out.cel 2 _ rfl
        have x3 := HXX.out.cel 3 _ rfl
        have x5 := HXX.out.cel 5 _ rfl
        have x6 := HXX.out.cel 6 _ rfl
        have f0 := HXN2.out.cel 0 _ rfl
        have el := HXV2.out.lt
        have xl := HXX.out.lt
        have fl := HXN2.out.lt
        cases t1 : (x.node.toList == n.name.toList)
        · have hon : onB s q v.name x = false := by rw [HON2.out, t1]; rfl
          have E4 : Hid _ := HN2.out (by rw [HCF2.out, hon]; simp)
          clear HN2 HCF2
          have E2 : Hid (smW VMC.cpu (onB s q v.name) v.cpu (s.vms.take (k + 1)) = SC) := HSC.out.trans (if_neg (by simp [hon]))
          have E3 : Hid (smW VMC.mem (onB s q v.name) v.mem (s.vms.take (k + 1)) = SM) := HSM.out.trans (if_neg (by simp [hon]))
          clear HSC HSM H9 hon HON2
          go_wp2
          exact ⟨⟨k + 1, hlt, by rw [E2.out], by rw [E3.out], by go_num, E4.out, HX2.out, HXV2.out, HXN2.out⟩, by simp [intOf]; omega⟩
        · cases t2 : (x.name.toList == v.name.toList)
          rotate_left
          · have hon : onB s q v.name x = false := by rw [HON2.out, t1, t2]; rfl
            have E4 : Hid _ := HN2.out (by rw [HCF2.out, hon]; simp)
            clear HN2 HCF2
            have E2 : Hid (smW VMC.cpu (onB s q v.name) v.cpu (s.vms.take (k + 1)) = SC) := HSC.out.trans (if_neg (by simp [hon]))
            have E3 : Hid (smW VMC.mem (onB s q v.name) v.mem (s.vms.take (k + 1)) = SM) := HSM.out.trans (if_neg (by simp [hon]))
            clear HSC HSM H9 hon HON2
            go_wp2
            exact ⟨⟨k + 1, hlt, by rw [E2.out], by rw [E3.out], by go_num, E4.out, HX2.out, HXV2.out, HXN2.out⟩, by simp [intOf]; omega⟩
          · have hon : onB s q v.name x = true := by rw [HON2.out, t1, t2]; rfl
            cases t3 : (v.apart != 0)
            · skip
              have E4 : Hid _ := HN2.out (by rw [HCF2.out, hon]; simp at *; simp [*])
              clear HN2 HCF2
              have E2 : Hid (smW VMC.cpu (onB s q v.name) v.cpu (s.vms.take (k + 1)) = wrap64 (SC + x.cpu)) := HSC.out.trans (if_pos hon)
              have E3 : Hid (smW VMC.mem (onB s q v.name) v.mem (s.vms.take (k + 1)) = wrap64 (SM + x.mem)) := HSM.out.trans (if_pos hon)
              clear HSC HSM H9 hon HON2
              go_wp2
              exact ⟨⟨k + 1, hlt, by rw [E2.out], by rw [E3.out], by go_num, E4.out, HX2.out, HXV2.out, HXN2.out⟩, by simp [intOf]; omega⟩
            · cases t4 : (x.tenant == v.tenant)
              · skip
                have E4 : Hid _ := HN2.out (by rw [HCF2.out, hon]; simp at *; simp [*])
                clear HN2 HCF2
                have E2 : Hid (smW VMC.cpu (onB s q v.name) v.cpu (s.vms.take (k + 1)) = wrap64 (SC + x.cpu)) := HSC.out.trans (if_pos hon)
                have E3 : Hid (smW VMC.mem (onB s q v.name) v.mem (s.vms.take (k + 1)) = wrap64 (SM + x.mem)) := HSM.out.trans (if_pos hon)
                clear HSC HSM H9 hon HON2
                go_wp2
                exact ⟨⟨k + 1, hlt, by rw [E2.out], by rw [E3.out], by go_num, E4.out, HX2.out, HXV2.out, HXN2.out⟩, by simp [intOf]; omega⟩
              · cases t5 : (x.apart == v.apart)
                · skip
                  have E4 : Hid _ := HN2.out (by rw [HCF2.out, hon]; simp at *; simp [*])
                  clear HN2 HCF2
                  have E2 : Hid (smW VMC.cpu (onB s q v.name) v.cpu (s.vms.take (k + 1)) = wrap64 (SC + x.cpu)) := HSC.out.trans (if_pos hon)
                  have E3 : Hid (smW VMC.mem (onB s q v.name) v.mem (s.vms.take (k + 1)) = wrap64 (SM + x.mem)) := HSM.out.trans (if_pos hon)
                  clear HSC HSM H9 hon HON2
                  go_wp2
                  exact ⟨⟨k + 1, hlt, by rw [E2.out], by rw [E3.out], by go_num, E4.out, HX2.out, HXV2.out, HXN2.out⟩, by simp [intOf]; omega⟩
                · have E4 : Hid (V = 9) := H9.out (by rw [HCF2.out, hon]; simp at *; simp [*])
                  clear HN2 HCF2 HSC HSM H9 hon HON2
                  go_wp2
                  go_ret
                  exact ⟨ret_int E4.out.symm, hbb ▸ HX2.out.bel⟩
      · obtain rfl : k = s.vms.length := by omega
        have E1 : Hid (V = if n.mem < smW VMC.mem (onB s q v.name) v.mem (s.vms.take s.vms.length) then 2 else if wrap64 (n.cpu * s.over) < wrap64 (smW VMC.cpu (onB s q v.name) v.cpu (s.vms.take s.vms.length) * 100) then 8 else 0) := E.out.trans (if_neg (by rw [List.any_eq_true]; rintro ⟨x, hx, h9⟩; obtain ⟨j, hj, rfl⟩ := List.getElem_of_mem hx; rw [HN.out j hj hj] at h9; cases h9))
        clear E HN HON HCF
        generalize smW VMC.cpu (onB s q v.name) v.cpu (s.vms.take s.vms.length) = SC at *
        generalize smW VMC.mem (onB s q v.name) v.mem (s.vms.take s.vms.length) = SM at *
        have f1 := HXN.out.cel 1 _ rfl
        have f2 := HXN.out.cel 2 _ rfl
        have fl := HXN.out.lt
        have c3 := HX.out.cel 3 _ rfl
        cases t1 : decide (n.mem < SM)
        · cases t2 : decide (wrap64 (n.cpu * s.over) < wrap64 (SC * 100))
          · have E2 : Hid (V = 0) := (show V = 0 by rw [E1.out, if_neg (of_decide_eq_false t1), if_neg (of_decide_eq_false t2)])
            clear E1
            go_wp2
            go_ret
            exact ⟨ret_int E2.out.symm, hbb ▸ HB.out⟩
          · have E2 : Hid (V = 8) := (show V = 8 by rw [E1.out, if_neg (of_decide_eq_false t1), if_pos (of_decide_eq_true t2)])
            clear E1
            go_wp2
            go_ret
            exact ⟨ret_int E2.out.symm, hbb ▸ HB.out⟩
        · have E2 : Hid (V = 2) := (show V = 2 by rw [E1.out, if_pos (of_decide_eq_true t1)])
          clear E1
          go_wp2
          go_ret
          exact ⟨ret_int E2.out.symm, hbb ▸ HB.out⟩
  have E : Hid (V = if s.vms.any (cfl s q v) then 9 else if n.mem < smW VMC.mem (onB s q v.name) v.mem (s.vms.take s.vms.length) then 2 else if wrap64 (n.cpu * s.over) < wrap64 (smW VMC.cpu (onB s q v.name) v.cpu (s.vms.take s.vms.length) * 100) then 8 else 0) := HE.out.trans (if_neg (by simp at q0; simp [q0]))
  clear HE
  go_wp2
  clear q0 e2 e3 e4 el c3 cl f3 fl
  go_loopw [8, 9, 10] (fun c m i wr => ∃ k : Nat, k ≤ s.vms.length ∧ c = .int .i64 (smW VMC.cpu (onB s q v.name) v.cpu (s.vms.take k)) ∧ m = .int .i64 (smW VMC.mem (onB s q v.name) v.mem (s.vms.take k)) ∧ i = .int .i64 k ∧ (∀ j (hj : j < s.vms.length), j < k → cfl s q v s.vms[j] = false) ∧ LG w wr bb #[.slice (some ⟨g, o, none⟩) s.nodes.length kn, .slice av s.vms.length kv, .slice ae s.tenants.length ke, .int .i64 s.over, .int .i64 s.time] 37 ∧ LG w wr bv #[.string v.name, .int .i64 v.tenant, .int .i64 v.cpu, .int .i64 v.mem, .int .i64 v.zone, .int .i64 v.apart, .string v.node, .int .i64 v.epoch] 71 ∧ LG w wr bn #[.string n.name, .int .i64 n.cpu, .int .i64 n.mem, .int .i64 n.zone, .int .i64 n.beat, .bool n.fenced, .bool n.closed] 97) (fun _ _ i _ => s.vms.length - (intOf i).toNat)
  case atStart => exact ⟨0, Nat.zero_le _, rfl, rfl, rfl, fun j hj h => absurd h (by omega), HL1.out, HV1.out, HN1.out⟩
  case round =>
    obtain ⟨k, hk, rfl, rfl, rfl, hno, hb, hb2, hb3⟩ := hrel
    have HX : Hid (LG w wr bb #[.slice (some ⟨g, o, none⟩) s.nodes.length kn, .slice av s.vms.length kv, .slice ae s.tenants.length ke, .int .i64 s.over, .int .i64 s.time] 37) := hb
    have HXV : Hid (LG w wr bv #[.string v.name, .int .i64 v.tenant, .int .i64 v.cpu, .int .i64 v.mem, .int .i64 v.zone, .int .i64 v.apart, .string v.node, .int .i64 v.epoch] 71) := hb2
    have HXN : Hid (LG w wr bn #[.string n.name, .int .i64 n.cpu, .int .i64 n.mem, .int .i64 n.zone, .int .i64 n.beat, .bool n.fenced, .bool n.closed] 97) := hb3
    have HB : Hid (Below w.heap.size w wr) := hb.bel
    have HN : Hid (∀ j (hj : j < s.vms.length), j < k → cfl s q v s.vms[j] = false) := hno
    clear hno hb hb2 hb3 HL1 HV1 HN1
    have c1 := HX.out.cel 1 _ rfl
    have cl := HX.out.lt
    by_cases hlt : k < s.vms.length
    · skip
      obtain ⟨g2, o2, cap2, hv, _, hg, hc⟩ := HR.out.resolve_left (fun h => by rw [h.1] at hlt; simp at hlt)
      injection hv with hv1 hv2 hv3
      subst hv1 hv3
      have hgw : g2 < wr.heap.size := Nat.lt_of_lt_of_le hg HB.out.size
      have hk0 : (0 : Int) ≤ (k : Int) := by omega
      have hk1 : (k : Int) < (s.vms.length : Int) := by omega
      obtain ⟨d0, d1, d2, d3, d4, d5, d6, d7⟩ := hc.below HB.out hg k hlt
      have HSC : Hid (smW VMC.cpu (onB s q v.name) v.cpu (s.vms.take (k + 1)) = _) := smW_succ hlt
      have HSM : Hid (smW VMC.mem (onB s q v.name) v.mem (s.vms.take (k + 1)) = _) := smW_succ hlt
      generalize smW VMC.cpu (onB s q v.name) v.cpu (s.vms.take k) = SC at *
      generalize smW VMC.mem (onB s q v.name) v.mem (s.vms.take k) = SM at *
      have H9 : Hid (cfl s q v s.vms[k] = true → V = 9) := fun h9 => E.out.trans (if_pos (List.any_eq_true.2 ⟨_, List.getElem_mem hlt, h9⟩))
      have HN2 : Hid (cfl s q v s.vms[k] = false → ∀ j (hj : j < s.vms.length), j < k + 1 → cfl s q v s.vms[j] = false) := fun h1 j hj h2 => if h3 : j < k then HN.out j hj h3 else by
        obtain rfl : j = k := by omega
        exact h1
      have HON1 := HON.out s.vms[k]
      have HCF1 := HCF.out s.vms[k]
      clear hc E HN HON HCF
      generalize s.vms[k] = x at *
      have HON2 : Hid _ := HON1
      have HCF2 : Hid _ := HCF1
      clear HON1 HCF1
      go_upto_region 10 with fail
      have HX2 : Hid (LG w (wr.alloc (.cells #[.string x.name, .int .i64 x.tenant, .int .i64 x.cpu, .int .i64 x.mem, .int .i64 x.zone, .int .i64 x.apart, .string x.node, .int .i64 x.epoch] 71)) bb #[.slice (some ⟨g, o, none⟩) s.nodes.length kn, .slice (some ⟨g2, o2, none⟩) s.vms.length kv, .slice ae s.tenants.length ke, .int .i64 s.over, .int .i64 s.time] 37) := HX.out.next
      have HXV2 : Hid (LG w (wr.alloc (.cells #[.string x.name, .int .i64 x.tenant, .int .i64 x.cpu, .int .i64 x.mem, .int .i64 x.zone, .int .i64 x.apart, .string x.node, .int .i64 x.epoch] 71)) bv #[.string v.name, .int .i64 v.tenant, .int .i64 v.cpu, .int .i64 v.mem, .int .i64 v.zone, .int .i64 v.apart, .string v.node, .int .i64 v.epoch] 71) := HXV.out.next
      have HXN2 : Hid (LG w (wr.alloc (.cells #[.string x.name, .int .i64 x.tenant, .int .i64 x.cpu, .int .i64 x.mem, .int .i64 x.zone, .int .i64 x.apart, .string x.node, .int .i64 x.epoch] 71)) bn #[.string n.name, .int .i64 n.cpu, .int .i64 n.mem, .int .i64 n.zone, .int .i64 n.beat, .bool n.fenced, .bool n.closed] 97) := HXN.out.next
      have HXX : Hid (LG w (wr.alloc (.cells #[.string x.name, .int .i64 x.tenant, .int .i64 x.cpu, .int .i64 x.mem, .int .i64 x.zone, .int .i64 x.apart, .string x.node, .int .i64 x.epoch] 71)) wr.heap.size #[.string x.name, .int .i64 x.tenant, .int .i64 x.cpu, .int .i64 x.mem, .int .i64 x.zone, .int .i64 x.apart, .string x.node, .int .i64 x.epoch] 71) := LG.mk2 HB.out
      clear HX HXV HXN HB d0 d1 d2 d3 d4 d5 d6 d7 hgw c1 cl hk0 hk1
      generalize (wr.alloc (.cells #[.string x.name, .int .i64 x.tenant, .int .i64 x.cpu, .int .i64 x.mem, .int .i64 x.zone, .int .i64 x.apart, .string x.node, .int .i64 x.epoch] 71)) = u2 at *
      generalize wr.heap.size = bx at *
      have e0 := HXV2.out.cel 0 _ rfl
      have e1 := HXV2.out.cel 1 _ rfl
      have e5 := HXV2.out.cel 5 _ rfl
      have x0 := HXX.out.cel 0 _ rfl
      have x1 := HXX.out.cel 1 _ rfl
      have x2 := HXX.out.cel 2 _ rfl
      have x3 := HXX.out.cel 3 _ rfl
      have x5 := HXX.out.cel 5 _ rfl
      have x6 := HXX.out.cel 6 _ rfl
      have f0 := HXN2.out.cel 0 _ rfl
      have el := HXV2.out.lt
      have xl := HXX.out.lt
      have fl := HXN2.out.lt
      cases t1 : (x.node.toList == n.name.toList)
      · have hon : onB s q v.name x = false := by rw [HON2.out, t1]; rfl
        have E4 : Hid _ := HN2.out (by rw [HCF2.out, hon]; simp)
        clear HN2 HCF2
        have E2 : Hid (smW VMC.cpu (onB s q v.name) v.cpu (s.vms.take (k + 1)) = SC) := HSC.out.trans (if_neg (by simp [hon]))
        have E3 : Hid (smW VMC.mem (onB s q v.name) v.mem (s.vms.take (k + 1)) = SM) := HSM.out.trans (if_neg (by simp [hon]))
        clear HSC HSM H9 hon HON2
        go_wp2
        exact ⟨⟨k + 1, hlt, by rw [E2.out], by rw [E3.out], by go_num, E4.out, HX2.out, HXV2.out, HXN2.out⟩, by simp [intOf]; omega⟩
      · cases t2 : (x.name.toList == v.name.toList)
        rotate_left
        · have hon : onB s q v.name x = false := by rw [HON2.out, t1, t2]; rfl
          have E4 : Hid _ := HN2.out (by rw [HCF2.out, hon]; simp)
          clear HN2 HCF2
          have E2 : Hid (smW VMC.cpu (onB s q v.name) v.cpu (s.vms.take (k + 1)) = SC) := HSC.out.trans (if_neg (by simp [hon]))
          have E3 : Hid (smW VMC.mem (onB s q v.name) v.mem (s.vms.take (k + 1)) = SM) := HSM.out.trans (if_neg (by simp [hon]))
          clear HSC HSM H9 hon HON2
          go_wp2
          exact ⟨⟨k + 1, hlt, by rw [E2.out], by rw [E3.out], by go_num, E4.out, HX2.out, HXV2.out, HXN2.out⟩, by simp [intOf]; omega⟩
        · have hon : onB s q v.name x = true := by rw [HON2.out, t1, t2]; rfl
          cases t3 : (v.apart != 0)
          · skip
            have E4 : Hid _ := HN2.out (by rw [HCF2.out, hon]; simp at *; simp [*])
            clear HN2 HCF2
            have E2 : Hid (smW VMC.cpu (onB s q v.name) v.cpu (s.vms.take (k + 1)) = wrap64 (SC + x.cpu)) := HSC.out.trans (if_pos hon)
            have E3 : Hid (smW VMC.mem (onB s q v.name) v.mem (s.vms.take (k + 1)) = wrap64 (SM + x.mem)) := HSM.out.trans (if_pos hon)
            clear HSC HSM H9 hon HON2
            go_wp2
            exact ⟨⟨k + 1, hlt, by rw [E2.out], by rw [E3.out], by go_num, E4.out, HX2.out, HXV2.out, HXN2.out⟩, by simp [intOf]; omega⟩
          · cases t4 : (x.tenant == v.tenant)
            · skip
              have E4 : Hid _ := HN2.out (by rw [HCF2.out, hon]; simp at *; simp [*])
              clear HN2 HCF2
              have E2 : Hid (smW VMC.cpu (onB s q v.name) v.cpu (s.vms.take (k + 1)) = wrap64 (SC + x.cpu)) := HSC.out.trans (if_pos hon)
              have E3 : Hid (smW VMC.mem (onB s q v.name) v.mem (s.vms.take (k + 1)) = wrap64 (SM + x.mem)) := HSM.out.trans (if_pos hon)
              clear HSC HSM H9 hon HON2
              go_wp2
              exact ⟨⟨k + 1, hlt, by rw [E2.out], by rw [E3.out], by go_num, E4.out, HX2.out, HXV2.out, HXN2.out⟩, by simp [intOf]; omega⟩
            · cases t5 : (x.apart == v.apart)
              · skip
                have E4 : Hid _ := HN2.out (by rw [HCF2.out, hon]; simp at *; simp [*])
                clear HN2 HCF2
                have E2 : Hid (smW VMC.cpu (onB s q v.name) v.cpu (s.vms.take (k + 1)) = wrap64 (SC + x.cpu)) := HSC.out.trans (if_pos hon)
                have E3 : Hid (smW VMC.mem (onB s q v.name) v.mem (s.vms.take (k + 1)) = wrap64 (SM + x.mem)) := HSM.out.trans (if_pos hon)
                clear HSC HSM H9 hon HON2
                go_wp2
                exact ⟨⟨k + 1, hlt, by rw [E2.out], by rw [E3.out], by go_num, E4.out, HX2.out, HXV2.out, HXN2.out⟩, by simp [intOf]; omega⟩
              · have E4 : Hid (V = 9) := H9.out (by rw [HCF2.out, hon]; simp at *; simp [*])
                clear HN2 HCF2 HSC HSM H9 hon HON2
                go_wp2
                go_ret
                exact ⟨ret_int E4.out.symm, hbb ▸ HX2.out.bel⟩
    · obtain rfl : k = s.vms.length := by omega
      have E1 : Hid (V = if n.mem < smW VMC.mem (onB s q v.name) v.mem (s.vms.take s.vms.length) then 2 else if wrap64 (n.cpu * s.over) < wrap64 (smW VMC.cpu (onB s q v.name) v.cpu (s.vms.take s.vms.length) * 100) then 8 else 0) := E.out.trans (if_neg (by rw [List.any_eq_true]; rintro ⟨x, hx, h9⟩; obtain ⟨j, hj, rfl⟩ := List.getElem_of_mem hx; rw [HN.out j hj hj] at h9; cases h9))
      clear E HN HON HCF
      generalize smW VMC.cpu (onB s q v.name) v.cpu (s.vms.take s.vms.length) = SC at *
      generalize smW VMC.mem (onB s q v.name) v.mem (s.vms.take s.vms.length) = SM at *
      have f1 := HXN.out.cel 1 _ rfl
      have f2 := HXN.out.cel 2 _ rfl
      have fl := HXN.out.lt
      have c3 := HX.out.cel 3 _ rfl
      cases t1 : decide (n.mem < SM)
      · cases t2 : decide (wrap64 (n.cpu * s.over) < wrap64 (SC * 100))
        · have E2 : Hid (V = 0) := (show V = 0 by rw [E1.out, if_neg (of_decide_eq_false t1), if_neg (of_decide_eq_false t2)])
          clear E1
          go_wp2
          go_ret
          exact ⟨ret_int E2.out.symm, hbb ▸ HB.out⟩
        · have E2 : Hid (V = 8) := (show V = 8 by rw [E1.out, if_neg (of_decide_eq_false t1), if_pos (of_decide_eq_true t2)])
          clear E1
          go_wp2
          go_ret
          exact ⟨ret_int E2.out.symm, hbb ▸ HB.out⟩
      · have E2 : Hid (V = 2) := (show V = 2 by rw [E1.out, if_pos (of_decide_eq_true t1)])
        clear E1
        go_wp2
        go_ret
        exact ⟨ret_int E2.out.symm, hbb ▸ HB.out⟩
end Go.Proofs.YtalpcjclahkgnaaGreat
