import Derived.Test.YtalpcjclahkgnaaGreatCs2
import Derived.BigQuiet
import Derived.Deep.QuietTactic
namespace Go.Proofs.YtalpcjclahkgnaaGreat
open Go.ChangeShapes Go.WideShapes Go.ChangeAt Go.RowKit

theorem LG.drewN {w u : World} {b t : Nat} {cs : Array Value} (h : LG w u b cs t) (n : Nat) : LG w (u.drewN n) b cs t := ⟨bdn h.bel n, h.box, h.ge⟩
theorem nkB_0 {s : CL} (h : 0 < s.nodes.length) : nkB s 0 = (nmB s.nodes[0].name && nodB s.time s.nodes[0]) := by
  simp [nkB, ndA_at h]
theorem nkB_s {s : CL} {k : Nat} (h : k + 1 < s.nodes.length) : nkB s (k + 1) = (nmB s.nodes[k + 1].name && tlt s.nodes[k].name s.nodes[k + 1].name && nodB s.time s.nodes[k + 1]) := by
  simp [nkB, ndA_at h, ndA_at (show k < s.nodes.length by omega)]
theorem nosB_long {s : CL} (h : 12 < (s.nodes.length : Int)) : nosB s = false := by
  have e : decide ((s.nodes.length : Int) ≤ 12) = false := decide_eq_false (by omega)
  unfold nosB
  rw [e]
  rfl
theorem nosB_short {s : CL} (h : ¬ 12 < (s.nodes.length : Int)) : nosB s = allD (nkB s) s.nodes.length := by
  have e : decide ((s.nodes.length : Int) ≤ 12) = true := decide_eq_true (by omega)
  unfold nosB
  rw [e]
  rfl
set_option maxRecDepth 100000 in
set_option maxHeartbeats 4000000 in
theorem l22Nodes_any {w : World} {s : CL} {a : CA} (h : CLRows w s a) : Calls Tryz.prog 26 #[clA s a] w fun e w' => e = .returned (.bool (nosB s)) ∧ Below w.heap.size w w' := by
  obtain ⟨an, kn, av, kv, ae, ke, e⟩ := h.sl
  subst e
  have HR : Hid (NODrow w (.slice an s.nodes.length kn) s.nodes) := h.rnodes
  clear h
  have HL0 : Hid (LG w (w.alloc (.cells #[.slice an s.nodes.length kn, .slice av s.vms.length kv, .slice ae s.tenants.length ke, .int .i64 s.over, .int .i64 s.time] 37)) w.heap.size #[.slice an s.nodes.length kn, .slice av s.vms.length kv, .slice ae s.tenants.length ke, .int .i64 s.over, .int .i64 s.time] 37) := LG.new w _ _
  unfold clA clC
  simp only
  cases q0 : decide (12 < (s.nodes.length : Int))
  rotate_left
  · have E : Hid (nosB s = false) := nosB_long (of_decide_eq_true q0)
    generalize nosB s = V at *
    go_enter Tryz.func26, Tryz.ntmps26
    go_upto_region 1 with fail
    generalize (w.alloc (.cells #[.slice an s.nodes.length kn, .slice av s.vms.length kv, .slice ae s.tenants.length ke, .int .i64 s.over, .int .i64 s.time] 37)) = u0 at *
    have k0 := HL0.out.cel 0 _ rfl
    have kl := HL0.out.lt
    go_wp2
    go_ret
    exact ⟨ret_bool E.out.symm, HL0.out.bel⟩
  have E : Hid (nosB s = allD (nkB s) s.nodes.length) := nosB_short (of_decide_eq_false q0)
  have hl : s.nodes.length ≤ 12 := by have := of_decide_eq_false q0; omega
  generalize nosB s = V at *
  go_enter Tryz.func26, Tryz.ntmps26
  go_upto_region 1 with fail
  generalize (w.alloc (.cells #[.slice an s.nodes.length kn, .slice av s.vms.length kv, .slice ae s.tenants.length ke, .int .i64 s.over, .int .i64 s.time] 37)) = u0 at *
  have k0 := HL0.out.cel 0 _ rfl
  have kl := HL0.out.lt
  go_wp2
  clear k0 kl q0
  generalize hbb : w.heap.size = bb at HL0 ⊢
  go_loopw [3] (fun i wr => ∃ k : Nat, k ≤ s.nodes.length ∧ i = .int .i64 k ∧ allD (nkB s) k = true ∧ LG w wr bb #[.slice an s.nodes.length kn, .slice av s.vms.length kv, .slice ae s.tenants.length ke, .int .i64 s.over, .int .i64 s.time] 37) (fun i _ => s.nodes.length - (intOf i).toNat)
  case atStart => exact ⟨0, Nat.zero_le _, rfl, rfl, HL0.out⟩
  case round =>
    obtain ⟨k, hk, rfl, hall, hb⟩ := hrel
    have HX : Hid (LG w wr bb #[.slice an s.nodes.length kn, .slice av s.vms.length kv, .slice ae s.tenants.length ke, .int .i64 s.over, .int .i64 s.time] 37) := hb
    have HB : Hid (Below w.heap.size w wr) := hb.bel
    have HALL : Hid (allD (nkB s) k = true) := hall
    clear hall hb HL0
    have c0 := HX.out.cel 0 _ rfl
    have cl := HX.out.lt
    by_cases hlt : k < s.nodes.length
    · skip
      obtain ⟨g, o, cap2, hv, _, hg, hc⟩ := HR.out.resolve_left (fun h => by rw [h.1] at hlt; simp at hlt)
      injection hv with hv1 hv2 hv3
      subst hv1 hv3
      have hgw : g < wr.heap.size := Nat.lt_of_lt_of_le hg HB.out.size
      have hk0 : (0 : Int) ≤ (k : Int) := by omega
      have hk1 : (k : Int) < (s.nodes.length : Int) := by omega
      have HS : Hid (allD (nkB s) (k + 1) = (allD (nkB s) k && nkB s k)) := allD_succ _ _
      have HBAD : Hid (nkB s k = false → V = false) := fun hh => by rw [E.out, allD_bad hlt hh]
      match k, hlt, hk, hk0, hk1, HALL, HS, HBAD with
      | 0, hlt, hk, hk0, hk1, HALL, HS, HBAD =>
        obtain ⟨d0, d1, d2, d3, d4, d5, d6⟩ := hc.below HB.out hg 0 hlt
        simp only [Nat.zero_mul, Nat.add_zero] at d0 d1 d2 d3 d4 d5 d6
        have HEK : Hid (nkB s 0 = (nmB s.nodes[0].name && nodB s.time s.nodes[0])) := nkB_0 hlt
        have hj4 : decide ((0 : Int) < ((0 : Nat) : Int)) = false := rfl
        generalize s.nodes[0] = z at *
        have HE : Hid (nodB s.time z = (decide (1 ≤ z.cpu) && decide (z.cpu ≤ 64) && decide (1 ≤ z.mem) && decide (z.mem ≤ 1000) && decide (1 ≤ z.zone) && decide (z.zone ≤ 20) && decide (0 ≤ z.beat) && decide (z.beat ≤ s.time))) := rfl
        generalize nodB s.time z = NB at *
        have HNM : Hid (∀ u, Calls Tryz.prog 31 #[.string z.name] u fun e w' => e = .returned (.bool (nmB z.name)) ∧ w' = u) := fun u => l13Name_any _ u
        generalize nmB z.name = NM at *
        go_upto_region 7 with fail
        have HX2 : Hid (LG w (wr.alloc (.cells #[.string z.name, .int .i64 z.cpu, .int .i64 z.mem, .int .i64 z.zone, .int .i64 z.beat, .bool z.fenced, .bool z.closed] 97)) bb #[.slice (some ⟨g, o, none⟩) s.nodes.length kn, .slice av s.vms.length kv, .slice ae s.tenants.length ke, .int .i64 s.over, .int .i64 s.time] 37) := HX.out.next
        have HZ2 : Hid (LG w (wr.alloc (.cells #[.string z.name, .int .i64 z.cpu, .int .i64 z.mem, .int .i64 z.zone, .int .i64 z.beat, .bool z.fenced, .bool z.closed] 97)) wr.heap.size #[.string z.name, .int .i64 z.cpu, .int .i64 z.mem, .int .i64 z.zone, .int .i64 z.beat, .bool z.fenced, .bool z.closed] 97) := LG.mk2 HB.out
        clear d0 d1 d2 d3 d4 d5 d6 hc c0 cl HX E HR HB hk0 hk1
        generalize (wr.alloc (.cells #[.string z.name, .int .i64 z.cpu, .int .i64 z.mem, .int .i64 z.zone, .int .i64 z.beat, .bool z.fenced, .bool z.closed] 97)) = u0 at *
        generalize wr.heap.size = b0 at *
        have x0 := HZ2.out.cel 0 _ rfl
        have x1 := HZ2.out.cel 1 _ rfl
        have x2 := HZ2.out.cel 2 _ rfl
        have x3 := HZ2.out.cel 3 _ rfl
        have x4 := HZ2.out.cel 4 _ rfl
        have c0 := HX2.out.cel 0 _ rfl
        have c4 := HX2.out.cel 4 _ rfl
        have cl := HX2.out.lt
        have xl := HZ2.out.lt
        cases NM
        · skip
          have E2 : Hid (V = false) := HBAD.out (HEK.out.trans (by rw [HE.out]; simp; try omega))
          clear HS HEK HBAD HE HALL
          go_quiet ((go_at_call 31; exact Calls.quiet_of_same (HNM.out _)))
          go_wp2
          go_ret
          exact ⟨ret_bool E2.out.symm, hbb ▸ (HX2.out.drewN _).bel⟩
        · skip
          cases q1 : decide (z.cpu < 1)
          · skip
            cases q2 : decide (64 < z.cpu)
            · skip
              cases q3 : decide (z.mem < 1)
              · skip
                cases q4 : decide (1000 < z.mem)
                · skip
                  cases q5 : decide (z.zone < 1)
                  · skip
                    cases q6 : decide (20 < z.zone)
                    · skip
                      cases q7 : decide (z.beat < 0)
                      · skip
                        cases q8 : decide (s.time < z.beat)
                        · skip
                          have E2 : Hid (allD (nkB s) (1) = true) := (show allD (nkB s) (0 + 1) = true by rw [HS.out, HALL.out, HEK.out, HE.out]; have r1 := of_decide_eq_false q1; have r2 := of_decide_eq_false q2; have r3 := of_decide_eq_false q3; have r4 := of_decide_eq_false q4; have r5 := of_decide_eq_false q5; have r6 := of_decide_eq_false q6; have r7 := of_decide_eq_false q7; have r8 := of_decide_eq_false q8; simp; try omega)
                          clear HS HEK HBAD HE HALL
                          go_quiet ((go_at_call 31; exact Calls.quiet_of_same (HNM.out _)))
                          go_wp2
                          exact ⟨⟨1, hlt, by go_num, E2.out, HX2.out.drewN _⟩, by simp [intOf]; omega⟩
                        · skip
                          have E2 : Hid (V = false) := HBAD.out (HEK.out.trans (by rw [HE.out]; have r1 := of_decide_eq_false q1; have r2 := of_decide_eq_false q2; have r3 := of_decide_eq_false q3; have r4 := of_decide_eq_false q4; have r5 := of_decide_eq_false q5; have r6 := of_decide_eq_false q6; have r7 := of_decide_eq_false q7; have r8 := of_decide_eq_true q8; simp; try omega))
                          clear HS HEK HBAD HE HALL
                          go_quiet ((go_at_call 31; exact Calls.quiet_of_same (HNM.out _)))
                          go_wp2
                          go_ret
                          exact ⟨ret_bool E2.out.symm, hbb ▸ (HX2.out.drewN _).bel⟩
                      · skip
                        have E2 : Hid (V = false) := HBAD.out (HEK.out.trans (by rw [HE.out]; have r1 := of_decide_eq_false q1; have r2 := of_decide_eq_false q2; have r3 := of_decide_eq_false q3; have r4 := of_decide_eq_false q4; have r5 := of_decide_eq_false q5; have r6 := of_decide_eq_false q6; have r7 := of_decide_eq_true q7; simp; try omega))
                        clear HS HEK HBAD HE HALL
                        go_quiet ((go_at_call 31; exact Calls.quiet_of_same (HNM.out _)))
                        go_wp2
                        go_ret
                        exact ⟨ret_bool E2.out.symm, hbb ▸ (HX2.out.drewN _).bel⟩
                    · skip
                      have E2 : Hid (V = false) := HBAD.out (HEK.out.trans (by rw [HE.out]; have r1 := of_decide_eq_false q1; have r2 := of_decide_eq_false q2; have r3 := of_decide_eq_false q3; have r4 := of_decide_eq_false q4; have r5 := of_decide_eq_false q5; have r6 := of_decide_eq_true q6; simp; try omega))
                      clear HS HEK HBAD HE HALL
                      go_quiet ((go_at_call 31; exact Calls.quiet_of_same (HNM.out _)))
                      go_wp2
                      go_ret
                      exact ⟨ret_bool E2.out.symm, hbb ▸ (HX2.out.drewN _).bel⟩
                  · skip
                    have E2 : Hid (V = false) := HBAD.out (HEK.out.trans (by rw [HE.out]; have r1 := of_decide_eq_false q1; have r2 := of_decide_eq_false q2; have r3 := of_decide_eq_false q3; have r4 := of_decide_eq_false q4; have r5 := of_decide_eq_true q5; simp; try omega))
                    clear HS HEK HBAD HE HALL
                    go_quiet ((go_at_call 31; exact Calls.quiet_of_same (HNM.out _)))
                    go_wp2
                    go_ret
                    exact ⟨ret_bool E2.out.symm, hbb ▸ (HX2.out.drewN _).bel⟩
                · skip
                  have E2 : Hid (V = false) := HBAD.out (HEK.out.trans (by rw [HE.out]; have r1 := of_decide_eq_false q1; have r2 := of_decide_eq_false q2; have r3 := of_decide_eq_false q3; have r4 := of_decide_eq_true q4; simp; try omega))
                  clear HS HEK HBAD HE HALL
                  go_quiet ((go_at_call 31; exact Calls.quiet_of_same (HNM.out _)))
                  go_wp2
                  go_ret
                  exact ⟨ret_bool E2.out.symm, hbb ▸ (HX2.out.drewN _).bel⟩
              · skip
                have E2 : Hid (V = false) := HBAD.out (HEK.out.trans (by rw [HE.out]; have r1 := of_decide_eq_false q1; have r2 := of_decide_eq_false q2; have r3 := of_decide_eq_true q3; simp; try omega))
                clear HS HEK HBAD HE HALL
                go_quiet ((go_at_call 31; exact Calls.quiet_of_same (HNM.out _)))
                go_wp2
                go_ret
                exact ⟨ret_bool E2.out.symm, hbb ▸ (HX2.out.drewN _).bel⟩
            · skip
              have E2 : Hid (V = false) := HBAD.out (HEK.out.trans (by rw [HE.out]; have r1 := of_decide_eq_false q1; have r2 := of_decide_eq_true q2; simp; try omega))
              clear HS HEK HBAD HE HALL
              go_quiet ((go_at_call 31; exact Calls.quiet_of_same (HNM.out _)))
              go_wp2
              go_ret
              exact ⟨ret_bool E2.out.symm, hbb ▸ (HX2.out.drewN _).bel⟩
          · skip
            have E2 : Hid (V = false) := HBAD.out (HEK.out.trans (by rw [HE.out]; have r1 := of_decide_eq_true q1; simp; try omega))
            clear HS HEK HBAD HE HALL
            go_quiet ((go_at_call 31; exact Calls.quiet_of_same (HNM.out _)))
            go_wp2
            go_ret
            exact ⟨ret_bool E2.out.symm, hbb ▸ (HX2.out.drewN _).bel⟩
      | j + 1, hlt, hk, hk0, hk1, HALL, HS, HBAD =>
        obtain ⟨d0, d1, d2, d3, d4, d5, d6⟩ := hc.below HB.out hg (j + 1) hlt
        obtain ⟨y0, _⟩ := hc.below HB.out hg j (by omega)
        have HEK : Hid (nkB s (j + 1) = (nmB s.nodes[j + 1].name && tlt s.nodes[j].name s.nodes[j + 1].name && nodB s.time s.nodes[j + 1])) := nkB_s hlt
        generalize s.nodes[j] = y at *
        have hj1 : ((j + 1 : Nat) : Int) - 1 = (j : Int) := by omega
        have hj2 : (j : Int) < (s.nodes.length : Int) := by omega
        have hj3 : (0 : Int) ≤ (j : Int) := by omega
        have hj4 : decide ((0 : Int) < ((j + 1 : Nat) : Int)) = true := decide_eq_true (by omega)
        have hj5 : IntKind.i64.wrap (j : Int) = (j : Int) := by rw [IntKind.wrap_i64]; omega
        generalize s.nodes[j + 1] = z at *
        have HE : Hid (nodB s.time z = (decide (1 ≤ z.cpu) && decide (z.cpu ≤ 64) && decide (1 ≤ z.mem) && decide (z.mem ≤ 1000) && decide (1 ≤ z.zone) && decide (z.zone ≤ 20) && decide (0 ≤ z.beat) && decide (z.beat ≤ s.time))) := rfl
        generalize nodB s.time z = NB at *
        have HNM : Hid (∀ u, Calls Tryz.prog 31 #[.string z.name] u fun e w' => e = .returned (.bool (nmB z.name)) ∧ w' = u) := fun u => l13Name_any _ u
        generalize nmB z.name = NM at *
        have hbl : Op.bytesLess y.name.toList z.name.toList = tlt y.name z.name := rfl
        generalize tlt y.name z.name = TL at *
        go_upto_region 7 with fail
        have HX2 : Hid (LG w (wr.alloc (.cells #[.string z.name, .int .i64 z.cpu, .int .i64 z.mem, .int .i64 z.zone, .int .i64 z.beat, .bool z.fenced, .bool z.closed] 97)) bb #[.slice (some ⟨g, o, none⟩) s.nodes.length kn, .slice av s.vms.length kv, .slice ae s.tenants.length ke, .int .i64 s.over, .int .i64 s.time] 37) := HX.out.next
        have HZ2 : Hid (LG w (wr.alloc (.cells #[.string z.name, .int .i64 z.cpu, .int .i64 z.mem, .int .i64 z.zone, .int .i64 z.beat, .bool z.fenced, .bool z.closed] 97)) wr.heap.size #[.string z.name, .int .i64 z.cpu, .int .i64 z.mem, .int .i64 z.zone, .int .i64 z.beat, .bool z.fenced, .bool z.closed] 97) := LG.mk2 HB.out
        have y1 : (wr.alloc (.cells #[.string z.name, .int .i64 z.cpu, .int .i64 z.mem, .int .i64 z.zone, .int .i64 z.beat, .bool z.fenced, .bool z.closed] 97)).cell? ⟨g, o + j * 7, none⟩ = _ := ((bx1 wr _).cell (p := ⟨g, o + j * 7, none⟩) hgw).trans y0
        have gl : g < (wr.alloc (.cells #[.string z.name, .int .i64 z.cpu, .int .i64 z.mem, .int .i64 z.zone, .int .i64 z.beat, .bool z.fenced, .bool z.closed] 97)).heap.size := Nat.lt_of_lt_of_le hgw (bx1 wr _).size
        clear d0 d1 d2 d3 d4 d5 d6 hc c0 cl HX E HR HB hk0 hk1 y0
        generalize (wr.alloc (.cells #[.string z.name, .int .i64 z.cpu, .int .i64 z.mem, .int .i64 z.zone, .int .i64 z.beat, .bool z.fenced, .bool z.closed] 97)) = u0 at *
        generalize wr.heap.size = b0 at *
        have x0 := HZ2.out.cel 0 _ rfl
        have x1 := HZ2.out.cel 1 _ rfl
        have x2 := HZ2.out.cel 2 _ rfl
        have x3 := HZ2.out.cel 3 _ rfl
        have x4 := HZ2.out.cel 4 _ rfl
        have c0 := HX2.out.cel 0 _ rfl
        have c4 := HX2.out.cel 4 _ rfl
        have cl := HX2.out.lt
        have xl := HZ2.out.lt
        cases NM
        · skip
          have E2 : Hid (V = false) := HBAD.out (HEK.out.trans (by rw [HE.out]; simp; try omega))
          clear HS HEK HBAD HE HALL
          go_quiet ((go_at_call 31; exact Calls.quiet_of_same (HNM.out _)))
          go_wp2
          go_ret
          exact ⟨ret_bool E2.out.symm, hbb ▸ (HX2.out.drewN _).bel⟩
        · skip
          cases TL
          · skip
            have E2 : Hid (V = false) := HBAD.out (HEK.out.trans (by rw [HE.out]; simp; try omega))
            clear HS HEK HBAD HE HALL
            go_quiet ((go_at_call 31; exact Calls.quiet_of_same (HNM.out _)))
            go_wp2
            go_ret
            exact ⟨ret_bool E2.out.symm, hbb ▸ (HX2.out.drewN _).bel⟩
          · skip
            cases q2 : decide (z.cpu < 1)
            · skip
              cases q3 : decide (64 < z.cpu)
              · skip
                cases q4 : decide (z.mem < 1)
                · skip
                  cases q5 : decide (1000 < z.mem)
                  · skip
                    cases q6 : decide (z.zone < 1)
                    · skip
                      cases q7 : decide (20 < z.zone)
                      · skip
                        cases q8 : decide (z.beat < 0)
                        · skip
                          cases q9 : decide (s.time < z.beat)
                          · skip
                            have E2 : Hid (allD (nkB s) (j + 1 + 1) = true) := (show allD (nkB s) (j + 1 + 1) = true by rw [HS.out, HALL.out, HEK.out, HE.out]; have r2 := of_decide_eq_false q2; have r3 := of_decide_eq_false q3; have r4 := of_decide_eq_false q4; have r5 := of_decide_eq_false q5; have r6 := of_decide_eq_false q6; have r7 := of_decide_eq_false q7; have r8 := of_decide_eq_false q8; have r9 := of_decide_eq_false q9; simp; try omega)
                            clear HS HEK HBAD HE HALL
                            go_quiet ((go_at_call 31; exact Calls.quiet_of_same (HNM.out _)))
                            go_wp2
                            exact ⟨⟨j + 1 + 1, hlt, by go_num, E2.out, HX2.out.drewN _⟩, by simp [intOf]; omega⟩
                          · skip
                            have E2 : Hid (V = false) := HBAD.out (HEK.out.trans (by rw [HE.out]; have r2 := of_decide_eq_false q2; have r3 := of_decide_eq_false q3; have r4 := of_decide_eq_false q4; have r5 := of_decide_eq_false q5; have r6 := of_decide_eq_false q6; have r7 := of_decide_eq_false q7; have r8 := of_decide_eq_false q8; have r9 := of_decide_eq_true q9; simp; try omega))
                            clear HS HEK HBAD HE HALL
                            go_quiet ((go_at_call 31; exact Calls.quiet_of_same (HNM.out _)))
                            go_wp2
                            go_ret
                            exact ⟨ret_bool E2.out.symm, hbb ▸ (HX2.out.drewN _).bel⟩
                        · skip
                          have E2 : Hid (V = false) := HBAD.out (HEK.out.trans (by rw [HE.out]; have r2 := of_decide_eq_false q2; have r3 := of_decide_eq_false q3; have r4 := of_decide_eq_false q4; have r5 := of_decide_eq_false q5; have r6 := of_decide_eq_false q6; have r7 := of_decide_eq_false q7; have r8 := of_decide_eq_true q8; simp; try omega))
                          clear HS HEK HBAD HE HALL
                          go_quiet ((go_at_call 31; exact Calls.quiet_of_same (HNM.out _)))
                          go_wp2
                          go_ret
                          exact ⟨ret_bool E2.out.symm, hbb ▸ (HX2.out.drewN _).bel⟩
                      · skip
                        have E2 : Hid (V = false) := HBAD.out (HEK.out.trans (by rw [HE.out]; have r2 := of_decide_eq_false q2; have r3 := of_decide_eq_false q3; have r4 := of_decide_eq_false q4; have r5 := of_decide_eq_false q5; have r6 := of_decide_eq_false q6; have r7 := of_decide_eq_true q7; simp; try omega))
                        clear HS HEK HBAD HE HALL
                        go_quiet ((go_at_call 31; exact Calls.quiet_of_same (HNM.out _)))
                        go_wp2
                        go_ret
                        exact ⟨ret_bool E2.out.symm, hbb ▸ (HX2.out.drewN _).bel⟩
                    · skip
                      have E2 : Hid (V = false) := HBAD.out (HEK.out.trans (by rw [HE.out]; have r2 := of_decide_eq_false q2; have r3 := of_decide_eq_false q3; have r4 := of_decide_eq_false q4; have r5 := of_decide_eq_false q5; have r6 := of_decide_eq_true q6; simp; try omega))
                      clear HS HEK HBAD HE HALL
                      go_quiet ((go_at_call 31; exact Calls.quiet_of_same (HNM.out _)))
                      go_wp2
                      go_ret
                      exact ⟨ret_bool E2.out.symm, hbb ▸ (HX2.out.drewN _).bel⟩
                  · skip
                    have E2 : Hid (V = false) := HBAD.out (HEK.out.trans (by rw [HE.out]; have r2 := of_decide_eq_false q2; have r3 := of_decide_eq_false q3; have r4 := of_decide_eq_false q4; have r5 := of_decide_eq_true q5; simp; try omega))
                    clear HS HEK HBAD HE HALL
                    go_quiet ((go_at_call 31; exact Calls.quiet_of_same (HNM.out _)))
                    go_wp2
                    go_ret
                    exact ⟨ret_bool E2.out.symm, hbb ▸ (HX2.out.drewN _).bel⟩
                · skip
                  have E2 : Hid (V = false) := HBAD.out (HEK.out.trans (by rw [HE.out]; have r2 := of_decide_eq_false q2; have r3 := of_decide_eq_false q3; have r4 := of_decide_eq_true q4; simp; try omega))
                  clear HS HEK HBAD HE HALL
                  go_quiet ((go_at_call 31; exact Calls.quiet_of_same (HNM.out _)))
                  go_wp2
                  go_ret
                  exact ⟨ret_bool E2.out.symm, hbb ▸ (HX2.out.drewN _).bel⟩
              · skip
                have E2 : Hid (V = false) := HBAD.out (HEK.out.trans (by rw [HE.out]; have r2 := of_decide_eq_false q2; have r3 := of_decide_eq_true q3; simp; try omega))
                clear HS HEK HBAD HE HALL
                go_quiet ((go_at_call 31; exact Calls.quiet_of_same (HNM.out _)))
                go_wp2
                go_ret
                exact ⟨ret_bool E2.out.symm, hbb ▸ (HX2.out.drewN _).bel⟩
            · skip
              have E2 : Hid (V = false) := HBAD.out (HEK.out.trans (by rw [HE.out]; have r2 := of_decide_eq_true q2; simp; try omega))
              clear HS HEK HBAD HE HALL
              go_quiet ((go_at_call 31; exact Calls.quiet_of_same (HNM.out _)))
              go_wp2
              go_ret
              exact ⟨ret_bool E2.out.symm, hbb ▸ (HX2.out.drewN _).bel⟩
    · obtain rfl : k = s.nodes.length := by omega
      have hnl : ¬ ((s.nodes.length : Nat) : Int) < (s.nodes.length : Int) := by omega
      have E2 : Hid (V = true) := (show V = true by rw [E.out, HALL.out])
      go_wp2
      go_ret
      exact ⟨ret_bool E2.out.symm, hbb ▸ HB.out⟩
end Go.Proofs.YtalpcjclahkgnaaGreat
