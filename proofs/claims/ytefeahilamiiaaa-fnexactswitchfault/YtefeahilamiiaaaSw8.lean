import Derived.Test.YtefeahilamiiaaaSw7
import Derived.Test.YtefeahilamiiaaaRt5
namespace Go.Proofs.Ytefeahilamiiaaa
open Go.ChangeShapes Go.WideShapes Go.ChangeAt Go.RowKit

def pkB (cs : List PO) (k : Nat) : Bool := portB (cs.getD k po0)
theorem gdp {zs : List PO} {k : Nat} (h : k < zs.length) : zs.getD k po0 = zs[k] := by simp [List.getD, List.getElem?_eq_getElem h]
def swB (s : SW) : Bool := bdB s && tabB s.ps.length s.time s.es && allB (pkB s.ps) s.ps.length
def swV (s : SW) : Int := if swB s = true then 0 else 1
theorem pq_val (c : PO) (x : PQ) (h : x = poQ c x.nets) : Value.agg #[.int .i64 x.net, x.nets, .int .i64 x.own, .bool x.up, .int .i64 x.rate, .int .i64 x.burst, .int .i64 x.lev] = poA c x.nets := by
  obtain ⟨x0, x1, x2, x3, x4, x5, x6⟩ := x
  simp only [poQ, PQ.mk.injEq, true_and] at h
  obtain ⟨rfl, rfl, rfl, rfl, rfl, rfl⟩ := h
  rfl
set_option maxRecDepth 100000 in
set_option maxHeartbeats 4000000 in
theorem swRight_any {w : World} {b : Nat} {s : SW} {a : SA} (h : SX w b s a) (hl : SLen s) : Calls Try.prog 35 #[.pointer (some ⟨b, 0, none⟩)] w fun r w' => r = .returned (.bool (swB s)) ∧ Below w.heap.size w w' := by
  have HX : Hid (SX w b s a) := h
  have HBD : Hid _ := bounded_any h
  have HTB : Hid _ := tableRight_any h hl
  obtain ⟨ap, kp, ep⟩ := h.sp
  have HEP : Hid (a.vp = .slice ap s.ps.length kp) := ep
  have HCF : Hid (∀ u, Below w.heap.size w u → Calls Try.prog 57 #[.slice ap s.ps.length kp, .func (.func 58) #[] #[]] u fun r w' => r = .returned (.bool (!allB (pkB s.ps) s.ps.length)) ∧ Below u.heap.size u w') := (fun u hu => by
    have hx := HX.out.below hu
    have hpo := hx.row.po
    have hc := containsPQ_any (w := u) (v := a.vp) (zs := a.qs) hx.row.pq (by rw [hpo.len]; exact hl.p.len) 58 (pkB s.ps) (fun k hk => by
      obtain ⟨x, c, e⟩ := (hpo.el k hk (by rw [← hpo.len]; exact hk)).2.sl
      exact ⟨x, _, c, e⟩) cfP (fun k hk w' hb => by
      have hk2 : k < s.ps.length := by rw [← hpo.len]; exact hk
      obtain ⟨e1, e2⟩ := hpo.el k hk hk2
      rw [pq_val _ _ e1]
      unfold pkB
      rw [gdp hk2]
      exact portFn_any s.ps[k] (e2.below hb))
    rw [hpo.len, ep] at hc
    exact hc)
  have E : Hid (swB s = (bdB s && tabB s.ps.length s.time s.es && allB (pkB s.ps) s.ps.length)) := rfl
  clear h ep hl
  cases h1 : bdB s
  · rw [h1] at HBD E
    go_enter Try.func35, Try.ntmps35
    go_wp2_with fail
    refine Calls.mono HBD.out ?_
    rintro r u1 ⟨rfl, hw1⟩
    rw [hw1]
    clear hw1
    go_wp2
    go_ret
    exact ⟨ret_bool (by rw [E.out]; rfl), Below.refl _ _⟩
  · rw [h1] at HBD E
    cases h2 : tabB s.ps.length s.time s.es
    · rw [h2] at HTB E
      go_enter Try.func35, Try.ntmps35
      go_wp2_with fail
      refine Calls.mono HBD.out ?_
      rintro r u1 ⟨rfl, hw1⟩
      rw [hw1]
      clear hw1
      go_wp2_with fail
      refine Calls.mono HTB.out ?_
      rintro r u2 ⟨rfl, hb2⟩
      go_wp2
      go_ret
      exact ⟨ret_bool (by rw [E.out]; rfl), hb2⟩
    · rw [h2] at HTB E
      go_enter Try.func35, Try.ntmps35
      go_wp2_with fail
      refine Calls.mono HBD.out ?_
      rintro r u1 ⟨rfl, hw1⟩
      rw [hw1]
      clear hw1
      go_wp2_with fail
      refine Calls.mono HTB.out ?_
      rintro r u2 ⟨rfl, hb2⟩
      have HB2 : Hid (Below w.heap.size w u2) := hb2
      have c0 := (HX.out.below hb2).c0
      have cl := (HX.out.below hb2).lt
      rw [HEP.out] at c0
      clear hb2
      go_wp2_with fail
      refine Calls.mono (HCF.out _ HB2.out) ?_
      rintro r u3 ⟨rfl, hb3⟩
      have HB3 : Hid (Below w.heap.size w u3) := HB2.out.trans (hb3.mono HB2.out.size)
      clear hb3
      go_wp2
      go_ret
      exact ⟨ret_bool (by rw [E.out]; simp), HB3.out⟩
set_option maxRecDepth 100000 in
set_option maxHeartbeats 4000000 in
theorem implSF_any {w : World} {s : SW} {a : SA} (h : SRows w s a) (hl : SLen s) : Calls Try.prog 13 #[swA s a] w fun r w' => r = .returned (.int .i64 (swV s)) ∧ Below w.heap.size w w' := by
  have HX : Hid (SX (w.alloc (.cells (swC s a) 46)) w.heap.size s a) := ⟨heap_new _ _, h.below (bx1 _ _)⟩
  have HB : Hid (Below w.heap.size w (w.alloc (.cells (swC s a) 46))) := bx1 _ _
  have HR : Hid (∀ u b, SX u b s a → Calls Try.prog 35 #[.pointer (some ⟨b, 0, none⟩)] u fun r w' => r = .returned (.bool (swB s)) ∧ Below u.heap.size u w') := fun u b hx => swRight_any hx hl
  have E : Hid (swV s = if swB s = true then 0 else 1) := rfl
  obtain ⟨ap, kp, ae, ke, e⟩ := h.sl
  generalize a.qs = qs at e
  subst e
  clear h hl
  unfold swC at HX HB
  unfold swA swC
  simp only at HX HB ⊢
  generalize swB s = B at *
  cases B
  all_goals go_enter Try.func13, Try.ntmps13
  all_goals go_wp2_with fail
  all_goals refine Calls.mono (HR.out _ _ HX.out) ?_
  all_goals rintro r u1 ⟨rfl, hb1⟩
  all_goals have HB1 : Hid (Below w.heap.size w u1) := HB.out.trans (hb1.mono HB.out.size)
  all_goals clear hb1
  all_goals go_wp2
  all_goals go_ret
  all_goals exact ⟨ret_int E.out.symm, HB1.out⟩
theorem sn_ris (zs : List Int) : snB zs = (decide (1 ≤ zs.length) && decide (zs.length ≤ 20) && risB zs && allB (fun j => ntB (zs.getD j 0)) zs.length) := by
  have : allB (nk zs) zs.length = (risB zs && allB (fun j => ntB (zs.getD j 0)) zs.length) := by
    rw [Bool.eq_iff_iff, Bool.and_eq_true]
    unfold risB
    simp only [allB_iff]
    constructor
    · intro h
      refine ⟨fun k hk => ?_, fun k hk => ?_⟩
      · have := h k hk
        unfold nk at this
        rw [Bool.and_eq_true] at this
        exact this.2
      · have := h k hk
        unfold nk at this
        rw [Bool.and_eq_true] at this
        exact this.1
    · rintro ⟨h1, h2⟩ k hk
      unfold nk
      rw [Bool.and_eq_true]
      exact ⟨h2 k hk, h1 k hk⟩
  unfold snB
  rw [this, ← Bool.and_assoc]
def plB (p : PO) : Bool := !decide (p.own < 0) && !decide (281474976710655 ≤ p.own) && !decide (p.rate < 0) && !decide (1000000 < p.rate) && !decide (p.burst < 0) && !decide (1000000 < p.burst) && !decide (p.lev < 0) && !decide (p.burst < p.lev)
theorem portB_eq (p : PO) : portB p = (plB p && ntsB p) := by
  have : (oaB p.own && lvB p) = plB p := by
    unfold oaB lvB plB
    rw [Bool.eq_iff_iff]
    simp only [Bool.and_eq_true, decide_eq_true_eq, Bool.not_eq_true', decide_eq_false_iff_not]
    omega
  unfold portB
  rw [← this, Bool.and_assoc, Bool.and_comm]
set_option maxRecDepth 100000 in
set_option maxHeartbeats 8000000 in
theorem l16Port_any {w : World} (p : PO) {v : Value} (h : Irow w v p.ns) (hl : p.ns.length ≤ 1048576) : Calls Try.prog 31 #[poA p v] w fun r w' => r = .returned (.bool (portB p)) ∧ Below w.heap.size w w' := by
  have HI : Hid (Irow w v p.ns) := h
  obtain ⟨a1, k1, rfl⟩ := h.sl
  have HL0 : Hid (LG w (w.alloc (.cells #[.int .i64 p.net, .slice a1 p.ns.length k1, .int .i64 p.own, .bool p.up, .int .i64 p.rate, .int .i64 p.burst, .int .i64 p.lev] 73)) w.heap.size #[.int .i64 p.net, .slice a1 p.ns.length k1, .int .i64 p.own, .bool p.up, .int .i64 p.rate, .int .i64 p.burst, .int .i64 p.lev] 73) := LG.new w _ _
  have HN : Hid (∀ x u, Calls Try.prog 32 #[.int .i64 x] u fun r w' => r = .returned (.bool (ntB x)) ∧ w' = u) := fun x u => l16Net_any x u
  have HRI : Hid (∀ u, Aft w u → Calls Try.prog 39 #[.slice a1 p.ns.length k1] u fun r w' => r = .returned (.bool (risB p.ns)) ∧ Below u.heap.size u w') := fun u hu => l08Rising_any (HI.out.below hu.out) hl
  have E0 : Hid (portB p = ((!decide (p.own < 0) && !decide (281474976710655 ≤ p.own) && !decide (p.rate < 0) && !decide (1000000 < p.rate) && !decide (p.burst < 0) && !decide (1000000 < p.burst) && !decide (p.lev < 0) && !decide (p.burst < p.lev)) && ntsB p)) := portB_eq p
  clear h
  unfold poA poC
  cases h0 : decide (p.own < 0)
  · rw [h0] at E0
    cases h1 : decide (281474976710655 ≤ p.own)
    · rw [h1] at E0
      cases h2 : decide (p.rate < 0)
      · rw [h2] at E0
        cases h3 : decide (1000000 < p.rate)
        · rw [h3] at E0
          cases h4 : decide (p.burst < 0)
          · rw [h4] at E0
            cases h5 : decide (1000000 < p.burst)
            · rw [h5] at E0
              cases h6 : decide (p.lev < 0)
              · rw [h6] at E0
                cases h7 : decide (p.burst < p.lev)
                · rw [h7] at E0
                  have E1 : Hid (portB p = ntsB p) := (show portB p = _ by rw [E0.out]; rfl)
                  clear E0
                  cases g0 : (p.net != 0)
                  · have E2 : Hid (portB p = snB p.ns) := (show portB p = _ by rw [E1.out]; unfold ntsB; rw [g0]; rfl)
                    have E3 : Hid (portB p = (decide (1 ≤ p.ns.length) && decide (p.ns.length ≤ 20) && risB p.ns && allB (fun j => ntB (p.ns.getD j 0)) p.ns.length)) := (show portB p = _ by rw [E2.out, sn_ris])
                    clear E1 E2
                    cases g1 : decide ((p.ns.length : Int) < 1)
                    · cases g2 : decide (20 < (p.ns.length : Int))
                      · have e1 : decide (1 ≤ p.ns.length) = true := decide_eq_true (by have := of_decide_eq_false g1; omega)
                        have e2 : decide (p.ns.length ≤ 20) = true := decide_eq_true (by have := of_decide_eq_false g2; omega)
                        rw [e1, e2] at E3
                        have h20 : p.ns.length ≤ 20 := of_decide_eq_true e2
                        clear e1 e2
                        cases g3 : risB p.ns
                        · rw [g3] at HRI E3
                          have E : Hid (portB p = false) := (show portB p = _ by rw [E3.out]; simp)
                          go_enter Try.func31, Try.ntmps31
                          go_upto_region 1 with fail
                          generalize (w.alloc (.cells #[.int .i64 p.net, .slice a1 p.ns.length k1, .int .i64 p.own, .bool p.up, .int .i64 p.rate, .int .i64 p.burst, .int .i64 p.lev] 73)) = u0 at *
                          generalize w.heap.size = b0 at *
                          have c0 := HL0.out.cel 0 _ rfl
                          have c1 := HL0.out.cel 1 _ rfl
                          have c2 := HL0.out.cel 2 _ rfl
                          have c4 := HL0.out.cel 4 _ rfl
                          have c5 := HL0.out.cel 5 _ rfl
                          have c6 := HL0.out.cel 6 _ rfl
                          have cl := HL0.out.lt
                          go_wp2_with fail
                          refine Calls.mono (HRI.out _ HL0.out.aft) ?_
                          rintro r u2 ⟨rfl, hb2⟩
                          have HL2 : Hid (LG w u2 b0 #[.int .i64 p.net, .slice a1 p.ns.length k1, .int .i64 p.own, .bool p.up, .int .i64 p.rate, .int .i64 p.burst, .int .i64 p.lev] 73) := HL0.out.step hb2
                          clear hb2
                          go_wp2
                          go_ret
                          exact ⟨ret_bool E.out.symm, HL2.out.bel⟩
                        · rw [g3] at HRI E3
                          have E4 : Hid (portB p = allB (fun j => ntB (p.ns.getD j 0)) p.ns.length) := (show portB p = _ by rw [E3.out]; rfl)
                          go_enter Try.func31, Try.ntmps31
                          go_upto_region 1 with fail
                          generalize (w.alloc (.cells #[.int .i64 p.net, .slice a1 p.ns.length k1, .int .i64 p.own, .bool p.up, .int .i64 p.rate, .int .i64 p.burst, .int .i64 p.lev] 73)) = u0 at *
                          generalize w.heap.size = b0 at *
                          have c0 := HL0.out.cel 0 _ rfl
                          have c1 := HL0.out.cel 1 _ rfl
                          have c2 := HL0.out.cel 2 _ rfl
                          have c4 := HL0.out.cel 4 _ rfl
                          have c5 := HL0.out.cel 5 _ rfl
                          have c6 := HL0.out.cel 6 _ rfl
                          have cl := HL0.out.lt
                          go_wp2_with fail
                          refine Calls.mono (HRI.out _ HL0.out.aft) ?_
                          rintro r u2 ⟨rfl, hb2⟩
                          have HL2 : Hid (LG w u2 b0 #[.int .i64 p.net, .slice a1 p.ns.length k1, .int .i64 p.own, .bool p.up, .int .i64 p.rate, .int .i64 p.burst, .int .i64 p.lev] 73) := HL0.out.step hb2
                          clear hb2 c0 c1 c2 c4 c5 c6 cl HL0
                          go_wp2
                          go_loopw [3] (fun i wr => ∃ k : Nat, k ≤ p.ns.length ∧ i = .int .i64 k ∧ allB (fun j => ntB (p.ns.getD j 0)) k = true ∧ LG w wr b0 #[.int .i64 p.net, .slice a1 p.ns.length k1, .int .i64 p.own, .bool p.up, .int .i64 p.rate, .int .i64 p.burst, .int .i64 p.lev] 73) (fun i _ => p.ns.length - (intOf i).toNat)
                          case atStart => exact ⟨0, Nat.zero_le _, rfl, rfl, HL2.out⟩
                          case round =>
                            obtain ⟨k, hk, rfl, hok, hlg⟩ := hrel
                            have HLG : Hid (LG w wr b0 #[.int .i64 p.net, .slice a1 p.ns.length k1, .int .i64 p.own, .bool p.up, .int .i64 p.rate, .int .i64 p.burst, .int .i64 p.lev] 73) := hlg
                            have HOK : Hid (allB (fun j => ntB (p.ns.getD j 0)) k = true) := hok
                            have c1 := hlg.cel 1 _ rfl
                            have cl := hlg.lt
                            clear hok HL2
                            by_cases hlt : k < p.ns.length
                            · obtain ⟨g, o, cap2, hv, _, hg, hc⟩ := HI.out.resolve_left (fun h => by rw [h.1] at hlt; simp at hlt)
                              injection hv with hv1 hv2 hv3
                              subst hv1 hv3
                              have d0 := hc.below hlg.bel hg k hlt
                              have hgw : g < wr.heap.size := Nat.lt_of_lt_of_le hg hlg.bel.size
                              have HT : Hid (allB (fun j => ntB (p.ns.getD j 0)) (k + 1) = (allB (fun j => ntB (p.ns.getD j 0)) k && ntB p.ns[k])) := (show _ = _ by rw [allB_succ, gd hlt])
                              have HBB : Hid (ntB p.ns[k] = false → allB (fun j => ntB (p.ns.getD j 0)) p.ns.length = false) := fun hh => allB_bad hlt (by rw [gd hlt]; exact hh)
                              generalize p.ns[k] = z at *
                              have hk0 : (0 : Int) ≤ (k : Int) := by omega
                              have hk1 : (k : Int) < (p.ns.length : Int) := by omega
                              clear hc hlg hv2
                              have HNZ : Hid _ := fun u => HN.out z u
                              cases g5 : ntB z
                              · rw [g5] at HNZ
                                have E : Hid (portB p = false) := (show portB p = _ by rw [E4.out, HBB.out g5])
                                clear HT HBB
                                go_wp2_with fail
                                refine Calls.mono (HNZ.out _) ?_
                                rintro r u3 ⟨rfl, hw3⟩
                                rw [hw3]
                                clear hw3
                                go_wp2
                                go_ret
                                exact ⟨ret_bool E.out.symm, HLG.out.bel⟩
                              · rw [g5] at HNZ
                                have HT2 : Hid (allB (fun j => ntB (p.ns.getD j 0)) (k + 1) = true) := (show _ = true by rw [HT.out, HOK.out, g5]; rfl)
                                clear HT HBB
                                go_wp2_with fail
                                refine Calls.mono (HNZ.out _) ?_
                                rintro r u3 ⟨rfl, hw3⟩
                                rw [hw3]
                                clear hw3
                                go_wp2
                                exact ⟨⟨k + 1, hlt, by go_num, HT2.out, HLG.out⟩, by simp [intOf]; omega⟩
                            · obtain rfl : k = p.ns.length := by omega
                              have E : Hid (portB p = true) := (show portB p = _ by rw [E4.out, HOK.out])
                              go_wp2
                              go_ret
                              exact ⟨ret_bool E.out.symm, HLG.out.bel⟩
                      · have E : Hid (portB p = false) := (show portB p = _ by rw [E3.out, decide_eq_false (show ¬ p.ns.length ≤ 20 by have := of_decide_eq_true g2; omega)]; simp)
                        go_enter Try.func31, Try.ntmps31
                        go_upto_region 1 with fail
                        generalize (w.alloc (.cells #[.int .i64 p.net, .slice a1 p.ns.length k1, .int .i64 p.own, .bool p.up, .int .i64 p.rate, .int .i64 p.burst, .int .i64 p.lev] 73)) = u0 at *
                        generalize w.heap.size = b0 at *
                        have c0 := HL0.out.cel 0 _ rfl
                        have c1 := HL0.out.cel 1 _ rfl
                        have c2 := HL0.out.cel 2 _ rfl
                        have c4 := HL0.out.cel 4 _ rfl
                        have c5 := HL0.out.cel 5 _ rfl
                        have c6 := HL0.out.cel 6 _ rfl
                        have cl := HL0.out.lt
                        go_wp2
                        go_ret
                        exact ⟨ret_bool E.out.symm, HL0.out.bel⟩
                    · have E : Hid (portB p = false) := (show portB p = _ by rw [E3.out, decide_eq_false (show ¬ 1 ≤ p.ns.length by have := of_decide_eq_true g1; omega)]; simp)
                      go_enter Try.func31, Try.ntmps31
                      go_upto_region 1 with fail
                      generalize (w.alloc (.cells #[.int .i64 p.net, .slice a1 p.ns.length k1, .int .i64 p.own, .bool p.up, .int .i64 p.rate, .int .i64 p.burst, .int .i64 p.lev] 73)) = u0 at *
                      generalize w.heap.size = b0 at *
                      have c0 := HL0.out.cel 0 _ rfl
                      have c1 := HL0.out.cel 1 _ rfl
                      have c2 := HL0.out.cel 2 _ rfl
                      have c4 := HL0.out.cel 4 _ rfl
                      have c5 := HL0.out.cel 5 _ rfl
                      have c6 := HL0.out.cel 6 _ rfl
                      have cl := HL0.out.lt
                      go_wp2
                      go_ret
                      exact ⟨ret_bool E.out.symm, HL0.out.bel⟩
                  · have E2 : Hid (portB p = (ntB p.net && ((p.ns.length : Int) == 0))) := (show portB p = _ by rw [E1.out]; unfold ntsB; rw [g0]; rfl)
                    clear E1
                    have HNP : Hid _ := fun u => HN.out p.net u
                    cases g1 : ntB p.net
                    · rw [g1] at HNP E2
                      have E : Hid (portB p = false) := (show portB p = _ by rw [E2.out]; rfl)
                      go_enter Try.func31, Try.ntmps31
                      go_upto_region 1 with fail
                      generalize (w.alloc (.cells #[.int .i64 p.net, .slice a1 p.ns.length k1, .int .i64 p.own, .bool p.up, .int .i64 p.rate, .int .i64 p.burst, .int .i64 p.lev] 73)) = u0 at *
                      generalize w.heap.size = b0 at *
                      have c0 := HL0.out.cel 0 _ rfl
                      have c1 := HL0.out.cel 1 _ rfl
                      have c2 := HL0.out.cel 2 _ rfl
                      have c4 := HL0.out.cel 4 _ rfl
                      have c5 := HL0.out.cel 5 _ rfl
                      have c6 := HL0.out.cel 6 _ rfl
                      have cl := HL0.out.lt
                      go_wp2_with fail
                      refine Calls.mono (HNP.out _) ?_
                      rintro r u2 ⟨rfl, hw2⟩
                      rw [hw2]
                      clear hw2
                      go_wp2
                      go_ret
                      exact ⟨ret_bool E.out.symm, HL0.out.bel⟩
                    · rw [g1] at HNP E2
                      have E : Hid (portB p = ((p.ns.length : Int) == 0)) := (show portB p = _ by rw [E2.out]; rfl)
                      cases g2 : ((p.ns.length : Int) == 0)
                      · rw [g2] at E
                        go_enter Try.func31, Try.ntmps31
                        go_upto_region 1 with fail
                        generalize (w.alloc (.cells #[.int .i64 p.net, .slice a1 p.ns.length k1, .int .i64 p.own, .bool p.up, .int .i64 p.rate, .int .i64 p.burst, .int .i64 p.lev] 73)) = u0 at *
                        generalize w.heap.size = b0 at *
                        have c0 := HL0.out.cel 0 _ rfl
                        have c1 := HL0.out.cel 1 _ rfl
                        have c2 := HL0.out.cel 2 _ rfl
                        have c4 := HL0.out.cel 4 _ rfl
                        have c5 := HL0.out.cel 5 _ rfl
                        have c6 := HL0.out.cel 6 _ rfl
                        have cl := HL0.out.lt
                        go_wp2_with fail
                        refine Calls.mono (HNP.out _) ?_
                        rintro r u2 ⟨rfl, hw2⟩
                        rw [hw2]
                        clear hw2
                        go_wp2
                        go_ret
                        exact ⟨ret_bool E.out.symm, HL0.out.bel⟩
                      · rw [g2] at E
                        go_enter Try.func31, Try.ntmps31
                        go_upto_region 1 with fail
                        generalize (w.alloc (.cells #[.int .i64 p.net, .slice a1 p.ns.length k1, .int .i64 p.own, .bool p.up, .int .i64 p.rate, .int .i64 p.burst, .int .i64 p.lev] 73)) = u0 at *
                        generalize w.heap.size = b0 at *
                        have c0 := HL0.out.cel 0 _ rfl
                        have c1 := HL0.out.cel 1 _ rfl
                        have c2 := HL0.out.cel 2 _ rfl
                        have c4 := HL0.out.cel 4 _ rfl
                        have c5 := HL0.out.cel 5 _ rfl
                        have c6 := HL0.out.cel 6 _ rfl
                        have cl := HL0.out.lt
                        go_wp2_with fail
                        refine Calls.mono (HNP.out _) ?_
                        rintro r u2 ⟨rfl, hw2⟩
                        rw [hw2]
                        clear hw2
                        go_wp2
                        go_ret
                        exact ⟨ret_bool E.out.symm, HL0.out.bel⟩
                · rw [h7] at E0
                  have E : Hid (portB p = false) := (show portB p = _ by rw [E0.out]; simp)
                  go_enter Try.func31, Try.ntmps31
                  go_upto_region 1 with fail
                  generalize (w.alloc (.cells #[.int .i64 p.net, .slice a1 p.ns.length k1, .int .i64 p.own, .bool p.up, .int .i64 p.rate, .int .i64 p.burst, .int .i64 p.lev] 73)) = u0 at *
                  generalize w.heap.size = b0 at *
                  have c0 := HL0.out.cel 0 _ rfl
                  have c1 := HL0.out.cel 1 _ rfl
                  have c2 := HL0.out.cel 2 _ rfl
                  have c4 := HL0.out.cel 4 _ rfl
                  have c5 := HL0.out.cel 5 _ rfl
                  have c6 := HL0.out.cel 6 _ rfl
                  have cl := HL0.out.lt
                  go_wp2
                  go_ret
                  exact ⟨ret_bool E.out.symm, HL0.out.bel⟩
              · rw [h6] at E0
                have E : Hid (portB p = false) := (show portB p = _ by rw [E0.out]; simp)
                go_enter Try.func31, Try.ntmps31
                go_upto_region 1 with fail
                generalize (w.alloc (.cells #[.int .i64 p.net, .slice a1 p.ns.length k1, .int .i64 p.own, .bool p.up, .int .i64 p.rate, .int .i64 p.burst, .int .i64 p.lev] 73)) = u0 at *
                generalize w.heap.size = b0 at *
                have c0 := HL0.out.cel 0 _ rfl
                have c1 := HL0.out.cel 1 _ rfl
                have c2 := HL0.out.cel 2 _ rfl
                have c4 := HL0.out.cel 4 _ rfl
                have c5 := HL0.out.cel 5 _ rfl
                have c6 := HL0.out.cel 6 _ rfl
                have cl := HL0.out.lt
                go_wp2
                go_ret
                exact ⟨ret_bool E.out.symm, HL0.out.bel⟩
            · rw [h5] at E0
              have E : Hid (portB p = false) := (show portB p = _ by rw [E0.out]; simp)
              go_enter Try.func31, Try.ntmps31
              go_upto_region 1 with fail
              generalize (w.alloc (.cells #[.int .i64 p.net, .slice a1 p.ns.length k1, .int .i64 p.own, .bool p.up, .int .i64 p.rate, .int .i64 p.burst, .int .i64 p.lev] 73)) = u0 at *
              generalize w.heap.size = b0 at *
              have c0 := HL0.out.cel 0 _ rfl
              have c1 := HL0.out.cel 1 _ rfl
              have c2 := HL0.out.cel 2 _ rfl
              have c4 := HL0.out.cel 4 _ rfl
              have c5 := HL0.out.cel 5 _ rfl
              have c6 := HL0.out.cel 6 _ rfl
              have cl := HL0.out.lt
              go_wp2
              go_ret
              exact ⟨ret_bool E.out.symm, HL0.out.bel⟩
          · rw [h4] at E0
            have E : Hid (portB p = false) := (show portB p = _ by rw [E0.out]; simp)
            go_enter Try.func31, Try.ntmps31
            go_upto_region 1 with fail
            generalize (w.alloc (.cells #[.int .i64 p.net, .slice a1 p.ns.length k1, .int .i64 p.own, .bool p.up, .int .i64 p.rate, .int .i64 p.burst, .int .i64 p.lev] 73)) = u0 at *
            generalize w.heap.size = b0 at *
            have c0 := HL0.out.cel 0 _ rfl
            have c1 := HL0.out.cel 1 _ rfl
            have c2 := HL0.out.cel 2 _ rfl
            have c4 := HL0.out.cel 4 _ rfl
            have c5 := HL0.out.cel 5 _ rfl
            have c6 := HL0.out.cel 6 _ rfl
            have cl := HL0.out.lt
            go_wp2
            go_ret
            exact ⟨ret_bool E.out.symm, HL0.out.bel⟩
        · rw [h3] at E0
          have E : Hid (portB p = false) := (show portB p = _ by rw [E0.out]; simp)
          go_enter Try.func31, Try.ntmps31
          go_upto_region 1 with fail
          generalize (w.alloc (.cells #[.int .i64 p.net, .slice a1 p.ns.length k1, .int .i64 p.own, .bool p.up, .int .i64 p.rate, .int .i64 p.burst, .int .i64 p.lev] 73)) = u0 at *
          generalize w.heap.size = b0 at *
          have c0 := HL0.out.cel 0 _ rfl
          have c1 := HL0.out.cel 1 _ rfl
          have c2 := HL0.out.cel 2 _ rfl
          have c4 := HL0.out.cel 4 _ rfl
          have c5 := HL0.out.cel 5 _ rfl
          have c6 := HL0.out.cel 6 _ rfl
          have cl := HL0.out.lt
          go_wp2
          go_ret
          exact ⟨ret_bool E.out.symm, HL0.out.bel⟩
      · rw [h2] at E0
        have E : Hid (portB p = false) := (show portB p = _ by rw [E0.out]; simp)
        go_enter Try.func31, Try.ntmps31
        go_upto_region 1 with fail
        generalize (w.alloc (.cells #[.int .i64 p.net, .slice a1 p.ns.length k1, .int .i64 p.own, .bool p.up, .int .i64 p.rate, .int .i64 p.burst, .int .i64 p.lev] 73)) = u0 at *
        generalize w.heap.size = b0 at *
        have c0 := HL0.out.cel 0 _ rfl
        have c1 := HL0.out.cel 1 _ rfl
        have c2 := HL0.out.cel 2 _ rfl
        have c4 := HL0.out.cel 4 _ rfl
        have c5 := HL0.out.cel 5 _ rfl
        have c6 := HL0.out.cel 6 _ rfl
        have cl := HL0.out.lt
        go_wp2
        go_ret
        exact ⟨ret_bool E.out.symm, HL0.out.bel⟩
    · rw [h1] at E0
      have E : Hid (portB p = false) := (show portB p = _ by rw [E0.out]; simp)
      go_enter Try.func31, Try.ntmps31
      go_upto_region 1 with fail
      generalize (w.alloc (.cells #[.int .i64 p.net, .slice a1 p.ns.length k1, .int .i64 p.own, .bool p.up, .int .i64 p.rate, .int .i64 p.burst, .int .i64 p.lev] 73)) = u0 at *
      generalize w.heap.size = b0 at *
      have c0 := HL0.out.cel 0 _ rfl
      have c1 := HL0.out.cel 1 _ rfl
      have c2 := HL0.out.cel 2 _ rfl
      have c4 := HL0.out.cel 4 _ rfl
      have c5 := HL0.out.cel 5 _ rfl
      have c6 := HL0.out.cel 6 _ rfl
      have cl := HL0.out.lt
      go_wp2
      go_ret
      exact ⟨ret_bool E.out.symm, HL0.out.bel⟩
  · rw [h0] at E0
    have E : Hid (portB p = false) := (show portB p = _ by rw [E0.out]; simp)
    go_enter Try.func31, Try.ntmps31
    go_upto_region 1 with fail
    generalize (w.alloc (.cells #[.int .i64 p.net, .slice a1 p.ns.length k1, .int .i64 p.own, .bool p.up, .int .i64 p.rate, .int .i64 p.burst, .int .i64 p.lev] 73)) = u0 at *
    generalize w.heap.size = b0 at *
    have c0 := HL0.out.cel 0 _ rfl
    have c1 := HL0.out.cel 1 _ rfl
    have c2 := HL0.out.cel 2 _ rfl
    have c4 := HL0.out.cel 4 _ rfl
    have c5 := HL0.out.cel 5 _ rfl
    have c6 := HL0.out.cel 6 _ rfl
    have cl := HL0.out.lt
    go_wp2
    go_ret
    exact ⟨ret_bool E.out.symm, HL0.out.bel⟩
end Go.Proofs.Ytefeahilamiiaaa
