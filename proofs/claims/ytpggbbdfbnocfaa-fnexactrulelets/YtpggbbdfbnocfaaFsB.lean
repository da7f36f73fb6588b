import Derived.Test.YtpggbbdfbnocfaaFsA
import Derived.Test.YtpggbbdfbnocfaaFpY
import Derived.Test.YtpggbbdfbnocfaaHl
import Derived.BigQuiet
namespace Go.Proofs.Ytpggbbdfbnocfaa
open Go.ChangeShapes Go.WideShapes Go.ChangeAt Go.RowKit

theorem FX.drewN {u : World} {b : Nat} {s : FI} {a : FA} (h : FX u b s a) (n : Nat) : FX (u.drewN n) b s a := h.below (bdn (Below.refl _ _) n)
theorem LG.drewN {w u : World} {b t : Nat} {cs : Array Value} (h : LG w u b cs t) (n : Nat) : LG w (u.drewN n) b cs t := ⟨bdn h.bel n, h.box, h.ge⟩
def gq (n : Nat) (zs : List Int) (q : Nat) : Bool := !(decide (zs.getD q 0 < 0) || decide ((n : Int) ≤ zs.getD q 0))
def shB (s : FI) (j : Nat) (z : HO) : Bool := !(!isW z.addr || z.addr == 0 || z.addr == s.pub || hAt (s.hs.map (·.addr)) z.addr != (j : Int) || decide (5 < (z.gs.length : Int)) || !risB z.gs) && allB (gq s.gs.length z.gs) z.gs.length
def sh (s : FI) (j : Nat) : Bool := shB s j (s.hs.getD j ho9)
def nr9 : NR := ⟨false, 0, 0, 0, 0, 0, 0⟩
theorem gdr {zs : List NR} {k : Nat} (h : k < zs.length) : zs.getD k nr9 = zs[k] := by simp [List.getD, List.getElem?_eq_getElem h]
def rq (n : Nat) (rs : List NR) (q : Nat) : Bool := rlB n (rs.getD q nr9)
def sgB (s : FI) (z : GP) : Bool := !decide (20 < (z.rs.length : Int)) && allB (rq s.gs.length z.rs) z.rs.length
def sg (s : FI) (j : Nat) : Bool := sgB s (s.gs.getD j gp9)
def hsS (s : FI) : Bool := !(decide (12 < (s.hs.length : Int)) || decide (12 < (s.gs.length : Int))) && (allB (sh s) s.hs.length && allB (sg s) s.gs.length)
set_option maxRecDepth 100000 in
set_option maxHeartbeats 8000000 in
theorem hostsS_any {w : World} {s : FI} {a : FA} (h : FIRows w s a) (hl : FIlen s) : Calls Try.prog 19 #[flA s a] w fun r w' => r = .returned (.bool (hsS s)) ∧ Below w.heap.size w w' := by
  have HRW : Hid (FIRows w s a) := h
  have HLN : Hid (FIlen s) := hl
  have hlh := hl.lhs.len
  have hlg := hl.lgs.len
  have HH0 : Hid (∀ x u, Aft w u → Calls Try.prog 22 #[flA s a, .int .i64 x] u fun e w' => e = .returned (.int .i64 (hAt (s.hs.map (·.addr)) x)) ∧ Below u.heap.size u w') := fun x u hu => hostS_any (HRW.out.below hu.out) hlh x
  have HX0 : Hid (FX (w.alloc (.cells (flC s a) 35)) w.heap.size s a) := ⟨heap_new _ _, h.below (bx1 _ _)⟩
  have HB0 : Hid (Below w.heap.size w (w.alloc (.cells (flC s a) 35))) := bx1 _ _
  obtain ⟨ahs, khs, e1⟩ := h.rhs.sl
  obtain ⟨ags, kgs, e2⟩ := h.rgs.sl
  obtain ⟨afs, kfs, e3⟩ := h.rfs.sl
  obtain ⟨acs, kcs, e4⟩ := h.rcs.sl
  rw [h.nhs.len] at e1
  rw [h.ngs.len] at e2
  have hfc : flC s a = #[.slice ahs s.hs.length khs, .slice ags s.gs.length kgs, .slice afs s.fs.length kfs, .int .i64 s.pub, .int .i64 s.fst, .int .i64 s.lst, .slice acs s.cs.length kcs, .int .i64 s.time] := by unfold flC; rw [e1, e2, e3, e4]
  have HR : Hid (NHrow w (.slice ahs s.hs.length khs) a.qhs) := (show NHrow w _ a.qhs by rw [← e1]; exact h.rhs)
  have HI : Hid (HOin w a.qhs s.hs) := h.nhs
  have HQ : Hid (a.qhs.length = s.hs.length) := h.nhs.len
  have GR : Hid (NGrow w (.slice ags s.gs.length kgs) a.qgs) := (show NGrow w _ a.qgs by rw [← e2]; exact h.rgs)
  have GI : Hid (GPin w a.qgs s.gs) := h.ngs
  have GQ : Hid (a.qgs.length = s.gs.length) := h.ngs.len
  have E1 : Hid (a.vhs = .slice ahs s.hs.length khs) := e1
  have E2 : Hid (a.vgs = .slice ags s.gs.length kgs) := e2
  have E3 : Hid (a.vfs = .slice afs s.fs.length kfs) := e3
  have E4 : Hid (a.vcs = .slice acs s.cs.length kcs) := e4
  clear h HRW hl e1 e2 e3 e4
  unfold flA at HH0 ⊢
  rw [hfc] at HX0 HB0 HH0 ⊢
  clear hfc
  have E : Hid (hsS s = (!(decide (12 < (s.hs.length : Int)) || decide (12 < (s.gs.length : Int))) && (allB (sh s) s.hs.length && allB (sg s) s.gs.length))) := rfl
  cases ha : decide (12 < (s.hs.length : Int))
  · rw [ha] at E
    cases hb1 : decide (12 < (s.gs.length : Int))
    · rw [hb1] at E
      go_enter Try.func19, Try.ntmps19
      go_upto_region 1 with fail
      generalize (w.alloc (.cells #[.slice ahs s.hs.length khs, .slice ags s.gs.length kgs, .slice afs s.fs.length kfs, .int .i64 s.pub, .int .i64 s.fst, .int .i64 s.lst, .slice acs s.cs.length kcs, .int .i64 s.time] 35)) = u0 at *
      generalize e0 : w.heap.size = b0 at *
      have x0 := HX0.out.c0
      have x1 := HX0.out.c1
      have x2 := HX0.out.c2
      have x3 := HX0.out.c3
      have x4 := HX0.out.c4
      have x5 := HX0.out.c5
      have x6 := HX0.out.c6
      have x7 := HX0.out.c7
      rw [E1.out] at x0
      rw [E2.out] at x1
      rw [E3.out] at x2
      rw [E4.out] at x6
      have xl := HX0.out.lt
      go_wp2
      clear x0 x1 x2 x3 x4 x5 x6 x7 xl
      rw [← e0] at HB0
      go_loopw [3] (fun i wr => ∃ k : Nat, k ≤ s.hs.length ∧ i = .int .i64 k ∧ allB (sh s) k = true ∧ Below w.heap.size w wr ∧ FX wr b0 s a) (fun i _ => s.hs.length - (intOf i).toNat)
      case atStart => exact ⟨0, Nat.zero_le _, rfl, rfl, HB0.out, HX0.out⟩
      case round =>
        obtain ⟨k, hk0, rfl, hok, hb, hx⟩ := hrel
        have HOK : Hid (allB (sh s) k = true) := hok
        have HB : Hid (Below w.heap.size w wr) := hb
        have HX : Hid (FX wr b0 s a) := hx
        clear hok hx HX0 HB0
        by_cases hlt : k < s.hs.length
        · have hkq : k < a.qhs.length := by rw [HQ.out]; exact hlt
          obtain ⟨g, o, cap2, hv, _, hg, hc⟩ := HR.out.resolve_left (fun h => by rw [h.1] at hkq; simp at hkq)
          injection hv with hv1 hv2 hv3
          subst hv1 hv3
          obtain ⟨d0, d1⟩ := hc.below hb hg k hkq
          have hgw : g < wr.heap.size := Nat.lt_of_lt_of_le hg hb.size
          obtain ⟨p0, p1⟩ := HI.out.el k hkq hlt
          rw [p0] at d0
          unfold hoQ at d0
          simp only at d0
          have lp := HLN.out.lhs.el k hlt
          have HT : Hid (sh s k = (!(!isW s.hs[k].addr || s.hs[k].addr == 0 || s.hs[k].addr == s.pub || hAt (s.hs.map (·.addr)) s.hs[k].addr != (k : Int) || decide (5 < (s.hs[k].gs.length : Int)) || !risB s.hs[k].gs) && allB (gq s.gs.length s.hs[k].gs) s.hs[k].gs.length)) := (show sh s k = _ by unfold sh; rw [gdh hlt]; rfl)
          have hk1 : (0 : Int) ≤ (k : Int) := by omega
          have hk2 : (k : Int) < (s.hs.length : Int) := by omega
          clear p0
          generalize s.hs[k] = p at *
          generalize a.qhs[k].groups = y at *
          obtain ⟨ay, ky, rfl⟩ := p1.sl
          have HP1 : Hid (Irow w (.slice ay p.gs.length ky) p.gs) := p1
          have HL1 : Hid (LG w (wr.alloc (.cells #[.int .i64 p.addr, .slice ay p.gs.length ky] 86)) wr.heap.size #[.int .i64 p.addr, .slice ay p.gs.length ky] 86) := ⟨hb.trans ((bx1 _ _).mono hb.size), heap_new _ _, hb.size⟩
          have HX1 : Hid (FX (wr.alloc (.cells #[.int .i64 p.addr, .slice ay p.gs.length ky] 86)) b0 s a) := HX.out.below (bx1 _ _)
          have HH : Hid _ := HH0.out p.addr
          have HRS : Hid (∀ u, Below w.heap.size w u → Calls Try.prog 44 #[.slice ay p.gs.length ky] u fun e w' => e = .returned (.bool (risB p.gs)) ∧ Below u.heap.size u w') := fun u hu => l08Rising_any (HP1.out.below hu) lp
          generalize hAt (s.hs.map (·.addr)) p.addr = X at *
          clear hc hb hv2 p1
          have x0 := HX.out.c0
          have x1 := HX.out.c1
          have x2 := HX.out.c2
          have x3 := HX.out.c3
          have x4 := HX.out.c4
          have x5 := HX.out.c5
          have x6 := HX.out.c6
          have x7 := HX.out.c7
          rw [E1.out] at x0
          rw [E2.out] at x1
          rw [E3.out] at x2
          rw [E4.out] at x6
          have xl := HX.out.lt
          go_upto_region 7 with fail
          generalize (wr.alloc (.cells #[.int .i64 p.addr, .slice ay p.gs.length ky] 86)) = v1 at *
          generalize wr.heap.size = bn at *
          clear d0 d1 hgw hk1 hk2
          clear x0 x1 x2 x3 x4 x5 x6 x7 xl
          cases h1 : isW p.addr
          · rw [h1] at HT
            as_aux_lemma =>
              have HBD : Hid (hsS s = false) := (show hsS s = false by rw [E.out, allB_bad hlt (HT.out.trans (by simp))]; simp)
              have k0 := HL1.out.cel 0 _ rfl
              have k1 := HL1.out.cel 1 _ rfl
              have kl := HL1.out.lt
              have x0 := HX1.out.c0
              have x1 := HX1.out.c1
              have x2 := HX1.out.c2
              have x3 := HX1.out.c3
              have x4 := HX1.out.c4
              have x5 := HX1.out.c5
              have x6 := HX1.out.c6
              have x7 := HX1.out.c7
              rw [E1.out] at x0
              rw [E2.out] at x1
              rw [E3.out] at x2
              rw [E4.out] at x6
              have xl := HX1.out.lt
              go_wp2_with (first | (go_at_call 18; refine Calls.mono (specIsWord_any _ _) ?_; rintro e v2 ⟨rfl, hw1⟩; rw [hw1]; clear hw1) | (go_at_call 22; refine Calls.mono (HH.out _ HL1.out.aft) ?_; rintro e u2 ⟨rfl, hu⟩; have HL2 : Hid (LG w u2 bn #[.int .i64 p.addr, .slice ay p.gs.length ky] 86) := HL1.out.step hu; have HX2 : Hid (FX u2 b0 s a) := HX1.out.below hu; clear hu k0 k1 kl x0 x1 x2 x3 x4 x5 x6 x7 xl; have k0 := HL2.out.cel 0 _ rfl; have k1 := HL2.out.cel 1 _ rfl; have kl := HL2.out.lt; have x1 := HX2.out.c1; rw [E2.out] at x1; have xl := HX2.out.lt) | (go_at_call 44; refine Calls.mono (HRS.out _ HL2.out.bel) ?_; rintro e u3 ⟨rfl, hu3⟩; have HL3 : Hid (LG w u3 bn #[.int .i64 p.addr, .slice ay p.gs.length ky] 86) := HL2.out.step hu3; have HX3 : Hid (FX u3 b0 s a) := HX2.out.below hu3; clear hu3))
              go_ret
              exact ⟨ret_bool HBD.out.symm, HL1.out.bel⟩
          · rw [h1] at HT
            cases h2 : (p.addr == 0)
            · rw [h2] at HT
              cases h3 : (p.addr == s.pub)
              · rw [h3] at HT
                cases h4 : (X != (k : Int))
                · rw [h4] at HT
                  cases h5 : decide (5 < (p.gs.length : Int))
                  · rw [h5] at HT
                    cases h6 : risB p.gs
                    · rw [h6] at HT HRS
                      as_aux_lemma =>
                        have HBD : Hid (hsS s = false) := (show hsS s = false by rw [E.out, allB_bad hlt (HT.out.trans (by simp))]; simp)
                        have k0 := HL1.out.cel 0 _ rfl
                        have k1 := HL1.out.cel 1 _ rfl
                        have kl := HL1.out.lt
                        have x0 := HX1.out.c0
                        have x1 := HX1.out.c1
                        have x2 := HX1.out.c2
                        have x3 := HX1.out.c3
                        have x4 := HX1.out.c4
                        have x5 := HX1.out.c5
                        have x6 := HX1.out.c6
                        have x7 := HX1.out.c7
                        rw [E1.out] at x0
                        rw [E2.out] at x1
                        rw [E3.out] at x2
                        rw [E4.out] at x6
                        have xl := HX1.out.lt
                        go_wp2_with (first | (go_at_call 18; refine Calls.mono (specIsWord_any _ _) ?_; rintro e v2 ⟨rfl, hw1⟩; rw [hw1]; clear hw1) | (go_at_call 22; refine Calls.mono (HH.out _ HL1.out.aft) ?_; rintro e u2 ⟨rfl, hu⟩; have HL2 : Hid (LG w u2 bn #[.int .i64 p.addr, .slice ay p.gs.length ky] 86) := HL1.out.step hu; have HX2 : Hid (FX u2 b0 s a) := HX1.out.below hu; clear hu k0 k1 kl x0 x1 x2 x3 x4 x5 x6 x7 xl; have k0 := HL2.out.cel 0 _ rfl; have k1 := HL2.out.cel 1 _ rfl; have kl := HL2.out.lt; have x1 := HX2.out.c1; rw [E2.out] at x1; have xl := HX2.out.lt) | (go_at_call 44; refine Calls.mono (HRS.out _ HL2.out.bel) ?_; rintro e u3 ⟨rfl, hu3⟩; have HL3 : Hid (LG w u3 bn #[.int .i64 p.addr, .slice ay p.gs.length ky] 86) := HL2.out.step hu3; have HX3 : Hid (FX u3 b0 s a) := HX2.out.below hu3; clear hu3))
                        go_ret
                        exact ⟨ret_bool HBD.out.symm, HL3.out.bel⟩
                    · rw [h6] at HT HRS
                      as_aux_lemma =>
                        have k0 := HL1.out.cel 0 _ rfl
                        have k1 := HL1.out.cel 1 _ rfl
                        have kl := HL1.out.lt
                        have x0 := HX1.out.c0
                        have x1 := HX1.out.c1
                        have x2 := HX1.out.c2
                        have x3 := HX1.out.c3
                        have x4 := HX1.out.c4
                        have x5 := HX1.out.c5
                        have x6 := HX1.out.c6
                        have x7 := HX1.out.c7
                        rw [E1.out] at x0
                        rw [E2.out] at x1
                        rw [E3.out] at x2
                        rw [E4.out] at x6
                        have xl := HX1.out.lt
                        go_wp2_with (first | (go_at_call 18; refine Calls.mono (specIsWord_any _ _) ?_; rintro e v2 ⟨rfl, hw1⟩; rw [hw1]; clear hw1) | (go_at_call 22; refine Calls.mono (HH.out _ HL1.out.aft) ?_; rintro e u2 ⟨rfl, hu⟩; have HL2 : Hid (LG w u2 bn #[.int .i64 p.addr, .slice ay p.gs.length ky] 86) := HL1.out.step hu; have HX2 : Hid (FX u2 b0 s a) := HX1.out.below hu; clear hu k0 k1 kl x0 x1 x2 x3 x4 x5 x6 x7 xl; have k0 := HL2.out.cel 0 _ rfl; have k1 := HL2.out.cel 1 _ rfl; have kl := HL2.out.lt; have x1 := HX2.out.c1; rw [E2.out] at x1; have xl := HX2.out.lt) | (go_at_call 44; refine Calls.mono (HRS.out _ HL2.out.bel) ?_; rintro e u3 ⟨rfl, hu3⟩; have HL3 : Hid (LG w u3 bn #[.int .i64 p.addr, .slice ay p.gs.length ky] 86) := HL2.out.step hu3; have HX3 : Hid (FX u3 b0 s a) := HX2.out.below hu3; clear hu3))
                        clear x1 xl k0 k1 kl HL1 HX1 HL2 HX2
                        go_loopw [5] (fun j w5 => ∃ q : Nat, q ≤ p.gs.length ∧ j = .int .i64 q ∧ allB (gq s.gs.length p.gs) q = true ∧ LG w w5 bn #[.int .i64 p.addr, .slice ay p.gs.length ky] 86 ∧ FX w5 b0 s a) (fun j _ => p.gs.length - (intOf j).toNat)
                        case atStart => exact ⟨0, Nat.zero_le _, rfl, rfl, HL3.out, HX3.out⟩
                        case round =>
                          obtain ⟨q, hq0, rfl, hqk, hL, hX⟩ := hrel
                          have HQK : Hid (allB (gq s.gs.length p.gs) q = true) := hqk
                          have HL4 : Hid (LG w wr bn #[.int .i64 p.addr, .slice ay p.gs.length ky] 86) := hL
                          have HX4 : Hid (FX wr b0 s a) := hX
                          clear hqk hL hX HL3 HX3
                          have k1 := HL4.out.cel 1 _ rfl
                          have kl := HL4.out.lt
                          have x1 := HX4.out.c1
                          rw [E2.out] at x1
                          have xl := HX4.out.lt
                          by_cases hlq : q < p.gs.length
                          · obtain ⟨g2, o2, cap3, hv, _, hg2, hc2⟩ := HP1.out.resolve_left (fun h => by rw [h.1] at hlq; simp at hlq)
                            injection hv with hv1 hv2 hv3
                            subst hv1 hv3
                            have d2 := hc2.below HL4.out.bel hg2 q hlq
                            have hgw2 : g2 < wr.heap.size := Nat.lt_of_lt_of_le hg2 HL4.out.bel.size
                            have HGQ : Hid (gq s.gs.length p.gs q = !(decide (p.gs[q] < 0) || decide ((s.gs.length : Int) ≤ p.gs[q]))) := (show gq _ _ _ = _ by unfold gq; rw [gd hlq])
                            have hq1 : (0 : Int) ≤ (q : Int) := by omega
                            have hq2 : (q : Int) < (p.gs.length : Int) := by omega
                            generalize p.gs[q] = z at *
                            clear hc2 hv2
                            cases h7 : decide (z < 0)
                            · cases h8 : decide ((s.gs.length : Int) ≤ z)
                              · rw [h7, h8] at HGQ
                                have HGD : Hid (allB (gq s.gs.length p.gs) (q + 1) = true) := (show _ = true by rw [allB_succ, HQK.out, HGQ.out]; rfl)
                                go_wp2_with (go_quiet (fail))
                                exact ⟨⟨q + 1, hlq, by go_num, HGD.out, by first | exact HL4.out | exact HL4.out.drewN _, by first | exact HX4.out | exact HX4.out.drewN _⟩, by simp [intOf]; omega⟩
                              · rw [h7, h8] at HGQ
                                have HBD : Hid (hsS s = false) := (show hsS s = false by rw [E.out, allB_bad hlt (HT.out.trans (by rw [allB_bad hlq HGQ.out]; simp))]; simp)
                                go_wp2_with (go_quiet (fail))
                                go_ret
                                exact ⟨ret_bool HBD.out.symm, by first | exact HL4.out.bel | exact bdn HL4.out.bel _⟩
                            · rw [h7] at HGQ
                              have HBD : Hid (hsS s = false) := (show hsS s = false by rw [E.out, allB_bad hlt (HT.out.trans (by rw [allB_bad hlq (HGQ.out.trans (by simp))]; simp))]; simp)
                              go_wp2_with (go_quiet (fail))
                              go_ret
                              exact ⟨ret_bool HBD.out.symm, by first | exact HL4.out.bel | exact bdn HL4.out.bel _⟩
                          · obtain rfl : q = p.gs.length := by omega
                            have HGD : Hid (allB (sh s) (k + 1) = true) := (show _ = true by rw [allB_succ, HOK.out, HT.out, HQK.out]; simp)
                            go_wp2
                            exact ⟨⟨k + 1, hlt, by go_num, HGD.out, HL4.out.bel, HX4.out⟩, by simp [intOf]; omega⟩
                  · rw [h5] at HT
                    as_aux_lemma =>
                      have HBD : Hid (hsS s = false) := (show hsS s = false by rw [E.out, allB_bad hlt (HT.out.trans (by simp))]; simp)
                      have k0 := HL1.out.cel 0 _ rfl
                      have k1 := HL1.out.cel 1 _ rfl
                      have kl := HL1.out.lt
                      have x0 := HX1.out.c0
                      have x1 := HX1.out.c1
                      have x2 := HX1.out.c2
                      have x3 := HX1.out.c3
                      have x4 := HX1.out.c4
                      have x5 := HX1.out.c5
                      have x6 := HX1.out.c6
                      have x7 := HX1.out.c7
                      rw [E1.out] at x0
                      rw [E2.out] at x1
                      rw [E3.out] at x2
                      rw [E4.out] at x6
                      have xl := HX1.out.lt
                      go_wp2_with (first | (go_at_call 18; refine Calls.mono (specIsWord_any _ _) ?_; rintro e v2 ⟨rfl, hw1⟩; rw [hw1]; clear hw1) | (go_at_call 22; refine Calls.mono (HH.out _ HL1.out.aft) ?_; rintro e u2 ⟨rfl, hu⟩; have HL2 : Hid (LG w u2 bn #[.int .i64 p.addr, .slice ay p.gs.length ky] 86) := HL1.out.step hu; have HX2 : Hid (FX u2 b0 s a) := HX1.out.below hu; clear hu k0 k1 kl x0 x1 x2 x3 x4 x5 x6 x7 xl; have k0 := HL2.out.cel 0 _ rfl; have k1 := HL2.out.cel 1 _ rfl; have kl := HL2.out.lt; have x1 := HX2.out.c1; rw [E2.out] at x1; have xl := HX2.out.lt) | (go_at_call 44; refine Calls.mono (HRS.out _ HL2.out.bel) ?_; rintro e u3 ⟨rfl, hu3⟩; have HL3 : Hid (LG w u3 bn #[.int .i64 p.addr, .slice ay p.gs.length ky] 86) := HL2.out.step hu3; have HX3 : Hid (FX u3 b0 s a) := HX2.out.below hu3; clear hu3))
                      go_ret
                      exact ⟨ret_bool HBD.out.symm, HL2.out.bel⟩
                · rw [h4] at HT
                  as_aux_lemma =>
                    have HBD : Hid (hsS s = false) := (show hsS s = false by rw [E.out, allB_bad hlt (HT.out.trans (by simp))]; simp)
                    have k0 := HL1.out.cel 0 _ rfl
                    have k1 := HL1.out.cel 1 _ rfl
                    have kl := HL1.out.lt
                    have x0 := HX1.out.c0
                    have x1 := HX1.out.c1
                    have x2 := HX1.out.c2
                    have x3 := HX1.out.c3
                    have x4 := HX1.out.c4
                    have x5 := HX1.out.c5
                    have x6 := HX1.out.c6
                    have x7 := HX1.out.c7
                    rw [E1.out] at x0
                    rw [E2.out] at x1
                    rw [E3.out] at x2
                    rw [E4.out] at x6
                    have xl := HX1.out.lt
                    go_wp2_with (first | (go_at_call 18; refine Calls.mono (specIsWord_any _ _) ?_; rintro e v2 ⟨rfl, hw1⟩; rw [hw1]; clear hw1) | (go_at_call 22; refine Calls.mono (HH.out _ HL1.out.aft) ?_; rintro e u2 ⟨rfl, hu⟩; have HL2 : Hid (LG w u2 bn #[.int .i64 p.addr, .slice ay p.gs.length ky] 86) := HL1.out.step hu; have HX2 : Hid (FX u2 b0 s a) := HX1.out.below hu; clear hu k0 k1 kl x0 x1 x2 x3 x4 x5 x6 x7 xl; have k0 := HL2.out.cel 0 _ rfl; have k1 := HL2.out.cel 1 _ rfl; have kl := HL2.out.lt; have x1 := HX2.out.c1; rw [E2.out] at x1; have xl := HX2.out.lt) | (go_at_call 44; refine Calls.mono (HRS.out _ HL2.out.bel) ?_; rintro e u3 ⟨rfl, hu3⟩; have HL3 : Hid (LG w u3 bn #[.int .i64 p.addr, .slice ay p.gs.length ky] 86) := HL2.out.step hu3; have HX3 : Hid (FX u3 b0 s a) := HX2.out.below hu3; clear hu3))
                    go_ret
                    exact ⟨ret_bool HBD.out.symm, HL2.out.bel⟩
              · rw [h3] at HT
                as_aux_lemma =>
                  have HBD : Hid (hsS s = false) := (show hsS s = false by rw [E.out, allB_bad hlt (HT.out.trans (by simp))]; simp)
                  have k0 := HL1.out.cel 0 _ rfl
                  have k1 := HL1.out.cel 1 _ rfl
                  have kl := HL1.out.lt
                  have x0 := HX1.out.c0
                  have x1 := HX1.out.c1
                  have x2 := HX1.out.c2
                  have x3 := HX1.out.c3
                  have x4 := HX1.out.c4
                  have x5 := HX1.out.c5
                  have x6 := HX1.out.c6
                  have x7 := HX1.out.c7
                  rw [E1.out] at x0
                  rw [E2.out] at x1
                  rw [E3.out] at x2
                  rw [E4.out] at x6
                  have xl := HX1.out.lt
                  go_wp2_with (first | (go_at_call 18; refine Calls.mono (specIsWord_any _ _) ?_; rintro e v2 ⟨rfl, hw1⟩; rw [hw1]; clear hw1) | (go_at_call 22; refine Calls.mono (HH.out _ HL1.out.aft) ?_; rintro e u2 ⟨rfl, hu⟩; have HL2 : Hid (LG w u2 bn #[.int .i64 p.addr, .slice ay p.gs.length ky] 86) := HL1.out.step hu; have HX2 : Hid (FX u2 b0 s a) := HX1.out.below hu; clear hu k0 k1 kl x0 x1 x2 x3 x4 x5 x6 x7 xl; have k0 := HL2.out.cel 0 _ rfl; have k1 := HL2.out.cel 1 _ rfl; have kl := HL2.out.lt; have x1 := HX2.out.c1; rw [E2.out] at x1; have xl := HX2.out.lt) | (go_at_call 44; refine Calls.mono (HRS.out _ HL2.out.bel) ?_; rintro e u3 ⟨rfl, hu3⟩; have HL3 : Hid (LG w u3 bn #[.int .i64 p.addr, .slice ay p.gs.length ky] 86) := HL2.out.step hu3; have HX3 : Hid (FX u3 b0 s a) := HX2.out.below hu3; clear hu3))
                  go_ret
                  exact ⟨ret_bool HBD.out.symm, HL1.out.bel⟩
            · rw [h2] at HT
              as_aux_lemma =>
                have HBD : Hid (hsS s = false) := (show hsS s = false by rw [E.out, allB_bad hlt (HT.out.trans (by simp))]; simp)
                have k0 := HL1.out.cel 0 _ rfl
                have k1 := HL1.out.cel 1 _ rfl
                have kl := HL1.out.lt
                have x0 := HX1.out.c0
                have x1 := HX1.out.c1
                have x2 := HX1.out.c2
                have x3 := HX1.out.c3
                have x4 := HX1.out.c4
                have x5 := HX1.out.c5
                have x6 := HX1.out.c6
                have x7 := HX1.out.c7
                rw [E1.out] at x0
                rw [E2.out] at x1
                rw [E3.out] at x2
                rw [E4.out] at x6
                have xl := HX1.out.lt
                go_wp2_with (first | (go_at_call 18; refine Calls.mono (specIsWord_any _ _) ?_; rintro e v2 ⟨rfl, hw1⟩; rw [hw1]; clear hw1) | (go_at_call 22; refine Calls.mono (HH.out _ HL1.out.aft) ?_; rintro e u2 ⟨rfl, hu⟩; have HL2 : Hid (LG w u2 bn #[.int .i64 p.addr, .slice ay p.gs.length ky] 86) := HL1.out.step hu; have HX2 : Hid (FX u2 b0 s a) := HX1.out.below hu; clear hu k0 k1 kl x0 x1 x2 x3 x4 x5 x6 x7 xl; have k0 := HL2.out.cel 0 _ rfl; have k1 := HL2.out.cel 1 _ rfl; have kl := HL2.out.lt; have x1 := HX2.out.c1; rw [E2.out] at x1; have xl := HX2.out.lt) | (go_at_call 44; refine Calls.mono (HRS.out _ HL2.out.bel) ?_; rintro e u3 ⟨rfl, hu3⟩; have HL3 : Hid (LG w u3 bn #[.int .i64 p.addr, .slice ay p.gs.length ky] 86) := HL2.out.step hu3; have HX3 : Hid (FX u3 b0 s a) := HX2.out.below hu3; clear hu3))
                go_ret
                exact ⟨ret_bool HBD.out.symm, HL1.out.bel⟩
        · obtain rfl : k = s.hs.length := by omega
          have x0 := HX.out.c0
          have x1 := HX.out.c1
          have x2 := HX.out.c2
          have x3 := HX.out.c3
          have x4 := HX.out.c4
          have x5 := HX.out.c5
          have x6 := HX.out.c6
          have x7 := HX.out.c7
          rw [E1.out] at x0
          rw [E2.out] at x1
          rw [E3.out] at x2
          rw [E4.out] at x6
          have xl := HX.out.lt
          go_wp2
          clear x0 x1 x2 x3 x4 x5 x6 x7 xl
          go_loopw [6] (fun i wr => ∃ k : Nat, k ≤ s.gs.length ∧ i = .int .i64 k ∧ allB (sg s) k = true ∧ Below w.heap.size w wr ∧ FX wr b0 s a) (fun i _ => s.gs.length - (intOf i).toNat)
          case atStart => exact ⟨0, Nat.zero_le _, rfl, rfl, HB.out, HX.out⟩
          case round =>
            clear hb HX HB hk0
            obtain ⟨k, hk0, rfl, hok, hb, hx⟩ := hrel
            have HOK2 : Hid (allB (sg s) k = true) := hok
            have HB : Hid (Below w.heap.size w wr) := hb
            have HX : Hid (FX wr b0 s a) := hx
            clear hok hx
            have x0 := HX.out.c0
            have x1 := HX.out.c1
            have x2 := HX.out.c2
            have x3 := HX.out.c3
            have x4 := HX.out.c4
            have x5 := HX.out.c5
            have x6 := HX.out.c6
            have x7 := HX.out.c7
            rw [E1.out] at x0
            rw [E2.out] at x1
            rw [E3.out] at x2
            rw [E4.out] at x6
            have xl := HX.out.lt
            by_cases hlt : k < s.gs.length
            · have hkq : k < a.qgs.length := by rw [GQ.out]; exact hlt
              obtain ⟨g, o, cap2, hv, _, hg, hc⟩ := GR.out.resolve_left (fun h => by rw [h.1] at hkq; simp at hkq)
              injection hv with hv1 hv2 hv3
              subst hv1 hv3
              have HD0 : Hid (∀ u, Below w.heap.size w u → u.cell? ⟨g, o + k, none⟩ = some a.qgs[k].rules ∧ g < u.heap.size) := fun u hu => ⟨hc.below hu hg k hkq, Nat.lt_of_lt_of_le hg hu.size⟩
              obtain ⟨p0, p1⟩ := GI.out.el k hkq hlt
              have lp := HLN.out.lgs.el k hlt
              have HT : Hid (sg s k = (!decide (20 < (s.gs[k].rs.length : Int)) && allB (rq s.gs.length s.gs[k].rs) s.gs[k].rs.length)) := (show sg s k = _ by unfold sg; rw [gdg hlt]; rfl)
              have hk1 : (0 : Int) ≤ (k : Int) := by omega
              have hk2 : (k : Int) < (s.gs.length : Int) := by omega
              clear p0
              generalize s.gs[k] = p at *
              generalize a.qgs[k].rules = y at *
              obtain ⟨ay, ky, rfl⟩ := p1.sl
              have HP1 : Hid (NRrow w (.slice ay p.rs.length ky) p.rs) := p1
              obtain ⟨d0, hgw⟩ := HD0.out wr hb
              clear hc hb hv2 p1
              cases h1 : decide (20 < (p.rs.length : Int))
              · rw [h1] at HT
                go_wp2
                clear x0 x1 x2 x3 x4 x5 x6 x7 xl
                clear d0 hgw
                go_loopw [7] (fun j w5 => ∃ q : Nat, q ≤ p.rs.length ∧ j = .int .i64 q ∧ allB (rq s.gs.length p.rs) q = true ∧ Below w.heap.size w w5 ∧ FX w5 b0 s a) (fun j _ => p.rs.length - (intOf j).toNat)
                case atStart => exact ⟨0, Nat.zero_le _, rfl, rfl, HB.out, HX.out⟩
                case round =>
                  clear HB HX
                  obtain ⟨q, hq0, rfl, hqk, hb, hx⟩ := hrel
                  have HQK : Hid (allB (rq s.gs.length p.rs) q = true) := hqk
                  have HB : Hid (Below w.heap.size w wr) := hb
                  have HX : Hid (FX wr b0 s a) := hx
                  clear hqk hx
                  have x1 := HX.out.c1
                  rw [E2.out] at x1
                  have xl := HX.out.lt
                  obtain ⟨d0, hgw⟩ := HD0.out wr hb
                  by_cases hlq : q < p.rs.length
                  · obtain ⟨g2, o2, cap3, hv, _, hg2, hc2⟩ := HP1.out.resolve_left (fun h => by rw [h.1] at hlq; simp at hlq)
                    injection hv with hv1 hv2 hv3
                    subst hv1 hv3
                    have HD2 : Hid (∀ u, Below w.heap.size w u → _) := fun u (hu : Below w.heap.size w u) => (⟨hc2.below hu hg2 q hlq, Nat.lt_of_lt_of_le hg2 hu.size⟩ : _ ∧ g2 < u.heap.size)
                    have HGQ : Hid (rq s.gs.length p.rs q = rlB s.gs.length p.rs[q]) := (show rq _ _ _ = _ by unfold rq; rw [gdr hlq])
                    have hq1 : (0 : Int) ≤ (q : Int) := by omega
                    have hq2 : (q : Int) < (p.rs.length : Int) := by omega
                    have HRU : Hid (∀ u, Calls Try.prog 36 #[nrA p.rs[q], .int .i64 (s.gs.length : Nat)] u fun e w' => e = .returned (.bool (rlB s.gs.length p.rs[q])) ∧ Below u.heap.size u w') := fun u => ruleS_any _ _ u
                    generalize p.rs[q] = r at *
                    unfold nrA at HRU
                    clear hc2 hv2
                    cases h7 : rlB s.gs.length r
                    · rw [h7] at HGQ HRU
                      have HBD : Hid (hsS s = false) := (show hsS s = false by rw [E.out, allB_bad (p := sg s) hlt (HT.out.trans (by rw [allB_bad hlq HGQ.out]; simp))]; simp)
                      go_upto_region 22 with fail
                      have HSB : Hid (FX wr.drew b0 s a ∧ Below w.heap.size w wr.drew) := ⟨HX.out.below (Below.refl _ _).drew, HB.out.drew⟩
                      clear x1 xl d0 hgw
                      refine wp_region_held (S := fun w9 => FX w9 b0 s a ∧ Below w.heap.size w w9) (by kernel_rfl) ?_
                      change wpAnyH _ _ _ _ _ _ _ _ (World.drew _)
                      refine wpAnyH_take (i := 0) (v := .pointer (some ⟨b0, 1, none⟩)) rfl (by kernel_rfl) (by kernel_rfl) (by kernel_rfl) (fun _ _ _ h => h) (Or.inl ⟨by kernel_rfl, fun w9 h9 => ?_⟩) HSB.out ?_
                      · clear h9; go_simp
                      refine wpAnyH_take (i := 1) (v := .slice (some ⟨g, o, none⟩) s.gs.length kgs) rfl (by kernel_rfl) (by kernel_rfl) (by kernel_rfl) (fun _ _ _ h => h) (Or.inl ⟨by kernel_rfl, fun w9 h9 => ?_⟩) HSB.out ?_
                      · have x1 := h9.1.c1; rw [E2.out] at x1; have xl := h9.1.lt; obtain ⟨d0, hgw⟩ := HD0.out _ h9.2; obtain ⟨⟨e0, e1, e2, e3, e4, e5, e6⟩, hgw2⟩ := HD2.out _ h9.2; clear h9; go_simp
                      refine wpAnyH_take (i := 2) (v := .int .i64 (k : Int)) rfl (by kernel_rfl) (by kernel_rfl) (by kernel_rfl) (fun _ _ _ h => h) (Or.inl ⟨by kernel_rfl, fun w9 h9 => ?_⟩) HSB.out ?_
                      · clear h9; go_simp
                      refine wpAnyH_take (i := 3) (v := .pointer (some ⟨g, o + k, none⟩)) rfl (by kernel_rfl) (by kernel_rfl) (by kernel_rfl) (fun _ _ _ h => h) (Or.inl ⟨by kernel_rfl, fun w9 h9 => ?_⟩) HSB.out ?_
                      · clear h9; go_simp
                      refine wpAnyH_take (i := 4) (v := .pointer (some ⟨g, o + k, none⟩)) rfl (by kernel_rfl) (by kernel_rfl) (by kernel_rfl) (fun _ _ _ h => h) (Or.inl ⟨by kernel_rfl, fun w9 h9 => ?_⟩) HSB.out ?_
                      · clear h9; go_simp
                      refine wpAnyH_take (i := 5) (v := .slice (some ⟨g2, o2, none⟩) p.rs.length ky) rfl (by kernel_rfl) (by kernel_rfl) (by kernel_rfl) (fun _ _ _ h => h) (Or.inl ⟨by kernel_rfl, fun w9 h9 => ?_⟩) HSB.out ?_
                      · have x1 := h9.1.c1; rw [E2.out] at x1; have xl := h9.1.lt; obtain ⟨d0, hgw⟩ := HD0.out _ h9.2; obtain ⟨⟨e0, e1, e2, e3, e4, e5, e6⟩, hgw2⟩ := HD2.out _ h9.2; clear h9; go_simp
                      refine wpAnyH_take (i := 6) (v := .int .i64 (q : Int)) rfl (by kernel_rfl) (by kernel_rfl) (by kernel_rfl) (fun _ _ _ h => h) (Or.inl ⟨by kernel_rfl, fun w9 h9 => ?_⟩) HSB.out ?_
                      · clear h9; go_simp
                      refine wpAnyH_take (i := 7) (v := .pointer (some ⟨g2, o2 + q * 7, none⟩)) rfl (by kernel_rfl) (by kernel_rfl) (by kernel_rfl) (fun _ _ _ h => h) (Or.inl ⟨by kernel_rfl, fun w9 h9 => ?_⟩) HSB.out ?_
                      · clear h9; go_simp
                      refine wpAnyH_take (i := 8) (v := .agg #[.bool r.inn, .int .i64 r.proto, .int .i64 r.addr, .int .i64 r.bits, .int .i64 r.low, .int .i64 r.high, .int .i64 r.group]) rfl (by kernel_rfl) (by kernel_rfl) (by kernel_rfl) (fun _ _ _ h => h) (Or.inl ⟨by kernel_rfl, fun w9 h9 => ?_⟩) HSB.out ?_
                      · have x1 := h9.1.c1; rw [E2.out] at x1; have xl := h9.1.lt; obtain ⟨d0, hgw⟩ := HD0.out _ h9.2; obtain ⟨⟨e0, e1, e2, e3, e4, e5, e6⟩, hgw2⟩ := HD2.out _ h9.2; clear h9; go_simp
                      refine wpAnyH_take (i := 9) (v := .pointer (some ⟨b0, 1, none⟩)) rfl (by kernel_rfl) (by kernel_rfl) (by kernel_rfl) (fun _ _ _ h => h) (Or.inl ⟨by kernel_rfl, fun w9 h9 => ?_⟩) HSB.out ?_
                      · clear h9; go_simp
                      refine wpAnyH_take (i := 10) (v := .slice (some ⟨g, o, none⟩) s.gs.length kgs) rfl (by kernel_rfl) (by kernel_rfl) (by kernel_rfl) (fun _ _ _ h => h) (Or.inl ⟨by kernel_rfl, fun w9 h9 => ?_⟩) HSB.out ?_
                      · have x1 := h9.1.c1; rw [E2.out] at x1; have xl := h9.1.lt; obtain ⟨d0, hgw⟩ := HD0.out _ h9.2; obtain ⟨⟨e0, e1, e2, e3, e4, e5, e6⟩, hgw2⟩ := HD2.out _ h9.2; clear h9; go_simp
                      refine wpAnyH_take (i := 11) (v := .int .i64 (s.gs.length : Nat)) rfl (by kernel_rfl) (by kernel_rfl) (by kernel_rfl) (fun _ _ _ h => h) (Or.inl ⟨by kernel_rfl, fun w9 h9 => ?_⟩) HSB.out ?_
                      · clear h9; go_simp
                      refine held_one 12 (by kernel_rfl) rfl (by kernel_rfl) fun K hK => ?_
                      go_simp
                      go_wp2_with (go_at_call 36; refine Calls.mono (HRU.out _) ?_; rintro e9 u9 ⟨rfl, hu9⟩; have HSC : Hid (FX u9 b0 s a ∧ Below w.heap.size w u9) := ⟨HSB.out.1.below hu9, HSB.out.2.trans (hu9.mono HSB.out.2.size)⟩; clear hu9)
                      refine hK _ _ HSC.out ?_
                      clear hK K
                      refine wpAnyH_take (i := 13) (v := .bool true) rfl (by kernel_rfl) (by kernel_rfl) (by kernel_rfl) (fun _ _ _ h => h) (Or.inl ⟨by kernel_rfl, fun w9 h9 => ?_⟩) HSC.out ?_
                      · clear h9; go_simp
                      refine wpAnyH_done (by kernel_rfl) ?_ _
                      go_simp
                      go_wp2
                      go_ret
                      exact ⟨ret_bool HBD.out.symm, HSC.out.2⟩
                    · rw [h7] at HGQ HRU
                      have HGD : Hid (allB (rq s.gs.length p.rs) (q + 1) = true) := (show _ = true by rw [allB_succ, HQK.out, HGQ.out]; rfl)
                      go_upto_region 22 with fail
                      have HSB : Hid (FX wr.drew b0 s a ∧ Below w.heap.size w wr.drew) := ⟨HX.out.below (Below.refl _ _).drew, HB.out.drew⟩
                      clear x1 xl d0 hgw
                      refine wp_region_held (S := fun w9 => FX w9 b0 s a ∧ Below w.heap.size w w9) (by kernel_rfl) ?_
                      change wpAnyH _ _ _ _ _ _ _ _ (World.drew _)
                      refine wpAnyH_take (i := 0) (v := .pointer (some ⟨b0, 1, none⟩)) rfl (by kernel_rfl) (by kernel_rfl) (by kernel_rfl) (fun _ _ _ h => h) (Or.inl ⟨by kernel_rfl, fun w9 h9 => ?_⟩) HSB.out ?_
                      · clear h9; go_simp
                      refine wpAnyH_take (i := 1) (v := .slice (some ⟨g, o, none⟩) s.gs.length kgs) rfl (by kernel_rfl) (by kernel_rfl) (by kernel_rfl) (fun _ _ _ h => h) (Or.inl ⟨by kernel_rfl, fun w9 h9 => ?_⟩) HSB.out ?_
                      · have x1 := h9.1.c1; rw [E2.out] at x1; have xl := h9.1.lt; obtain ⟨d0, hgw⟩ := HD0.out _ h9.2; obtain ⟨⟨e0, e1, e2, e3, e4, e5, e6⟩, hgw2⟩ := HD2.out _ h9.2; clear h9; go_simp
                      refine wpAnyH_take (i := 2) (v := .int .i64 (k : Int)) rfl (by kernel_rfl) (by kernel_rfl) (by kernel_rfl) (fun _ _ _ h => h) (Or.inl ⟨by kernel_rfl, fun w9 h9 => ?_⟩) HSB.out ?_
                      · clear h9; go_simp
                      refine wpAnyH_take (i := 3) (v := .pointer (some ⟨g, o + k, none⟩)) rfl (by kernel_rfl) (by kernel_rfl) (by kernel_rfl) (fun _ _ _ h => h) (Or.inl ⟨by kernel_rfl, fun w9 h9 => ?_⟩) HSB.out ?_
                      · clear h9; go_simp
                      refine wpAnyH_take (i := 4) (v := .pointer (some ⟨g, o + k, none⟩)) rfl (by kernel_rfl) (by kernel_rfl) (by kernel_rfl) (fun _ _ _ h => h) (Or.inl ⟨by kernel_rfl, fun w9 h9 => ?_⟩) HSB.out ?_
                      · clear h9; go_simp
                      refine wpAnyH_take (i := 5) (v := .slice (some ⟨g2, o2, none⟩) p.rs.length ky) rfl (by kernel_rfl) (by kernel_rfl) (by kernel_rfl) (fun _ _ _ h => h) (Or.inl ⟨by kernel_rfl, fun w9 h9 => ?_⟩) HSB.out ?_
                      · have x1 := h9.1.c1; rw [E2.out] at x1; have xl := h9.1.lt; obtain ⟨d0, hgw⟩ := HD0.out _ h9.2; obtain ⟨⟨e0, e1, e2, e3, e4, e5, e6⟩, hgw2⟩ := HD2.out _ h9.2; clear h9; go_simp
                      refine wpAnyH_take (i := 6) (v := .int .i64 (q : Int)) rfl (by kernel_rfl) (by kernel_rfl) (by kernel_rfl) (fun _ _ _ h => h) (Or.inl ⟨by kernel_rfl, fun w9 h9 => ?_⟩) HSB.out ?_
                      · clear h9; go_simp
                      refine wpAnyH_take (i := 7) (v := .pointer (some ⟨g2, o2 + q * 7, none⟩)) rfl (by kernel_rfl) (by kernel_rfl) (by kernel_rfl) (fun _ _ _ h => h) (Or.inl ⟨by kernel_rfl, fun w9 h9 => ?_⟩) HSB.out ?_
                      · clear h9; go_simp
                      refine wpAnyH_take (i := 8) (v := .agg #[.bool r.inn, .int .i64 r.proto, .int .i64 r.addr, .int .i64 r.bits, .int .i64 r.low, .int .i64 r.high, .int .i64 r.group]) rfl (by kernel_rfl) (by kernel_rfl) (by kernel_rfl) (fun _ _ _ h => h) (Or.inl ⟨by kernel_rfl, fun w9 h9 => ?_⟩) HSB.out ?_
                      · have x1 := h9.1.c1; rw [E2.out] at x1; have xl := h9.1.lt; obtain ⟨d0, hgw⟩ := HD0.out _ h9.2; obtain ⟨⟨e0, e1, e2, e3, e4, e5, e6⟩, hgw2⟩ := HD2.out _ h9.2; clear h9; go_simp
                      refine wpAnyH_take (i := 9) (v := .pointer (some ⟨b0, 1, none⟩)) rfl (by kernel_rfl) (by kernel_rfl) (by kernel_rfl) (fun _ _ _ h => h) (Or.inl ⟨by kernel_rfl, fun w9 h9 => ?_⟩) HSB.out ?_
                      · clear h9; go_simp
                      refine wpAnyH_take (i := 10) (v := .slice (some ⟨g, o, none⟩) s.gs.length kgs) rfl (by kernel_rfl) (by kernel_rfl) (by kernel_rfl) (fun _ _ _ h => h) (Or.inl ⟨by kernel_rfl, fun w9 h9 => ?_⟩) HSB.out ?_
                      · have x1 := h9.1.c1; rw [E2.out] at x1; have xl := h9.1.lt; obtain ⟨d0, hgw⟩ := HD0.out _ h9.2; obtain ⟨⟨e0, e1, e2, e3, e4, e5, e6⟩, hgw2⟩ := HD2.out _ h9.2; clear h9; go_simp
                      refine wpAnyH_take (i := 11) (v := .int .i64 (s.gs.length : Nat)) rfl (by kernel_rfl) (by kernel_rfl) (by kernel_rfl) (fun _ _ _ h => h) (Or.inl ⟨by kernel_rfl, fun w9 h9 => ?_⟩) HSB.out ?_
                      · clear h9; go_simp
                      refine held_one 12 (by kernel_rfl) rfl (by kernel_rfl) fun K hK => ?_
                      go_simp
                      go_wp2_with (go_at_call 36; refine Calls.mono (HRU.out _) ?_; rintro e9 u9 ⟨rfl, hu9⟩; have HSC : Hid (FX u9 b0 s a ∧ Below w.heap.size w u9) := ⟨HSB.out.1.below hu9, HSB.out.2.trans (hu9.mono HSB.out.2.size)⟩; clear hu9)
                      refine hK _ _ HSC.out ?_
                      clear hK K
                      refine wpAnyH_take (i := 13) (v := .bool false) rfl (by kernel_rfl) (by kernel_rfl) (by kernel_rfl) (fun _ _ _ h => h) (Or.inl ⟨by kernel_rfl, fun w9 h9 => ?_⟩) HSC.out ?_
                      · clear h9; go_simp
                      refine wpAnyH_done (by kernel_rfl) ?_ _
                      go_simp
                      go_wp2
                      exact ⟨⟨q + 1, hlq, by go_num, HGD.out, HSC.out.2, HSC.out.1⟩, by simp [intOf]; omega⟩
                  · obtain rfl : q = p.rs.length := by omega
                    have HGD : Hid (allB (sg s) (k + 1) = true) := (show _ = true by rw [allB_succ, HOK2.out, HT.out, HQK.out]; simp)
                    go_wp2
                    exact ⟨⟨k + 1, hlt, by go_num, HGD.out, HB.out, HX.out⟩, by simp [intOf]; omega⟩
              · rw [h1] at HT
                have HBD : Hid (hsS s = false) := (show hsS s = false by rw [E.out, allB_bad (p := sg s) hlt (HT.out.trans (by simp))]; simp)
                go_wp2
                go_ret
                exact ⟨ret_bool HBD.out.symm, HB.out⟩
            · obtain rfl : k = s.gs.length := by omega
              go_wp2
              go_ret
              exact ⟨ret_bool (by rw [E.out, HOK.out, HOK2.out]; rfl), HB.out⟩
    · rw [hb1] at E
      go_enter Try.func19, Try.ntmps19
      go_upto_region 1 with fail
      generalize (w.alloc (.cells #[.slice ahs s.hs.length khs, .slice ags s.gs.length kgs, .slice afs s.fs.length kfs, .int .i64 s.pub, .int .i64 s.fst, .int .i64 s.lst, .slice acs s.cs.length kcs, .int .i64 s.time] 35)) = u0 at *
      generalize e0 : w.heap.size = b0 at *
      have x0 := HX0.out.c0
      have x1 := HX0.out.c1
      have x2 := HX0.out.c2
      have x3 := HX0.out.c3
      have x4 := HX0.out.c4
      have x5 := HX0.out.c5
      have x6 := HX0.out.c6
      have x7 := HX0.out.c7
      rw [E1.out] at x0
      rw [E2.out] at x1
      rw [E3.out] at x2
      rw [E4.out] at x6
      have xl := HX0.out.lt
      go_wp2
      go_ret
      exact ⟨ret_bool (by rw [E.out]; simp), e0 ▸ HB0.out⟩
  · rw [ha] at E
    go_enter Try.func19, Try.ntmps19
    go_upto_region 1 with fail
    generalize (w.alloc (.cells #[.slice ahs s.hs.length khs, .slice ags s.gs.length kgs, .slice afs s.fs.length kfs, .int .i64 s.pub, .int .i64 s.fst, .int .i64 s.lst, .slice acs s.cs.length kcs, .int .i64 s.time] 35)) = u0 at *
    generalize e0 : w.heap.size = b0 at *
    have x0 := HX0.out.c0
    have x1 := HX0.out.c1
    have x2 := HX0.out.c2
    have x3 := HX0.out.c3
    have x4 := HX0.out.c4
    have x5 := HX0.out.c5
    have x6 := HX0.out.c6
    have x7 := HX0.out.c7
    rw [E1.out] at x0
    rw [E2.out] at x1
    rw [E3.out] at x2
    rw [E4.out] at x6
    have xl := HX0.out.lt
    go_wp2
    go_ret
    exact ⟨ret_bool (by rw [E.out]; simp), e0 ▸ HB0.out⟩

def fw9 : FW := ⟨0, 0, 0, 0⟩
def fkk (s : FI) (j : Nat) (z : FW) : Bool := !(!prB z.proto || !opB z.port || !opB z.tp || !ihB s z.addr) && !(ixFW (fkB z.proto z.port) s.fs != (j : Int))
def fk (s : FI) (j : Nat) : Bool := fkk s j (s.fs.getD j fw9)
def fwB (s : FI) : Bool := allB (fk s) s.fs.length
theorem gdf {zs : List FW} {k : Nat} (h : k < zs.length) : zs.getD k fw9 = zs[k] := by simp [List.getD, List.getElem?_eq_getElem h]
set_option maxRecDepth 100000 in
set_option maxHeartbeats 4000000 in
theorem forwardsRight_any {w : World} {b : Nat} {s : FI} {a : FA} (h : FX w b s a) (hl : FIlen s) : Calls Try.prog 52 #[.pointer (some ⟨b, 0, none⟩)] w fun r w' => r = .returned (.bool (fwB s)) ∧ Below w.heap.size w w' := by
  have HX : Hid (FX w b s a) := h
  obtain ⟨ao, cap, ee⟩ := h.row.rfs.sl
  have HR : Hid (FWrow w (.slice ao s.fs.length cap) s.fs) := (show FWrow w _ s.fs by rw [← ee]; exact h.row.rfs)
  have hle := hl.lfs
  have hlh := hl.lhs.len
  have c1 := h.c2
  have cl := h.lt
  rw [ee] at c1
  clear h ee hl
  go_enter Try.func52, Try.ntmps52
  go_wp2
  clear c1 cl
  go_loopw [10] (fun i wr => ∃ k : Nat, k ≤ s.fs.length ∧ i = .int .i64 k ∧ allB (fk s) k = true ∧ Below w.heap.size w wr) (fun i _ => s.fs.length - (intOf i).toNat)
  case atStart => exact ⟨0, Nat.zero_le _, rfl, rfl, Below.refl _ _⟩
  case round =>
    obtain ⟨k, hk0, rfl, hok, hb⟩ := hrel
    have HOK : Hid (allB (fk s) k = true) := hok
    have HB : Hid (Below w.heap.size w wr) := hb
    clear hok
    by_cases hlt : k < s.fs.length
    · obtain ⟨g, o, cap2, hv, _, hg, hc⟩ := HR.out.resolve_left (fun h => by rw [h.1] at hlt; simp at hlt)
      injection hv with hv1 hv2 hv3
      subst hv1 hv3
      obtain ⟨d0, d1, d2, d3⟩ := hc.below hb hg k hlt
      have hgw : g < wr.heap.size := Nat.lt_of_lt_of_le hg hb.size
      have HT : Hid (fk s k = (!(!prB s.fs[k].proto || !opB s.fs[k].port || !opB s.fs[k].tp || !ihB s s.fs[k].addr) && !(ixFW (fkB s.fs[k].proto s.fs[k].port) s.fs != (k : Int)))) := (show fk s k = _ by unfold fk; rw [gdf hlt]; rfl)
      have hk1 : (0 : Int) ≤ (k : Int) := by omega
      have hk2 : (k : Int) < (s.fs.length : Int) := by omega
      generalize s.fs[k] = z at *
      have HX1 : Hid (LG w (wr.alloc (.cells #[.int .i64 z.proto, .int .i64 z.port, .int .i64 z.addr, .int .i64 z.tp] 56)) wr.heap.size #[.int .i64 z.proto, .int .i64 z.port, .int .i64 z.addr, .int .i64 z.tp] 56) := ⟨hb.trans ((bx1 _ _).mono hb.size), heap_new _ _, hb.size⟩
      have HH : Hid (∀ u, Aft w u → Calls Try.prog 76 #[.pointer (some ⟨b, 0, none⟩), .int .i64 z.addr] u fun r w' => r = .returned (.bool (ihB s z.addr)) ∧ Below u.heap.size u w') := fun u hu => isHost_any (HX.out.aft hu) hlh z.addr
      have HFA : Hid (∀ u, Aft w u → Calls Try.prog 77 #[.pointer (some ⟨b, 0, none⟩), .int .i64 z.proto, .int .i64 z.port] u fun r w' => r = .returned (.int .i64 (ixFW (fkB z.proto z.port) s.fs)) ∧ Below u.heap.size u w') := fun u hu => forwardAt_any (HX.out.aft hu) hle z.proto z.port
      generalize ixFW (fkB z.proto z.port) s.fs = X at *
      clear hc hb hv2
      go_upto_region 4 with fail
      generalize (wr.alloc (.cells #[.int .i64 z.proto, .int .i64 z.port, .int .i64 z.addr, .int .i64 z.tp] 56)) = v1 at *
      generalize wr.heap.size = bn at *
      clear d0 d1 d2 d3 hgw hk1 hk2
      have k0 := HX1.out.cel 0 _ rfl
      have k1 := HX1.out.cel 1 _ rfl
      have k2 := HX1.out.cel 2 _ rfl
      have k3 := HX1.out.cel 3 _ rfl
      have kl := HX1.out.lt
      cases h1 : prB z.proto
      · rw [h1] at HT
        have HBD : Hid (fwB s = false) := allB_bad hlt (HT.out.trans (by simp))
        go_wp2_with (first | (go_at_call 59; refine Calls.mono (isProto_any _ _) ?_; rintro e v2 ⟨rfl, hw1⟩; rw [hw1]; clear hw1) | (go_at_call 75; refine Calls.mono (openPort_any _ _) ?_; rintro e v2 ⟨rfl, hw1⟩; rw [hw1]; clear hw1) | (go_at_call 76; refine Calls.mono (HH.out _ HX1.out.aft) ?_; rintro e u2 ⟨rfl, hu⟩; have HX2 : Hid (LG w u2 bn #[.int .i64 z.proto, .int .i64 z.port, .int .i64 z.addr, .int .i64 z.tp] 56) := HX1.out.step hu; clear hu k0 k1 k2 k3 kl; have k0 := HX2.out.cel 0 _ rfl; have k1 := HX2.out.cel 1 _ rfl; have kl := HX2.out.lt) | (go_at_call 77; refine Calls.mono (HFA.out _ HX2.out.aft) ?_; rintro e u3 ⟨rfl, hu3⟩; have HX3 : Hid (LG w u3 bn #[.int .i64 z.proto, .int .i64 z.port, .int .i64 z.addr, .int .i64 z.tp] 56) := HX2.out.step hu3; clear hu3))
        go_ret
        exact ⟨ret_bool HBD.out.symm, HX1.out.bel⟩
      · rw [h1] at HT
        cases h2 : opB z.port
        · rw [h2] at HT
          have HBD : Hid (fwB s = false) := allB_bad hlt (HT.out.trans (by simp))
          go_wp2_with (first | (go_at_call 59; refine Calls.mono (isProto_any _ _) ?_; rintro e v2 ⟨rfl, hw1⟩; rw [hw1]; clear hw1) | (go_at_call 75; refine Calls.mono (openPort_any _ _) ?_; rintro e v2 ⟨rfl, hw1⟩; rw [hw1]; clear hw1) | (go_at_call 76; refine Calls.mono (HH.out _ HX1.out.aft) ?_; rintro e u2 ⟨rfl, hu⟩; have HX2 : Hid (LG w u2 bn #[.int .i64 z.proto, .int .i64 z.port, .int .i64 z.addr, .int .i64 z.tp] 56) := HX1.out.step hu; clear hu k0 k1 k2 k3 kl; have k0 := HX2.out.cel 0 _ rfl; have k1 := HX2.out.cel 1 _ rfl; have kl := HX2.out.lt) | (go_at_call 77; refine Calls.mono (HFA.out _ HX2.out.aft) ?_; rintro e u3 ⟨rfl, hu3⟩; have HX3 : Hid (LG w u3 bn #[.int .i64 z.proto, .int .i64 z.port, .int .i64 z.addr, .int .i64 z.tp] 56) := HX2.out.step hu3; clear hu3))
          go_ret
          exact ⟨ret_bool HBD.out.symm, HX1.out.bel⟩
        · rw [h2] at HT
          cases h3 : opB z.tp
          · rw [h3] at HT
            have HBD : Hid (fwB s = false) := allB_bad hlt (HT.out.trans (by simp))
            go_wp2_with (first | (go_at_call 59; refine Calls.mono (isProto_any _ _) ?_; rintro e v2 ⟨rfl, hw1⟩; rw [hw1]; clear hw1) | (go_at_call 75; refine Calls.mono (openPort_any _ _) ?_; rintro e v2 ⟨rfl, hw1⟩; rw [hw1]; clear hw1) | (go_at_call 76; refine Calls.mono (HH.out _ HX1.out.aft) ?_; rintro e u2 ⟨rfl, hu⟩; have HX2 : Hid (LG w u2 bn #[.int .i64 z.proto, .int .i64 z.port, .int .i64 z.addr, .int .i64 z.tp] 56) := HX1.out.step hu; clear hu k0 k1 k2 k3 kl; have k0 := HX2.out.cel 0 _ rfl; have k1 := HX2.out.cel 1 _ rfl; have kl := HX2.out.lt) | (go_at_call 77; refine Calls.mono (HFA.out _ HX2.out.aft) ?_; rintro e u3 ⟨rfl, hu3⟩; have HX3 : Hid (LG w u3 bn #[.int .i64 z.proto, .int .i64 z.port, .int .i64 z.addr, .int .i64 z.tp] 56) := HX2.out.step hu3; clear hu3))
            go_ret
            exact ⟨ret_bool HBD.out.symm, HX1.out.bel⟩
          · rw [h3] at HT
            cases h4 : ihB s z.addr
            · rw [h4] at HT HH
              have HBD : Hid (fwB s = false) := allB_bad hlt (HT.out.trans (by simp))
              go_wp2_with (first | (go_at_call 59; refine Calls.mono (isProto_any _ _) ?_; rintro e v2 ⟨rfl, hw1⟩; rw [hw1]; clear hw1) | (go_at_call 75; refine Calls.mono (openPort_any _ _) ?_; rintro e v2 ⟨rfl, hw1⟩; rw [hw1]; clear hw1) | (go_at_call 76; refine Calls.mono (HH.out _ HX1.out.aft) ?_; rintro e u2 ⟨rfl, hu⟩; have HX2 : Hid (LG w u2 bn #[.int .i64 z.proto, .int .i64 z.port, .int .i64 z.addr, .int .i64 z.tp] 56) := HX1.out.step hu; clear hu k0 k1 k2 k3 kl; have k0 := HX2.out.cel 0 _ rfl; have k1 := HX2.out.cel 1 _ rfl; have kl := HX2.out.lt) | (go_at_call 77; refine Calls.mono (HFA.out _ HX2.out.aft) ?_; rintro e u3 ⟨rfl, hu3⟩; have HX3 : Hid (LG w u3 bn #[.int .i64 z.proto, .int .i64 z.port, .int .i64 z.addr, .int .i64 z.tp] 56) := HX2.out.step hu3; clear hu3))
              go_ret
              exact ⟨ret_bool HBD.out.symm, HX2.out.bel⟩
            · rw [h4] at HT HH
              cases h5 : (X != (k : Int))
              · rw [h5] at HT
                have HGD : Hid (allB (fk s) (k + 1) = true) := (show _ = true by rw [allB_succ, HOK.out, HT.out]; simp)
                go_wp2_with (first | (go_at_call 59; refine Calls.mono (isProto_any _ _) ?_; rintro e v2 ⟨rfl, hw1⟩; rw [hw1]; clear hw1) | (go_at_call 75; refine Calls.mono (openPort_any _ _) ?_; rintro e v2 ⟨rfl, hw1⟩; rw [hw1]; clear hw1) | (go_at_call 76; refine Calls.mono (HH.out _ HX1.out.aft) ?_; rintro e u2 ⟨rfl, hu⟩; have HX2 : Hid (LG w u2 bn #[.int .i64 z.proto, .int .i64 z.port, .int .i64 z.addr, .int .i64 z.tp] 56) := HX1.out.step hu; clear hu k0 k1 k2 k3 kl; have k0 := HX2.out.cel 0 _ rfl; have k1 := HX2.out.cel 1 _ rfl; have kl := HX2.out.lt) | (go_at_call 77; refine Calls.mono (HFA.out _ HX2.out.aft) ?_; rintro e u3 ⟨rfl, hu3⟩; have HX3 : Hid (LG w u3 bn #[.int .i64 z.proto, .int .i64 z.port, .int .i64 z.addr, .int .i64 z.tp] 56) := HX2.out.step hu3; clear hu3))
                exact ⟨⟨k + 1, hlt, by go_num, HGD.out, HX3.out.bel⟩, by simp [intOf]; omega⟩
              · rw [h5] at HT
                have HBD : Hid (fwB s = false) := allB_bad hlt (HT.out.trans (by simp))
                go_wp2_with (first | (go_at_call 59; refine Calls.mono (isProto_any _ _) ?_; rintro e v2 ⟨rfl, hw1⟩; rw [hw1]; clear hw1) | (go_at_call 75; refine Calls.mono (openPort_any _ _) ?_; rintro e v2 ⟨rfl, hw1⟩; rw [hw1]; clear hw1) | (go_at_call 76; refine Calls.mono (HH.out _ HX1.out.aft) ?_; rintro e u2 ⟨rfl, hu⟩; have HX2 : Hid (LG w u2 bn #[.int .i64 z.proto, .int .i64 z.port, .int .i64 z.addr, .int .i64 z.tp] 56) := HX1.out.step hu; clear hu k0 k1 k2 k3 kl; have k0 := HX2.out.cel 0 _ rfl; have k1 := HX2.out.cel 1 _ rfl; have kl := HX2.out.lt) | (go_at_call 77; refine Calls.mono (HFA.out _ HX2.out.aft) ?_; rintro e u3 ⟨rfl, hu3⟩; have HX3 : Hid (LG w u3 bn #[.int .i64 z.proto, .int .i64 z.port, .int .i64 z.addr, .int .i64 z.tp] 56) := HX2.out.step hu3; clear hu3))
                go_ret
                exact ⟨ret_bool HBD.out.symm, HX3.out.bel⟩
    · obtain rfl : k = s.fs.length := by omega
      go_wp2
      go_ret
      exact ⟨ret_bool HOK.out.symm, HB.out⟩
def bdB (s : FI) : Bool := !(decide (12 < (s.hs.length : Int)) || decide (12 < (s.gs.length : Int)) || decide (10 < (s.fs.length : Int)) || decide (24 < (s.cs.length : Int))) && !(!isW s.pub || s.pub == 0 || decide (s.time < 0) || decide (1099511627776 < s.time)) && (decide (1024 ≤ s.fst) && decide (s.fst ≤ s.lst) && decide (s.lst ≤ 65535))
set_option maxRecDepth 100000 in
set_option maxHeartbeats 4000000 in
theorem bounded_any {w : World} {b : Nat} {s : FI} {a : FA} (h : FX w b s a) : Calls Try.prog 49 #[.pointer (some ⟨b, 0, none⟩)] w fun r w' => r = .returned (.bool (bdB s)) ∧ Below w.heap.size w w' := by
  obtain ⟨ap, kp, e1⟩ := h.sh
  obtain ⟨ag, kg, e2⟩ := h.sg
  obtain ⟨af, kf, e3⟩ := h.row.rfs.sl
  obtain ⟨ac, kc, e4⟩ := h.row.rcs.sl
  have c0 := h.c0
  have c1 := h.c1
  have c2 := h.c2
  have c3 := h.c3
  have c4 := h.c4
  have c5 := h.c5
  have c6 := h.c6
  have c7 := h.c7
  have cl := h.lt
  rw [e1] at c0
  rw [e2] at c1
  rw [e3] at c2
  rw [e4] at c6
  clear h e1 e2 e3 e4
  have E : Hid (bdB s = (!(decide (12 < (s.hs.length : Int)) || decide (12 < (s.gs.length : Int)) || decide (10 < (s.fs.length : Int)) || decide (24 < (s.cs.length : Int))) && !(!isW s.pub || s.pub == 0 || decide (s.time < 0) || decide (1099511627776 < s.time)) && (decide (1024 ≤ s.fst) && decide (s.fst ≤ s.lst) && decide (s.lst ≤ 65535)))) := rfl
  cases h0 : decide (12 < (s.hs.length : Int))
  · rw [h0] at E
    cases h1 : decide (12 < (s.gs.length : Int))
    · rw [h1] at E
      cases h2 : decide (10 < (s.fs.length : Int))
      · rw [h2] at E
        cases h3 : decide (24 < (s.cs.length : Int))
        · rw [h3] at E
          cases h4 : isW s.pub
          · rw [h4] at E
            go_enter Try.func49, Try.ntmps49
            go_wp2_with (go_at_call 61; refine Calls.mono (implIsWord_any _ _) ?_; rintro e v2 ⟨rfl, hw1⟩; rw [hw1]; clear hw1)
            go_ret
            exact ⟨ret_bool (by rw [E.out]; simp), by first | exact Below.refl _ _ | exact bdn (Below.refl _ _) _⟩
          · rw [h4] at E
            cases h5 : (s.pub == 0)
            · rw [h5] at E
              cases h6 : decide (s.time < 0)
              · rw [h6] at E
                cases h7 : decide (1099511627776 < s.time)
                · rw [h7] at E
                  cases h8 : decide (1024 ≤ s.fst)
                  · rw [h8] at E
                    go_enter Try.func49, Try.ntmps49
                    go_wp2_with (first | (go_at_call 61; refine Calls.mono (implIsWord_any _ _) ?_; rintro e v2 ⟨rfl, hw1⟩; rw [hw1]; clear hw1) | go_quiet (fail))
                    go_ret
                    exact ⟨ret_bool (by rw [E.out]; simp), by first | exact Below.refl _ _ | exact bdn (Below.refl _ _) _⟩
                  · rw [h8] at E
                    cases h9 : decide (s.fst ≤ s.lst)
                    · rw [h9] at E
                      go_enter Try.func49, Try.ntmps49
                      go_wp2_with (first | (go_at_call 61; refine Calls.mono (implIsWord_any _ _) ?_; rintro e v2 ⟨rfl, hw1⟩; rw [hw1]; clear hw1) | go_quiet (fail))
                      go_ret
                      exact ⟨ret_bool (by rw [E.out]; simp), by first | exact Below.refl _ _ | exact bdn (Below.refl _ _) _⟩
                    · rw [h9] at E
                      go_enter Try.func49, Try.ntmps49
                      go_wp2_with (first | (go_at_call 61; refine Calls.mono (implIsWord_any _ _) ?_; rintro e v2 ⟨rfl, hw1⟩; rw [hw1]; clear hw1) | go_quiet (fail))
                      go_ret
                      exact ⟨ret_bool (by rw [E.out]; simp), by first | exact Below.refl _ _ | exact bdn (Below.refl _ _) _⟩
                · rw [h7] at E
                  go_enter Try.func49, Try.ntmps49
                  go_wp2_with (go_at_call 61; refine Calls.mono (implIsWord_any _ _) ?_; rintro e v2 ⟨rfl, hw1⟩; rw [hw1]; clear hw1)
                  go_ret
                  exact ⟨ret_bool (by rw [E.out]; simp), by first | exact Below.refl _ _ | exact bdn (Below.refl _ _) _⟩
              · rw [h6] at E
                go_enter Try.func49, Try.ntmps49
                go_wp2_with (go_at_call 61; refine Calls.mono (implIsWord_any _ _) ?_; rintro e v2 ⟨rfl, hw1⟩; rw [hw1]; clear hw1)
                go_ret
                exact ⟨ret_bool (by rw [E.out]; simp), by first | exact Below.refl _ _ | exact bdn (Below.refl _ _) _⟩
            · rw [h5] at E
              go_enter Try.func49, Try.ntmps49
              go_wp2_with (go_at_call 61; refine Calls.mono (implIsWord_any _ _) ?_; rintro e v2 ⟨rfl, hw1⟩; rw [hw1]; clear hw1)
              go_ret
              exact ⟨ret_bool (by rw [E.out]; simp), by first | exact Below.refl _ _ | exact bdn (Below.refl _ _) _⟩
        · rw [h3] at E
          go_enter Try.func49, Try.ntmps49
          go_wp2_with (go_at_call 61; refine Calls.mono (implIsWord_any _ _) ?_; rintro e v2 ⟨rfl, hw1⟩; rw [hw1]; clear hw1)
          go_ret
          exact ⟨ret_bool (by rw [E.out]; simp), by first | exact Below.refl _ _ | exact bdn (Below.refl _ _) _⟩
      · rw [h2] at E
        go_enter Try.func49, Try.ntmps49
        go_wp2_with (go_at_call 61; refine Calls.mono (implIsWord_any _ _) ?_; rintro e v2 ⟨rfl, hw1⟩; rw [hw1]; clear hw1)
        go_ret
        exact ⟨ret_bool (by rw [E.out]; simp), by first | exact Below.refl _ _ | exact bdn (Below.refl _ _) _⟩
    · rw [h1] at E
      go_enter Try.func49, Try.ntmps49
      go_wp2_with (go_at_call 61; refine Calls.mono (implIsWord_any _ _) ?_; rintro e v2 ⟨rfl, hw1⟩; rw [hw1]; clear hw1)
      go_ret
      exact ⟨ret_bool (by rw [E.out]; simp), by first | exact Below.refl _ _ | exact bdn (Below.refl _ _) _⟩
  · rw [h0] at E
    go_enter Try.func49, Try.ntmps49
    go_wp2_with (go_at_call 61; refine Calls.mono (implIsWord_any _ _) ?_; rintro e v2 ⟨rfl, hw1⟩; rw [hw1]; clear hw1)
    go_ret
    exact ⟨ret_bool (by rw [E.out]; simp), by first | exact Below.refl _ _ | exact bdn (Below.refl _ _) _⟩

def cn8 : CN := ⟨0, 0, 0, 0, 0, 0, 0, false, false, 0⟩
theorem gdc8 {zs : List CN} {k : Nat} (h : k < zs.length) : zs.getD k cn8 = zs[k] := by simp [List.getD, List.getElem?_eq_getElem h]
def fq (fs : List FW) (z : FW) (q : Nat) : Bool := !((fs.getD q fw9).proto == z.proto && (fs.getD q fw9).port == z.port)
def sfB (s : FI) (j : Nat) (z : FW) : Bool := !(!prB z.proto || decide (z.port < 1) || !poB z.port || decide (z.tp < 1) || !poB z.tp || decide (hAt (s.hs.map (·.addr)) z.addr < 0)) && allB (fq s.fs z) j
def sf (s : FI) (j : Nat) : Bool := sfB s j (s.fs.getD j fw9)
def clB (s : FI) (c d : CN) : Bool := smB d c || c.outer != 0 && d.proto == c.proto && d.outer == c.outer && (ouP s d).1 == (ouP s c).1 && (ouP s d).2 == (ouP s c).2
def cq (s : FI) (c : CN) (q : Nat) : Bool := !clB s c (s.cs.getD q cn8)
def sxB (s : FI) (j : Nat) (c : CN) : Bool := !(!scB c s.time || !sdB s c) && allB (cq s c) j
def sx (s : FI) (j : Nat) : Bool := sxB s j (s.cs.getD j cn8)
def hdB (s : FI) : Bool := !isW s.pub || s.pub == 0 || !hsS s || decide (10 < (s.fs.length : Int)) || decide (s.fst < 1024) || decide (65535 < s.lst) || decide (s.lst < s.fst) || decide (24 < (s.cs.length : Int)) || decide (s.time < 0) || decide (1099511627776 < s.time)
def ssB (s : FI) : Bool := !hdB s && (allB (sf s) s.fs.length && allB (sx s) s.cs.length)
def ssV (s : FI) : Int := if ssB s = true then 0 else 1
end Go.Proofs.Ytpggbbdfbnocfaa
