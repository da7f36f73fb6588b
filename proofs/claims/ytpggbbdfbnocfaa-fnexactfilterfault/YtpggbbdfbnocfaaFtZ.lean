import Derived.Test.YtpggbbdfbnocfaaFrB
import Derived.Test.YtpggbbdfbnocfaaFkZ
namespace Go.Proofs.Ytpggbbdfbnocfaa
open Go.ChangeShapes Go.WideShapes Go.ChangeAt Go.RowKit

set_option maxRecDepth 100000 in
set_option maxHeartbeats 8000000 in
theorem specFF_any {w : World} {s : FI} {a : FA} (h : FIRows w s a) (hl : FIlen s) : Calls Try.prog 6 #[flA s a] w fun r w' => r = .returned (.int .i64 (ssV s)) ∧ Below w.heap.size w w' := by
  have HRW : Hid (FIRows w s a) := h
  have hlh := hl.lhs.len
  have hlf := hl.lfs
  have hlc := hl.lcs
  have HHS : Hid (∀ u, Aft w u → Calls Try.prog 19 #[flA s a] u fun e w' => e = .returned (.bool (hsS s)) ∧ Below u.heap.size u w') := fun u hu => hostsS_any (HRW.out.below hu.out) hl
  have HH0 : Hid (∀ x u, Aft w u → Calls Try.prog 22 #[flA s a, .int .i64 x] u fun e w' => e = .returned (.int .i64 (hAt (s.hs.map (·.addr)) x)) ∧ Below u.heap.size u w') := fun x u hu => hostS_any (HRW.out.below hu.out) hlh x
  have HSD : Hid (∀ c u, Aft w u → Calls Try.prog 24 #[flA s a, cnA c] u fun e w' => e = .returned (.bool (sdB s c)) ∧ Below u.heap.size u w') := fun c u hu => sidesS_any (HRW.out.below hu.out) hlh c
  have HOU : Hid (∀ c u, Aft w u → Calls Try.prog 25 #[flA s a, cnA c] u fun e w' => e = .returned (.tuple #[.int .i64 (ouP s c).1, .int .i64 (ouP s c).2]) ∧ Below u.heap.size u w') := fun c u hu => outS_any (HRW.out.below hu.out) hlh c
  have HX0 : Hid (FX (w.alloc (.cells (flC s a) 35)) w.heap.size s a) := ⟨heap_new _ _, h.below (bx1 _ _)⟩
  have HB0 : Hid (Aft w (w.alloc (.cells (flC s a) 35))) := ⟨bx1 _ _⟩
  obtain ⟨ahs, khs, e1⟩ := h.rhs.sl
  obtain ⟨ags, kgs, e2⟩ := h.rgs.sl
  obtain ⟨afs, kfs, e3⟩ := h.rfs.sl
  obtain ⟨acs, kcs, e4⟩ := h.rcs.sl
  rw [h.nhs.len] at e1
  rw [h.ngs.len] at e2
  have hfc : flC s a = #[.slice ahs s.hs.length khs, .slice ags s.gs.length kgs, .slice afs s.fs.length kfs, .int .i64 s.pub, .int .i64 s.fst, .int .i64 s.lst, .slice acs s.cs.length kcs, .int .i64 s.time] := by unfold flC; rw [e1, e2, e3, e4]
  have HR : Hid (FWrow w (.slice afs s.fs.length kfs) s.fs) := (show FWrow w _ s.fs by rw [← e3]; exact h.rfs)
  have GR : Hid (CNrow w (.slice acs s.cs.length kcs) s.cs) := (show CNrow w _ s.cs by rw [← e4]; exact h.rcs)
  have E1 : Hid (a.vhs = .slice ahs s.hs.length khs) := e1
  have E2 : Hid (a.vgs = .slice ags s.gs.length kgs) := e2
  have E3 : Hid (a.vfs = .slice afs s.fs.length kfs) := e3
  have E4 : Hid (a.vcs = .slice acs s.cs.length kcs) := e4
  clear h HRW hl e1 e2 e3 e4
  unfold flA at HH0 HHS HSD HOU ⊢
  rw [hfc] at HX0 HB0 HH0 HHS HSD HOU ⊢
  unfold cnA at HSD HOU
  clear hfc
  have E : Hid (ssB s = (!hdB s && (allB (sf s) s.fs.length && allB (sx s) s.cs.length))) := rfl
  have ED : Hid (hdB s = (!isW s.pub || s.pub == 0 || !hsS s || decide (10 < (s.fs.length : Int)) || decide (s.fst < 1024) || decide (65535 < s.lst) || decide (s.lst < s.fst) || decide (24 < (s.cs.length : Int)) || decide (s.time < 0) || decide (1099511627776 < s.time))) := rfl
  cases g0 : isW s.pub
  · rw [g0] at ED
    as_aux_lemma =>
      go_enter Try.func6, Try.ntmps6
      go_upto_region 1 with fail
      generalize (w.alloc (.cells #[.slice ahs s.hs.length khs, .slice ags s.gs.length kgs, .slice afs s.fs.length kfs, .int .i64 s.pub, .int .i64 s.fst, .int .i64 s.lst, .slice acs s.cs.length kcs, .int .i64 s.time] 35)) = u0 at *
      generalize w.heap.size = b0 at *
      have x0 := HX0.out.c0
      have x1 := HX0.out.c1
      have x2 := HX0.out.c2
      have x3 := HX0.out.c3
      have x4 := HX0.out.c4
      have x5 := HX0.out.c5
      have x6 := HX0.out.c6
      have x7 := HX0.out.c7
      rw [E1.out] at x0
      rw [E2.out] at x1
      rw [E3.out] at x2
      rw [E4.out] at x6
      have xl := HX0.out.lt
      go_wp2_with (first | (go_at_call 18; refine Calls.mono (specIsWord_any _ _) ?_; rintro e v2 ⟨rfl, hw1⟩; rw [hw1]; clear hw1) | (go_at_call 19; refine Calls.mono (HHS.out _ HB0.out) ?_; rintro e u1 ⟨rfl, hu⟩; have HB1 : Hid (Aft w u1) := ⟨HB0.out.out.trans (hu.mono HB0.out.out.size)⟩; have HX1 : Hid (FX u1 b0 s a) := HX0.out.below hu; clear hu x0 x1 x2 x3 x4 x5 x6 x7 xl; have x2 := HX1.out.c2; have x4 := HX1.out.c4; have x5 := HX1.out.c5; have x6 := HX1.out.c6; have x7 := HX1.out.c7; rw [E3.out] at x2; rw [E4.out] at x6; have xl := HX1.out.lt))
      go_ret
      exact ⟨ret_int (by unfold ssV; rw [E.out, ED.out]; simp), HB0.out.out⟩
  · rw [g0] at ED
    cases g1 : (s.pub == 0)
    · rw [g1] at ED
      cases g2 : hsS s
      · rw [g2] at ED HHS
        as_aux_lemma =>
          go_enter Try.func6, Try.ntmps6
          go_upto_region 1 with fail
          generalize (w.alloc (.cells #[.slice ahs s.hs.length khs, .slice ags s.gs.length kgs, .slice afs s.fs.length kfs, .int .i64 s.pub, .int .i64 s.fst, .int .i64 s.lst, .slice acs s.cs.length kcs, .int .i64 s.time] 35)) = u0 at *
          generalize w.heap.size = b0 at *
          have x0 := HX0.out.c0
          have x1 := HX0.out.c1
          have x2 := HX0.out.c2
          have x3 := HX0.out.c3
          have x4 := HX0.out.c4
          have x5 := HX0.out.c5
          have x6 := HX0.out.c6
          have x7 := HX0.out.c7
          rw [E1.out] at x0
          rw [E2.out] at x1
          rw [E3.out] at x2
          rw [E4.out] at x6
          have xl := HX0.out.lt
          go_wp2_with (first | (go_at_call 18; refine Calls.mono (specIsWord_any _ _) ?_; rintro e v2 ⟨rfl, hw1⟩; rw [hw1]; clear hw1) | (go_at_call 19; refine Calls.mono (HHS.out _ HB0.out) ?_; rintro e u1 ⟨rfl, hu⟩; have HB1 : Hid (Aft w u1) := ⟨HB0.out.out.trans (hu.mono HB0.out.out.size)⟩; have HX1 : Hid (FX u1 b0 s a) := HX0.out.below hu; clear hu x0 x1 x2 x3 x4 x5 x6 x7 xl; have x2 := HX1.out.c2; have x4 := HX1.out.c4; have x5 := HX1.out.c5; have x6 := HX1.out.c6; have x7 := HX1.out.c7; rw [E3.out] at x2; rw [E4.out] at x6; have xl := HX1.out.lt))
          go_ret
          exact ⟨ret_int (by unfold ssV; rw [E.out, ED.out]; simp), HB1.out.out⟩
      · rw [g2] at ED HHS
        cases g3 : decide (10 < (s.fs.length : Int))
        · rw [g3] at ED
          cases g4 : decide (s.fst < 1024)
          · rw [g4] at ED
            cases g5 : decide (65535 < s.lst)
            · rw [g5] at ED
              cases g6 : decide (s.lst < s.fst)
              · rw [g6] at ED
                cases g7 : decide (24 < (s.cs.length : Int))
                · rw [g7] at ED
                  cases g8 : decide (s.time < 0)
                  · rw [g8] at ED
                    cases g9 : decide (1099511627776 < s.time)
                    · rw [g9] at ED
                      go_enter Try.func6, Try.ntmps6
                      go_upto_region 1 with fail
                      generalize (w.alloc (.cells #[.slice ahs s.hs.length khs, .slice ags s.gs.length kgs, .slice afs s.fs.length kfs, .int .i64 s.pub, .int .i64 s.fst, .int .i64 s.lst, .slice acs s.cs.length kcs, .int .i64 s.time] 35)) = u0 at *
                      generalize w.heap.size = b0 at *
                      have x0 := HX0.out.c0
                      have x1 := HX0.out.c1
                      have x2 := HX0.out.c2
                      have x3 := HX0.out.c3
                      have x4 := HX0.out.c4
                      have x5 := HX0.out.c5
                      have x6 := HX0.out.c6
                      have x7 := HX0.out.c7
                      rw [E1.out] at x0
                      rw [E2.out] at x1
                      rw [E3.out] at x2
                      rw [E4.out] at x6
                      have xl := HX0.out.lt
                      go_wp2_with (first | (go_at_call 18; refine Calls.mono (specIsWord_any _ _) ?_; rintro e v2 ⟨rfl, hw1⟩; rw [hw1]; clear hw1) | (go_at_call 19; refine Calls.mono (HHS.out _ HB0.out) ?_; rintro e u1 ⟨rfl, hu⟩; have HB1 : Hid (Aft w u1) := ⟨HB0.out.out.trans (hu.mono HB0.out.out.size)⟩; have HX1 : Hid (FX u1 b0 s a) := HX0.out.below hu; clear hu x0 x1 x2 x3 x4 x5 x6 x7 xl; have x2 := HX1.out.c2; have x4 := HX1.out.c4; have x5 := HX1.out.c5; have x6 := HX1.out.c6; have x7 := HX1.out.c7; rw [E3.out] at x2; rw [E4.out] at x6; have xl := HX1.out.lt))
                      clear x2 x4 x5 x6 x7 xl
                      have HD : Hid (hdB s = false) := (show hdB s = false by rw [ED.out]; rfl)
                      clear ED HX0 HB0
                      go_loopw [3] (fun i wr => ∃ k : Nat, k ≤ s.fs.length ∧ i = .int .i64 k ∧ allB (sf s) k = true ∧ Below w.heap.size w wr ∧ FX wr b0 s a) (fun i _ => s.fs.length - (intOf i).toNat)
                      case atStart => exact ⟨0, Nat.zero_le _, rfl, rfl, HB1.out.out, HX1.out⟩
                      case round =>
                        obtain ⟨k, hk0, rfl, hok, hb, hx⟩ := hrel
                        have HOK : Hid (allB (sf s) k = true) := hok
                        have HB : Hid (Below w.heap.size w wr) := hb
                        have HX : Hid (FX wr b0 s a) := hx
                        clear hok hx HX1 HB1
                        have x0 := HX.out.c0
                        have x1 := HX.out.c1
                        have x2 := HX.out.c2
                        have x3 := HX.out.c3
                        have x4 := HX.out.c4
                        have x5 := HX.out.c5
                        have x6 := HX.out.c6
                        have x7 := HX.out.c7
                        rw [E1.out] at x0
                        rw [E2.out] at x1
                        rw [E3.out] at x2
                        rw [E4.out] at x6
                        have xl := HX.out.lt
                        by_cases hlt : k < s.fs.length
                        · obtain ⟨g, o, cap2, hv, _, hg, hc⟩ := HR.out.resolve_left (fun h => by rw [h.1] at hlt; simp at hlt)
                          injection hv with hv1 hv2 hv3
                          subst hv1 hv3
                          obtain ⟨d0, d1, d2, d3⟩ := hc.below hb hg k hlt
                          have hgw : g < wr.heap.size := Nat.lt_of_lt_of_le hg hb.size
                          have HT : Hid (sf s k = (!(!prB s.fs[k].proto || decide (s.fs[k].port < 1) || !poB s.fs[k].port || decide (s.fs[k].tp < 1) || !poB s.fs[k].tp || decide (hAt (s.hs.map (·.addr)) s.fs[k].addr < 0)) && allB (fq s.fs s.fs[k]) k)) := (show sf s k = _ by unfold sf; rw [gdf hlt]; rfl)
                          have hk1 : (0 : Int) ≤ (k : Int) := by omega
                          have hk2 : (k : Int) < (s.fs.length : Int) := by omega
                          have HH : Hid _ := HH0.out s.fs[k].addr
                          generalize s.fs[k] = z at *
                          have HL1 : Hid (LG w (wr.alloc (.cells #[.int .i64 z.proto, .int .i64 z.port, .int .i64 z.addr, .int .i64 z.tp] 56)) wr.heap.size #[.int .i64 z.proto, .int .i64 z.port, .int .i64 z.addr, .int .i64 z.tp] 56) := ⟨hb.trans ((bx1 _ _).mono hb.size), heap_new _ _, hb.size⟩
                          have HXN : Hid (FX (wr.alloc (.cells #[.int .i64 z.proto, .int .i64 z.port, .int .i64 z.addr, .int .i64 z.tp] 56)) b0 s a) := HX.out.below (bx1 _ _)
                          generalize hAt (s.hs.map (·.addr)) z.addr = X at *
                          clear hb hv2
                          go_upto_region 7 with fail
                          generalize (wr.alloc (.cells #[.int .i64 z.proto, .int .i64 z.port, .int .i64 z.addr, .int .i64 z.tp] 56)) = v1 at *
                          generalize wr.heap.size = bn at *
                          clear d0 d1 d2 d3 hgw hk1 hk2
                          clear x0 x1 x2 x3 x4 x5 x6 x7 xl
                          cases h1 : prB z.proto
                          · rw [h1] at HT
                            as_aux_lemma =>
                              have HBD : Hid (ssB s = false) := (show ssB s = false by rw [E.out, allB_bad hlt (HT.out.trans (by simp))]; simp)
                              have k0 := HL1.out.cel 0 _ rfl
                              have k1 := HL1.out.cel 1 _ rfl
                              have k2 := HL1.out.cel 2 _ rfl
                              have k3 := HL1.out.cel 3 _ rfl
                              have kl := HL1.out.lt
                              have x0 := HXN.out.c0
                              have x1 := HXN.out.c1
                              have x2 := HXN.out.c2
                              have x3 := HXN.out.c3
                              have x4 := HXN.out.c4
                              have x5 := HXN.out.c5
                              have x6 := HXN.out.c6
                              have x7 := HXN.out.c7
                              rw [E1.out] at x0
                              rw [E2.out] at x1
                              rw [E3.out] at x2
                              rw [E4.out] at x6
                              have xl := HXN.out.lt
                              go_wp2_with (first | (go_at_call 20; refine Calls.mono (protoS_any _ _) ?_; rintro e v2 ⟨rfl, hw1⟩; rw [hw1]; clear hw1) | (go_at_call 21; refine Calls.mono (portS_any _ _) ?_; rintro e v2 ⟨rfl, hw1⟩; rw [hw1]; clear hw1) | (go_at_call 22; refine Calls.mono (HH.out _ HL1.out.aft) ?_; rintro e u2 ⟨rfl, hu⟩; have HL2 : Hid (LG w u2 bn #[.int .i64 z.proto, .int .i64 z.port, .int .i64 z.addr, .int .i64 z.tp] 56) := HL1.out.step hu; have HX2 : Hid (FX u2 b0 s a) := HXN.out.below hu; clear hu k0 k1 k2 k3 kl x0 x1 x2 x3 x4 x5 x6 x7 xl))
                              go_ret
                              exact ⟨ret_int (by unfold ssV; rw [HBD.out]; rfl), HL1.out.bel⟩
                          · rw [h1] at HT
                            cases h2 : decide (z.port < 1)
                            · rw [h2] at HT
                              cases h3 : poB z.port
                              · rw [h3] at HT
                                as_aux_lemma =>
                                  have HBD : Hid (ssB s = false) := (show ssB s = false by rw [E.out, allB_bad hlt (HT.out.trans (by simp))]; simp)
                                  have k0 := HL1.out.cel 0 _ rfl
                                  have k1 := HL1.out.cel 1 _ rfl
                                  have k2 := HL1.out.cel 2 _ rfl
                                  have k3 := HL1.out.cel 3 _ rfl
                                  have kl := HL1.out.lt
                                  have x0 := HXN.out.c0
                                  have x1 := HXN.out.c1
                                  have x2 := HXN.out.c2
                                  have x3 := HXN.out.c3
                                  have x4 := HXN.out.c4
                                  have x5 := HXN.out.c5
                                  have x6 := HXN.out.c6
                                  have x7 := HXN.out.c7
                                  rw [E1.out] at x0
                                  rw [E2.out] at x1
                                  rw [E3.out] at x2
                                  rw [E4.out] at x6
                                  have xl := HXN.out.lt
                                  go_wp2_with (first | (go_at_call 20; refine Calls.mono (protoS_any _ _) ?_; rintro e v2 ⟨rfl, hw1⟩; rw [hw1]; clear hw1) | (go_at_call 21; refine Calls.mono (portS_any _ _) ?_; rintro e v2 ⟨rfl, hw1⟩; rw [hw1]; clear hw1) | (go_at_call 22; refine Calls.mono (HH.out _ HL1.out.aft) ?_; rintro e u2 ⟨rfl, hu⟩; have HL2 : Hid (LG w u2 bn #[.int .i64 z.proto, .int .i64 z.port, .int .i64 z.addr, .int .i64 z.tp] 56) := HL1.out.step hu; have HX2 : Hid (FX u2 b0 s a) := HXN.out.below hu; clear hu k0 k1 k2 k3 kl x0 x1 x2 x3 x4 x5 x6 x7 xl))
                                  go_ret
                                  exact ⟨ret_int (by unfold ssV; rw [HBD.out]; rfl), HL1.out.bel⟩
                              · rw [h3] at HT
                                cases h4 : decide (z.tp < 1)
                                · rw [h4] at HT
                                  cases h5 : poB z.tp
                                  · rw [h5] at HT
                                    as_aux_lemma =>
                                      have HBD : Hid (ssB s = false) := (show ssB s = false by rw [E.out, allB_bad hlt (HT.out.trans (by simp))]; simp)
                                      have k0 := HL1.out.cel 0 _ rfl
                                      have k1 := HL1.out.cel 1 _ rfl
                                      have k2 := HL1.out.cel 2 _ rfl
                                      have k3 := HL1.out.cel 3 _ rfl
                                      have kl := HL1.out.lt
                                      have x0 := HXN.out.c0
                                      have x1 := HXN.out.c1
                                      have x2 := HXN.out.c2
                                      have x3 := HXN.out.c3
                                      have x4 := HXN.out.c4
                                      have x5 := HXN.out.c5
                                      have x6 := HXN.out.c6
                                      have x7 := HXN.out.c7
                                      rw [E1.out] at x0
                                      rw [E2.out] at x1
                                      rw [E3.out] at x2
                                      rw [E4.out] at x6
                                      have xl := HXN.out.lt
                                      go_wp2_with (first | (go_at_call 20; refine Calls.mono (protoS_any _ _) ?_; rintro e v2 ⟨rfl, hw1⟩; rw [hw1]; clear hw1) | (go_at_call 21; refine Calls.mono (portS_any _ _) ?_; rintro e v2 ⟨rfl, hw1⟩; rw [hw1]; clear hw1) | (go_at_call 22; refine Calls.mono (HH.out _ HL1.out.aft) ?_; rintro e u2 ⟨rfl, hu⟩; have HL2 : Hid (LG w u2 bn #[.int .i64 z.proto, .int .i64 z.port, .int .i64 z.addr, .int .i64 z.tp] 56) := HL1.out.step hu; have HX2 : Hid (FX u2 b0 s a) := HXN.out.below hu; clear hu k0 k1 k2 k3 kl x0 x1 x2 x3 x4 x5 x6 x7 xl))
                                      go_ret
                                      exact ⟨ret_int (by unfold ssV; rw [HBD.out]; rfl), HL1.out.bel⟩
                                  · rw [h5] at HT
                                    cases h6 : decide (X < 0)
                                    · rw [h6] at HT
                                      as_aux_lemma =>
                                        have k0 := HL1.out.cel 0 _ rfl
                                        have k1 := HL1.out.cel 1 _ rfl
                                        have k2 := HL1.out.cel 2 _ rfl
                                        have k3 := HL1.out.cel 3 _ rfl
                                        have kl := HL1.out.lt
                                        have x0 := HXN.out.c0
                                        have x1 := HXN.out.c1
                                        have x2 := HXN.out.c2
                                        have x3 := HXN.out.c3
                                        have x4 := HXN.out.c4
                                        have x5 := HXN.out.c5
                                        have x6 := HXN.out.c6
                                        have x7 := HXN.out.c7
                                        rw [E1.out] at x0
                                        rw [E2.out] at x1
                                        rw [E3.out] at x2
                                        rw [E4.out] at x6
                                        have xl := HXN.out.lt
                                        go_wp2_with (first | (go_at_call 20; refine Calls.mono (protoS_any _ _) ?_; rintro e v2 ⟨rfl, hw1⟩; rw [hw1]; clear hw1) | (go_at_call 21; refine Calls.mono (portS_any _ _) ?_; rintro e v2 ⟨rfl, hw1⟩; rw [hw1]; clear hw1) | (go_at_call 22; refine Calls.mono (HH.out _ HL1.out.aft) ?_; rintro e u2 ⟨rfl, hu⟩; have HL2 : Hid (LG w u2 bn #[.int .i64 z.proto, .int .i64 z.port, .int .i64 z.addr, .int .i64 z.tp] 56) := HL1.out.step hu; have HX2 : Hid (FX u2 b0 s a) := HXN.out.below hu; clear hu k0 k1 k2 k3 kl x0 x1 x2 x3 x4 x5 x6 x7 xl))
                                        go_loopw [5] (fun j w5 => ∃ q : Nat, q ≤ k ∧ j = .int .i64 q ∧ allB (fq s.fs z) q = true ∧ LG w w5 bn #[.int .i64 z.proto, .int .i64 z.port, .int .i64 z.addr, .int .i64 z.tp] 56 ∧ FX w5 b0 s a) (fun j _ => k - (intOf j).toNat)
                                        case atStart => exact ⟨0, Nat.zero_le _, rfl, rfl, HL2.out, HX2.out⟩
                                        case round =>
                                          obtain ⟨q, hq0, rfl, hqk, hL, hX⟩ := hrel
                                          have HQK : Hid (allB (fq s.fs z) q = true) := hqk
                                          have HL4 : Hid (LG w wr bn #[.int .i64 z.proto, .int .i64 z.port, .int .i64 z.addr, .int .i64 z.tp] 56) := hL
                                          have HX4 : Hid (FX wr b0 s a) := hX
                                          clear hqk hL hX HL1 HXN HL2 HX2
                                          have k0 := HL4.out.cel 0 _ rfl
                                          have k1 := HL4.out.cel 1 _ rfl
                                          have kl := HL4.out.lt
                                          have x2 := HX4.out.c2
                                          rw [E3.out] at x2
                                          have xl := HX4.out.lt
                                          by_cases hlq : q < k
                                          · have hqf : q < s.fs.length := by omega
                                            obtain ⟨d0, d1, d2, d3⟩ := hc.below HL4.out.bel hg q hqf
                                            have hgw2 : g < wr.heap.size := Nat.lt_of_lt_of_le hg HL4.out.bel.size
                                            have HGQ : Hid (fq s.fs z q = !(s.fs[q].proto == z.proto && s.fs[q].port == z.port)) := (show fq _ _ _ = _ by unfold fq; rw [gdf hqf])
                                            have hq1 : (0 : Int) ≤ (q : Int) := by omega
                                            have hq2 : (q : Int) < (s.fs.length : Int) := by omega
                                            have hq3 : (q : Int) < (k : Int) := by omega
                                            generalize s.fs[q] = y at *
                                            clear d2 d3
                                            cases h7 : (y.proto == z.proto)
                                            · rw [h7] at HGQ
                                              have HGD : Hid (allB (fq s.fs z) (q + 1) = true) := (show _ = true by rw [allB_succ, HQK.out, HGQ.out]; rfl)
                                              clear hc
                                              go_wp2_with (go_quiet (fail))
                                              exact ⟨⟨q + 1, hlq, by go_num, HGD.out, by first | exact HL4.out | exact HL4.out.drewN _, by first | exact HX4.out | exact HX4.out.drewN _⟩, by simp [intOf]; omega⟩
                                            · cases h8 : (y.port == z.port)
                                              · rw [h7, h8] at HGQ
                                                have HGD : Hid (allB (fq s.fs z) (q + 1) = true) := (show _ = true by rw [allB_succ, HQK.out, HGQ.out]; rfl)
                                                clear hc
                                                go_wp2_with (go_quiet (fail))
                                                exact ⟨⟨q + 1, hlq, by go_num, HGD.out, by first | exact HL4.out | exact HL4.out.drewN _, by first | exact HX4.out | exact HX4.out.drewN _⟩, by simp [intOf]; omega⟩
                                              · rw [h7, h8] at HGQ
                                                have HBD : Hid (ssB s = false) := (show ssB s = false by rw [E.out, allB_bad hlt (HT.out.trans (by rw [allB_bad hlq (HGQ.out.trans rfl)]; simp))]; simp)
                                                clear hc
                                                go_wp2_with (go_quiet (fail))
                                                go_ret
                                                exact ⟨ret_int (by unfold ssV; rw [HBD.out]; rfl), by first | exact HL4.out.bel | exact bdn HL4.out.bel _⟩
                                          · obtain rfl : q = k := by omega
                                            have HGD : Hid (allB (sf s) (q + 1) = true) := (show _ = true by rw [allB_succ, HOK.out, HT.out, HQK.out]; simp)
                                            clear hc
                                            go_wp2
                                            exact ⟨⟨q + 1, hlt, by go_num, HGD.out, HL4.out.bel, HX4.out⟩, by simp [intOf]; omega⟩
                                    · rw [h6] at HT
                                      as_aux_lemma =>
                                        have HBD : Hid (ssB s = false) := (show ssB s = false by rw [E.out, allB_bad hlt (HT.out.trans (by simp))]; simp)
                                        have k0 := HL1.out.cel 0 _ rfl
                                        have k1 := HL1.out.cel 1 _ rfl
                                        have k2 := HL1.out.cel 2 _ rfl
                                        have k3 := HL1.out.cel 3 _ rfl
                                        have kl := HL1.out.lt
                                        have x0 := HXN.out.c0
                                        have x1 := HXN.out.c1
                                        have x2 := HXN.out.c2
                                        have x3 := HXN.out.c3
                                        have x4 := HXN.out.c4
                                        have x5 := HXN.out.c5
                                        have x6 := HXN.out.c6
                                        have x7 := HXN.out.c7
                                        rw [E1.out] at x0
                                        rw [E2.out] at x1
                                        rw [E3.out] at x2
                                        rw [E4.out] at x6
                                        have xl := HXN.out.lt
                                        go_wp2_with (first | (go_at_call 20; refine Calls.mono (protoS_any _ _) ?_; rintro e v2 ⟨rfl, hw1⟩; rw [hw1]; clear hw1) | (go_at_call 21; refine Calls.mono (portS_any _ _) ?_; rintro e v2 ⟨rfl, hw1⟩; rw [hw1]; clear hw1) | (go_at_call 22; refine Calls.mono (HH.out _ HL1.out.aft) ?_; rintro e u2 ⟨rfl, hu⟩; have HL2 : Hid (LG w u2 bn #[.int .i64 z.proto, .int .i64 z.port, .int .i64 z.addr, .int .i64 z.tp] 56) := HL1.out.step hu; have HX2 : Hid (FX u2 b0 s a) := HXN.out.below hu; clear hu k0 k1 k2 k3 kl x0 x1 x2 x3 x4 x5 x6 x7 xl))
                                        go_ret
                                        exact ⟨ret_int (by unfold ssV; rw [HBD.out]; rfl), HL2.out.bel⟩
                                · rw [h4] at HT
                                  as_aux_lemma =>
                                    have HBD : Hid (ssB s = false) := (show ssB s = false by rw [E.out, allB_bad hlt (HT.out.trans (by simp))]; simp)
                                    have k0 := HL1.out.cel 0 _ rfl
                                    have k1 := HL1.out.cel 1 _ rfl
                                    have k2 := HL1.out.cel 2 _ rfl
                                    have k3 := HL1.out.cel 3 _ rfl
                                    have kl := HL1.out.lt
                                    have x0 := HXN.out.c0
                                    have x1 := HXN.out.c1
                                    have x2 := HXN.out.c2
                                    have x3 := HXN.out.c3
                                    have x4 := HXN.out.c4
                                    have x5 := HXN.out.c5
                                    have x6 := HXN.out.c6
                                    have x7 := HXN.out.c7
                                    rw [E1.out] at x0
                                    rw [E2.out] at x1
                                    rw [E3.out] at x2
                                    rw [E4.out] at x6
                                    have xl := HXN.out.lt
                                    go_wp2_with (first | (go_at_call 20; refine Calls.mono (protoS_any _ _) ?_; rintro e v2 ⟨rfl, hw1⟩; rw [hw1]; clear hw1) | (go_at_call 21; refine Calls.mono (portS_any _ _) ?_; rintro e v2 ⟨rfl, hw1⟩; rw [hw1]; clear hw1) | (go_at_call 22; refine Calls.mono (HH.out _ HL1.out.aft) ?_; rintro e u2 ⟨rfl, hu⟩; have HL2 : Hid (LG w u2 bn #[.int .i64 z.proto, .int .i64 z.port, .int .i64 z.addr, .int .i64 z.tp] 56) := HL1.out.step hu; have HX2 : Hid (FX u2 b0 s a) := HXN.out.below hu; clear hu k0 k1 k2 k3 kl x0 x1 x2 x3 x4 x5 x6 x7 xl))
                                    go_ret
                                    exact ⟨ret_int (by unfold ssV; rw [HBD.out]; rfl), HL1.out.bel⟩
                            · rw [h2] at HT
                              as_aux_lemma =>
                                have HBD : Hid (ssB s = false) := (show ssB s = false by rw [E.out, allB_bad hlt (HT.out.trans (by simp))]; simp)
                                have k0 := HL1.out.cel 0 _ rfl
                                have k1 := HL1.out.cel 1 _ rfl
                                have k2 := HL1.out.cel 2 _ rfl
                                have k3 := HL1.out.cel 3 _ rfl
                                have kl := HL1.out.lt
                                have x0 := HXN.out.c0
                                have x1 := HXN.out.c1
                                have x2 := HXN.out.c2
                                have x3 := HXN.out.c3
                                have x4 := HXN.out.c4
                                have x5 := HXN.out.c5
                                have x6 := HXN.out.c6
                                have x7 := HXN.out.c7
                                rw [E1.out] at x0
                                rw [E2.out] at x1
                                rw [E3.out] at x2
                                rw [E4.out] at x6
                                have xl := HXN.out.lt
                                go_wp2_with (first | (go_at_call 20; refine Calls.mono (protoS_any _ _) ?_; rintro e v2 ⟨rfl, hw1⟩; rw [hw1]; clear hw1) | (go_at_call 21; refine Calls.mono (portS_any _ _) ?_; rintro e v2 ⟨rfl, hw1⟩; rw [hw1]; clear hw1) | (go_at_call 22; refine Calls.mono (HH.out _ HL1.out.aft) ?_; rintro e u2 ⟨rfl, hu⟩; have HL2 : Hid (LG w u2 bn #[.int .i64 z.proto, .int .i64 z.port, .int .i64 z.addr, .int .i64 z.tp] 56) := HL1.out.step hu; have HX2 : Hid (FX u2 b0 s a) := HXN.out.below hu; clear hu k0 k1 k2 k3 kl x0 x1 x2 x3 x4 x5 x6 x7 xl))
                                go_ret
                                exact ⟨ret_int (by unfold ssV; rw [HBD.out]; rfl), HL1.out.bel⟩
                        · obtain rfl : k = s.fs.length := by omega
                          go_wp2
                          clear x0 x1 x2 x3 x4 x5 x6 x7 xl
                          go_loopw [6] (fun i wr => ∃ k : Nat, k ≤ s.cs.length ∧ i = .int .i64 k ∧ allB (sx s) k = true ∧ Below w.heap.size w wr ∧ FX wr b0 s a) (fun i _ => s.cs.length - (intOf i).toNat)
                          case atStart => exact ⟨0, Nat.zero_le _, rfl, rfl, HB.out, HX.out⟩
                          case round =>
                            clear hb HX HB hk0
                            obtain ⟨k, hk0, rfl, hok, hb, hx⟩ := hrel
                            have HOK2 : Hid (allB (sx s) k = true) := hok
                            have HB : Hid (Below w.heap.size w wr) := hb
                            have HX : Hid (FX wr b0 s a) := hx
                            clear hok hx
                            have x0 := HX.out.c0
                            have x1 := HX.out.c1
                            have x2 := HX.out.c2
                            have x3 := HX.out.c3
                            have x4 := HX.out.c4
                            have x5 := HX.out.c5
                            have x6 := HX.out.c6
                            have x7 := HX.out.c7
                            rw [E1.out] at x0
                            rw [E2.out] at x1
                            rw [E3.out] at x2
                            rw [E4.out] at x6
                            have xl := HX.out.lt
                            by_cases hlt : k < s.cs.length
                            · obtain ⟨g, o, cap2, hv, _, hg, hc⟩ := GR.out.resolve_left (fun h => by rw [h.1] at hlt; simp at hlt)
                              injection hv with hv1 hv2 hv3
                              subst hv1 hv3
                              obtain ⟨d0, d1, d2, d3, d4, d5, d6, d7, d8, d9⟩ := hc.below hb hg k hlt
                              have hgw : g < wr.heap.size := Nat.lt_of_lt_of_le hg hb.size
                              have HT : Hid (sx s k = (!(!scB s.cs[k] s.time || !sdB s s.cs[k]) && allB (cq s s.cs[k]) k)) := (show sx s k = _ by unfold sx; rw [gdc8 hlt]; rfl)
                              have hk1 : (0 : Int) ≤ (k : Int) := by omega
                              have hk2 : (k : Int) < (s.cs.length : Int) := by omega
                              have HSC : Hid (∀ u, Calls Try.prog 23 #[cnA s.cs[k], .int .i64 s.time] u fun e w' => e = .returned (.bool (scB s.cs[k] s.time)) ∧ Below u.heap.size u w') := fun u => connS_any _ _ u
                              have HSDc : Hid _ := HSD.out s.cs[k]
                              have HOUc : Hid _ := HOU.out s.cs[k]
                              generalize s.cs[k] = c at *
                              unfold cnA at HSC
                              obtain ⟨C1, ho1⟩ : ∃ C1, (ouP s c).1 = C1 := ⟨_, rfl⟩
                              obtain ⟨C2, ho2⟩ : ∃ C2, (ouP s c).2 = C2 := ⟨_, rfl⟩
                              rw [ho1, ho2] at HOUc
                              have HO1 : Hid ((ouP s c).1 = C1) := ho1
                              have HO2 : Hid ((ouP s c).2 = C2) := ho2
                              clear ho1 ho2
                              have HL1 : Hid (LG w (wr.alloc (.cells #[.int .i64 c.proto, .int .i64 c.a, .int .i64 c.ap, .int .i64 c.b, .int .i64 c.bp, .int .i64 c.outer, .int .i64 c.state, .bool c.fa, .bool c.fb, .int .i64 c.seen] 59)) wr.heap.size #[.int .i64 c.proto, .int .i64 c.a, .int .i64 c.ap, .int .i64 c.b, .int .i64 c.bp, .int .i64 c.outer, .int .i64 c.state, .bool c.fa, .bool c.fb, .int .i64 c.seen] 59) := ⟨hb.trans ((bx1 _ _).mono hb.size), heap_new _ _, hb.size⟩
                              have HXN : Hid (FX (wr.alloc (.cells #[.int .i64 c.proto, .int .i64 c.a, .int .i64 c.ap, .int .i64 c.b, .int .i64 c.bp, .int .i64 c.outer, .int .i64 c.state, .bool c.fa, .bool c.fb, .int .i64 c.seen] 59)) b0 s a) := HX.out.below (bx1 _ _)
                              clear hb hv2
                              go_upto_region 18 with fail
                              generalize (wr.alloc (.cells #[.int .i64 c.proto, .int .i64 c.a, .int .i64 c.ap, .int .i64 c.b, .int .i64 c.bp, .int .i64 c.outer, .int .i64 c.state, .bool c.fa, .bool c.fb, .int .i64 c.seen] 59)) = v1 at *
                              generalize wr.heap.size = bn at *
                              clear d0 d1 d2 d3 d4 d5 d6 d7 d8 d9 hgw hk1 hk2
                              clear x0 x1 x2 x3 x4 x5 x6 x7 xl
                              cases h1 : scB c s.time
                              · rw [h1] at HT HSC
                                as_aux_lemma =>
                                  have HBD : Hid (ssB s = false) := (show ssB s = false by rw [E.out, allB_bad (p := sx s) hlt (HT.out.trans (by simp))]; simp)
                                  have k0 := HL1.out.cel 0 _ rfl
                                  have k1 := HL1.out.cel 1 _ rfl
                                  have k2 := HL1.out.cel 2 _ rfl
                                  have k3 := HL1.out.cel 3 _ rfl
                                  have k4 := HL1.out.cel 4 _ rfl
                                  have k5 := HL1.out.cel 5 _ rfl
                                  have k6 := HL1.out.cel 6 _ rfl
                                  have k7 := HL1.out.cel 7 _ rfl
                                  have k8 := HL1.out.cel 8 _ rfl
                                  have k9 := HL1.out.cel 9 _ rfl
                                  have kl := HL1.out.lt
                                  have x0 := HXN.out.c0
                                  have x1 := HXN.out.c1
                                  have x2 := HXN.out.c2
                                  have x3 := HXN.out.c3
                                  have x4 := HXN.out.c4
                                  have x5 := HXN.out.c5
                                  have x6 := HXN.out.c6
                                  have x7 := HXN.out.c7
                                  rw [E1.out] at x0
                                  rw [E2.out] at x1
                                  rw [E3.out] at x2
                                  rw [E4.out] at x6
                                  have xl := HXN.out.lt
                                  go_wp2_with (first | (go_at_call 23; refine Calls.mono (HSC.out _) ?_; rintro e u2 ⟨rfl, hu⟩; have HL2 : Hid (LG w u2 bn #[.int .i64 c.proto, .int .i64 c.a, .int .i64 c.ap, .int .i64 c.b, .int .i64 c.bp, .int .i64 c.outer, .int .i64 c.state, .bool c.fa, .bool c.fb, .int .i64 c.seen] 59) := HL1.out.step hu; have HX2 : Hid (FX u2 b0 s a) := HXN.out.below hu; clear hu k0 k1 k2 k3 k4 k5 k6 k7 k8 k9 kl x0 x1 x2 x3 x4 x5 x6 x7 xl; have k0 := HL2.out.cel 0 _ rfl; have k1 := HL2.out.cel 1 _ rfl; have k2 := HL2.out.cel 2 _ rfl; have k3 := HL2.out.cel 3 _ rfl; have k4 := HL2.out.cel 4 _ rfl; have k5 := HL2.out.cel 5 _ rfl; have k6 := HL2.out.cel 6 _ rfl; have k7 := HL2.out.cel 7 _ rfl; have k8 := HL2.out.cel 8 _ rfl; have k9 := HL2.out.cel 9 _ rfl; have kl := HL2.out.lt; have x0 := HX2.out.c0; have x1 := HX2.out.c1; have x2 := HX2.out.c2; have x3 := HX2.out.c3; have x4 := HX2.out.c4; have x5 := HX2.out.c5; have x6 := HX2.out.c6; have x7 := HX2.out.c7; rw [E1.out] at x0; rw [E2.out] at x1; rw [E3.out] at x2; rw [E4.out] at x6; have xl := HX2.out.lt) | (go_at_call 24; refine Calls.mono (HSDc.out _ HL2.out.aft) ?_; rintro e u3 ⟨rfl, hu⟩; have HL3 : Hid (LG w u3 bn #[.int .i64 c.proto, .int .i64 c.a, .int .i64 c.ap, .int .i64 c.b, .int .i64 c.bp, .int .i64 c.outer, .int .i64 c.state, .bool c.fa, .bool c.fb, .int .i64 c.seen] 59) := HL2.out.step hu; have HX3 : Hid (FX u3 b0 s a) := HX2.out.below hu; clear hu k0 k1 k2 k3 k4 k5 k6 k7 k8 k9 kl x0 x1 x2 x3 x4 x5 x6 x7 xl; have k0 := HL3.out.cel 0 _ rfl; have k1 := HL3.out.cel 1 _ rfl; have k2 := HL3.out.cel 2 _ rfl; have k3 := HL3.out.cel 3 _ rfl; have k4 := HL3.out.cel 4 _ rfl; have k5 := HL3.out.cel 5 _ rfl; have k6 := HL3.out.cel 6 _ rfl; have k7 := HL3.out.cel 7 _ rfl; have k8 := HL3.out.cel 8 _ rfl; have k9 := HL3.out.cel 9 _ rfl; have kl := HL3.out.lt; have x0 := HX3.out.c0; have x1 := HX3.out.c1; have x2 := HX3.out.c2; have x3 := HX3.out.c3; have x4 := HX3.out.c4; have x5 := HX3.out.c5; have x6 := HX3.out.c6; have x7 := HX3.out.c7; rw [E1.out] at x0; rw [E2.out] at x1; rw [E3.out] at x2; rw [E4.out] at x6; have xl := HX3.out.lt) | (go_at_call 25; refine Calls.mono (HOUc.out _ HL3.out.aft) ?_; rintro e u4 ⟨rfl, hu⟩; have HL4 : Hid (LG w u4 bn #[.int .i64 c.proto, .int .i64 c.a, .int .i64 c.ap, .int .i64 c.b, .int .i64 c.bp, .int .i64 c.outer, .int .i64 c.state, .bool c.fa, .bool c.fb, .int .i64 c.seen] 59) := HL3.out.step hu; have HX4 : Hid (FX u4 b0 s a) := HX3.out.below hu; clear hu k0 k1 k2 k3 k4 k5 k6 k7 k8 k9 kl x0 x1 x2 x3 x4 x5 x6 x7 xl))
                                  go_ret
                                  exact ⟨ret_int (by unfold ssV; rw [HBD.out]; rfl), HL2.out.bel⟩
                              · rw [h1] at HT HSC
                                cases h2 : sdB s c
                                · rw [h2] at HT HSDc
                                  as_aux_lemma =>
                                    have HBD : Hid (ssB s = false) := (show ssB s = false by rw [E.out, allB_bad (p := sx s) hlt (HT.out.trans (by simp))]; simp)
                                    have k0 := HL1.out.cel 0 _ rfl
                                    have k1 := HL1.out.cel 1 _ rfl
                                    have k2 := HL1.out.cel 2 _ rfl
                                    have k3 := HL1.out.cel 3 _ rfl
                                    have k4 := HL1.out.cel 4 _ rfl
                                    have k5 := HL1.out.cel 5 _ rfl
                                    have k6 := HL1.out.cel 6 _ rfl
                                    have k7 := HL1.out.cel 7 _ rfl
                                    have k8 := HL1.out.cel 8 _ rfl
                                    have k9 := HL1.out.cel 9 _ rfl
                                    have kl := HL1.out.lt
                                    have x0 := HXN.out.c0
                                    have x1 := HXN.out.c1
                                    have x2 := HXN.out.c2
                                    have x3 := HXN.out.c3
                                    have x4 := HXN.out.c4
                                    have x5 := HXN.out.c5
                                    have x6 := HXN.out.c6
                                    have x7 := HXN.out.c7
                                    rw [E1.out] at x0
                                    rw [E2.out] at x1
                                    rw [E3.out] at x2
                                    rw [E4.out] at x6
                                    have xl := HXN.out.lt
                                    go_wp2_with (first | (go_at_call 23; refine Calls.mono (HSC.out _) ?_; rintro e u2 ⟨rfl, hu⟩; have HL2 : Hid (LG w u2 bn #[.int .i64 c.proto, .int .i64 c.a, .int .i64 c.ap, .int .i64 c.b, .int .i64 c.bp, .int .i64 c.outer, .int .i64 c.state, .bool c.fa, .bool c.fb, .int .i64 c.seen] 59) := HL1.out.step hu; have HX2 : Hid (FX u2 b0 s a) := HXN.out.below hu; clear hu k0 k1 k2 k3 k4 k5 k6 k7 k8 k9 kl x0 x1 x2 x3 x4 x5 x6 x7 xl; have k0 := HL2.out.cel 0 _ rfl; have k1 := HL2.out.cel 1 _ rfl; have k2 := HL2.out.cel 2 _ rfl; have k3 := HL2.out.cel 3 _ rfl; have k4 := HL2.out.cel 4 _ rfl; have k5 := HL2.out.cel 5 _ rfl; have k6 := HL2.out.cel 6 _ rfl; have k7 := HL2.out.cel 7 _ rfl; have k8 := HL2.out.cel 8 _ rfl; have k9 := HL2.out.cel 9 _ rfl; have kl := HL2.out.lt; have x0 := HX2.out.c0; have x1 := HX2.out.c1; have x2 := HX2.out.c2; have x3 := HX2.out.c3; have x4 := HX2.out.c4; have x5 := HX2.out.c5; have x6 := HX2.out.c6; have x7 := HX2.out.c7; rw [E1.out] at x0; rw [E2.out] at x1; rw [E3.out] at x2; rw [E4.out] at x6; have xl := HX2.out.lt) | (go_at_call 24; refine Calls.mono (HSDc.out _ HL2.out.aft) ?_; rintro e u3 ⟨rfl, hu⟩; have HL3 : Hid (LG w u3 bn #[.int .i64 c.proto, .int .i64 c.a, .int .i64 c.ap, .int .i64 c.b, .int .i64 c.bp, .int .i64 c.outer, .int .i64 c.state, .bool c.fa, .bool c.fb, .int .i64 c.seen] 59) := HL2.out.step hu; have HX3 : Hid (FX u3 b0 s a) := HX2.out.below hu; clear hu k0 k1 k2 k3 k4 k5 k6 k7 k8 k9 kl x0 x1 x2 x3 x4 x5 x6 x7 xl; have k0 := HL3.out.cel 0 _ rfl; have k1 := HL3.out.cel 1 _ rfl; have k2 := HL3.out.cel 2 _ rfl; have k3 := HL3.out.cel 3 _ rfl; have k4 := HL3.out.cel 4 _ rfl; have k5 := HL3.out.cel 5 _ rfl; have k6 := HL3.out.cel 6 _ rfl; have k7 := HL3.out.cel 7 _ rfl; have k8 := HL3.out.cel 8 _ rfl; have k9 := HL3.out.cel 9 _ rfl; have kl := HL3.out.lt; have x0 := HX3.out.c0; have x1 := HX3.out.c1; have x2 := HX3.out.c2; have x3 := HX3.out.c3; have x4 := HX3.out.c4; have x5 := HX3.out.c5; have x6 := HX3.out.c6; have x7 := HX3.out.c7; rw [E1.out] at x0; rw [E2.out] at x1; rw [E3.out] at x2; rw [E4.out] at x6; have xl := HX3.out.lt) | (go_at_call 25; refine Calls.mono (HOUc.out _ HL3.out.aft) ?_; rintro e u4 ⟨rfl, hu⟩; have HL4 : Hid (LG w u4 bn #[.int .i64 c.proto, .int .i64 c.a, .int .i64 c.ap, .int .i64 c.b, .int .i64 c.bp, .int .i64 c.outer, .int .i64 c.state, .bool c.fa, .bool c.fb, .int .i64 c.seen] 59) := HL3.out.step hu; have HX4 : Hid (FX u4 b0 s a) := HX3.out.below hu; clear hu k0 k1 k2 k3 k4 k5 k6 k7 k8 k9 kl x0 x1 x2 x3 x4 x5 x6 x7 xl))
                                    go_ret
                                    exact ⟨ret_int (by unfold ssV; rw [HBD.out]; rfl), HL3.out.bel⟩
                                · rw [h2] at HT HSDc
                                  have k0 := HL1.out.cel 0 _ rfl
                                  have k1 := HL1.out.cel 1 _ rfl
                                  have k2 := HL1.out.cel 2 _ rfl
                                  have k3 := HL1.out.cel 3 _ rfl
                                  have k4 := HL1.out.cel 4 _ rfl
                                  have k5 := HL1.out.cel 5 _ rfl
                                  have k6 := HL1.out.cel 6 _ rfl
                                  have k7 := HL1.out.cel 7 _ rfl
                                  have k8 := HL1.out.cel 8 _ rfl
                                  have k9 := HL1.out.cel 9 _ rfl
                                  have kl := HL1.out.lt
                                  have x0 := HXN.out.c0
                                  have x1 := HXN.out.c1
                                  have x2 := HXN.out.c2
                                  have x3 := HXN.out.c3
                                  have x4 := HXN.out.c4
                                  have x5 := HXN.out.c5
                                  have x6 := HXN.out.c6
                                  have x7 := HXN.out.c7
                                  rw [E1.out] at x0
                                  rw [E2.out] at x1
                                  rw [E3.out] at x2
                                  rw [E4.out] at x6
                                  have xl := HXN.out.lt
                                  go_wp2_with (first | (go_at_call 23; refine Calls.mono (HSC.out _) ?_; rintro e u2 ⟨rfl, hu⟩; have HL2 : Hid (LG w u2 bn #[.int .i64 c.proto, .int .i64 c.a, .int .i64 c.ap, .int .i64 c.b, .int .i64 c.bp, .int .i64 c.outer, .int .i64 c.state, .bool c.fa, .bool c.fb, .int .i64 c.seen] 59) := HL1.out.step hu; have HX2 : Hid (FX u2 b0 s a) := HXN.out.below hu; clear hu k0 k1 k2 k3 k4 k5 k6 k7 k8 k9 kl x0 x1 x2 x3 x4 x5 x6 x7 xl; have k0 := HL2.out.cel 0 _ rfl; have k1 := HL2.out.cel 1 _ rfl; have k2 := HL2.out.cel 2 _ rfl; have k3 := HL2.out.cel 3 _ rfl; have k4 := HL2.out.cel 4 _ rfl; have k5 := HL2.out.cel 5 _ rfl; have k6 := HL2.out.cel 6 _ rfl; have k7 := HL2.out.cel 7 _ rfl; have k8 := HL2.out.cel 8 _ rfl; have k9 := HL2.out.cel 9 _ rfl; have kl := HL2.out.lt; have x0 := HX2.out.c0; have x1 := HX2.out.c1; have x2 := HX2.out.c2; have x3 := HX2.out.c3; have x4 := HX2.out.c4; have x5 := HX2.out.c5; have x6 := HX2.out.c6; have x7 := HX2.out.c7; rw [E1.out] at x0; rw [E2.out] at x1; rw [E3.out] at x2; rw [E4.out] at x6; have xl := HX2.out.lt) | (go_at_call 24; refine Calls.mono (HSDc.out _ HL2.out.aft) ?_; rintro e u3 ⟨rfl, hu⟩; have HL3 : Hid (LG w u3 bn #[.int .i64 c.proto, .int .i64 c.a, .int .i64 c.ap, .int .i64 c.b, .int .i64 c.bp, .int .i64 c.outer, .int .i64 c.state, .bool c.fa, .bool c.fb, .int .i64 c.seen] 59) := HL2.out.step hu; have HX3 : Hid (FX u3 b0 s a) := HX2.out.below hu; clear hu k0 k1 k2 k3 k4 k5 k6 k7 k8 k9 kl x0 x1 x2 x3 x4 x5 x6 x7 xl; have k0 := HL3.out.cel 0 _ rfl; have k1 := HL3.out.cel 1 _ rfl; have k2 := HL3.out.cel 2 _ rfl; have k3 := HL3.out.cel 3 _ rfl; have k4 := HL3.out.cel 4 _ rfl; have k5 := HL3.out.cel 5 _ rfl; have k6 := HL3.out.cel 6 _ rfl; have k7 := HL3.out.cel 7 _ rfl; have k8 := HL3.out.cel 8 _ rfl; have k9 := HL3.out.cel 9 _ rfl; have kl := HL3.out.lt; have x0 := HX3.out.c0; have x1 := HX3.out.c1; have x2 := HX3.out.c2; have x3 := HX3.out.c3; have x4 := HX3.out.c4; have x5 := HX3.out.c5; have x6 := HX3.out.c6; have x7 := HX3.out.c7; rw [E1.out] at x0; rw [E2.out] at x1; rw [E3.out] at x2; rw [E4.out] at x6; have xl := HX3.out.lt) | (go_at_call 25; refine Calls.mono (HOUc.out _ HL3.out.aft) ?_; rintro e u4 ⟨rfl, hu⟩; have HL4 : Hid (LG w u4 bn #[.int .i64 c.proto, .int .i64 c.a, .int .i64 c.ap, .int .i64 c.b, .int .i64 c.bp, .int .i64 c.outer, .int .i64 c.state, .bool c.fa, .bool c.fb, .int .i64 c.seen] 59) := HL3.out.step hu; have HX4 : Hid (FX u4 b0 s a) := HX3.out.below hu; clear hu k0 k1 k2 k3 k4 k5 k6 k7 k8 k9 kl x0 x1 x2 x3 x4 x5 x6 x7 xl))
                                  go_loopw [10] (fun j w5 => ∃ q : Nat, q ≤ k ∧ j = .int .i64 q ∧ allB (cq s c) q = true ∧ LG w w5 bn #[.int .i64 c.proto, .int .i64 c.a, .int .i64 c.ap, .int .i64 c.b, .int .i64 c.bp, .int .i64 c.outer, .int .i64 c.state, .bool c.fa, .bool c.fb, .int .i64 c.seen] 59 ∧ FX w5 b0 s a) (fun j _ => k - (intOf j).toNat)
                                  case atStart => exact ⟨0, Nat.zero_le _, rfl, rfl, HL4.out, HX4.out⟩
                                  case round =>
                                    obtain ⟨q, hq0, rfl, hqk, hL, hX⟩ := hrel
                                    have HQK : Hid (allB (cq s c) q = true) := hqk
                                    have HL5 : Hid (LG w wr bn #[.int .i64 c.proto, .int .i64 c.a, .int .i64 c.ap, .int .i64 c.b, .int .i64 c.bp, .int .i64 c.outer, .int .i64 c.state, .bool c.fa, .bool c.fb, .int .i64 c.seen] 59) := hL
                                    have HX5 : Hid (FX wr b0 s a) := hX
                                    clear hqk hL hX HL1 HXN HL2 HX2 HL3 HX3 HL4 HX4
                                    have x6 := HX5.out.c6
                                    rw [E4.out] at x6
                                    have xl := HX5.out.lt
                                    by_cases hlq : q < k
                                    · have hqf : q < s.cs.length := by omega
                                      have HDq : Hid (∀ u, Below w.heap.size w u → _) := fun u (hu : Below w.heap.size w u) => (⟨hc.below hu hg q hqf, Nat.lt_of_lt_of_le hg hu.size⟩ : _ ∧ g < u.heap.size)
                                      have HGQ : Hid (cq s c q = !(smB s.cs[q] c || c.outer != 0 && s.cs[q].proto == c.proto && s.cs[q].outer == c.outer && (ouP s s.cs[q]).1 == C1 && (ouP s s.cs[q]).2 == C2)) := (show cq _ _ _ = _ by unfold cq clB; rw [gdc8 hqf, HO1.out, HO2.out])
                                      have hq1 : (0 : Int) ≤ (q : Int) := by omega
                                      have hq2 : (q : Int) < (s.cs.length : Int) := by omega
                                      have hq3 : (q : Int) < (k : Int) := by omega
                                      have HOUd : Hid _ := HOU.out s.cs[q]
                                      have HSMd : Hid (∀ u, Calls Try.prog 26 #[cnA s.cs[q], cnA c] u fun e w' => e = .returned (.bool (smB s.cs[q] c)) ∧ Below u.heap.size u w') := fun u => sameS_any _ _ u
                                      generalize s.cs[q] = d at *
                                      unfold cnA at HSMd
                                      generalize (ouP s d).1 = D1 at *
                                      generalize (ouP s d).2 = D2 at *
                                      clear hc
                                      go_upto_region 24 with fail
                                      have HSB : Hid (LG w wr.drew bn #[.int .i64 c.proto, .int .i64 c.a, .int .i64 c.ap, .int .i64 c.b, .int .i64 c.bp, .int .i64 c.outer, .int .i64 c.state, .bool c.fa, .bool c.fb, .int .i64 c.seen] 59 ∧ FX wr.drew b0 s a) := ⟨HL5.out.drew, HX5.out.below (Below.refl _ _).drew⟩
                                      clear x6 xl
                                      refine wp_region_held (S := fun w9 => LG w w9 bn #[.int .i64 c.proto, .int .i64 c.a, .int .i64 c.ap, .int .i64 c.b, .int .i64 c.bp, .int .i64 c.outer, .int .i64 c.state, .bool c.fa, .bool c.fb, .int .i64 c.seen] 59 ∧ FX w9 b0 s a) (by kernel_rfl) ?_
                                      change wpAnyH _ _ _ _ _ _ _ _ (World.drew _)
                                      refine wpAnyH_take (i := 0) (v := .agg #[.slice ahs s.hs.length khs, .slice ags s.gs.length kgs, .slice afs s.fs.length kfs, .int .i64 s.pub, .int .i64 s.fst, .int .i64 s.lst, .slice (some ⟨g, o, none⟩) s.cs.length kcs, .int .i64 s.time]) rfl (by kernel_rfl) (by kernel_rfl) (by kernel_rfl) (fun _ _ _ h => h) (Or.inl ⟨by kernel_rfl, fun w9 h9 => ?_⟩) HSB.out ?_
                                      · have k0 := h9.1.cel 0 _ rfl; have k1 := h9.1.cel 1 _ rfl; have k2 := h9.1.cel 2 _ rfl; have k3 := h9.1.cel 3 _ rfl; have k4 := h9.1.cel 4 _ rfl; have k5 := h9.1.cel 5 _ rfl; have k6 := h9.1.cel 6 _ rfl; have k7 := h9.1.cel 7 _ rfl; have k8 := h9.1.cel 8 _ rfl; have k9 := h9.1.cel 9 _ rfl; have kl := h9.1.lt; have x0 := h9.2.c0; have x1 := h9.2.c1; have x2 := h9.2.c2; have x3 := h9.2.c3; have x4 := h9.2.c4; have x5 := h9.2.c5; have x6 := h9.2.c6; have x7 := h9.2.c7; rw [E1.out] at x0; rw [E2.out] at x1; rw [E3.out] at x2; rw [E4.out] at x6; have xl := h9.2.lt; obtain ⟨⟨d0, d1, d2, d3, d4, d5, d6, d7, d8, d9⟩, hgw⟩ := HDq.out _ h9.1.bel; clear h9; go_simp
                                      refine wpAnyH_take (i := 1) (v := .pointer (some ⟨b0, 6, none⟩)) rfl (by kernel_rfl) (by kernel_rfl) (by kernel_rfl) (fun _ _ _ h => h) (Or.inl ⟨by kernel_rfl, fun w9 h9 => ?_⟩) HSB.out ?_
                                      · clear h9; go_simp
                                      refine wpAnyH_take (i := 2) (v := .slice (some ⟨g, o, none⟩) s.cs.length kcs) rfl (by kernel_rfl) (by kernel_rfl) (by kernel_rfl) (fun _ _ _ h => h) (Or.inl ⟨by kernel_rfl, fun w9 h9 => ?_⟩) HSB.out ?_
                                      · have k0 := h9.1.cel 0 _ rfl; have k1 := h9.1.cel 1 _ rfl; have k2 := h9.1.cel 2 _ rfl; have k3 := h9.1.cel 3 _ rfl; have k4 := h9.1.cel 4 _ rfl; have k5 := h9.1.cel 5 _ rfl; have k6 := h9.1.cel 6 _ rfl; have k7 := h9.1.cel 7 _ rfl; have k8 := h9.1.cel 8 _ rfl; have k9 := h9.1.cel 9 _ rfl; have kl := h9.1.lt; have x0 := h9.2.c0; have x1 := h9.2.c1; have x2 := h9.2.c2; have x3 := h9.2.c3; have x4 := h9.2.c4; have x5 := h9.2.c5; have x6 := h9.2.c6; have x7 := h9.2.c7; rw [E1.out] at x0; rw [E2.out] at x1; rw [E3.out] at x2; rw [E4.out] at x6; have xl := h9.2.lt; obtain ⟨⟨d0, d1, d2, d3, d4, d5, d6, d7, d8, d9⟩, hgw⟩ := HDq.out _ h9.1.bel; clear h9; go_simp
                                      refine wpAnyH_take (i := 3) (v := .int .i64 (q : Int)) rfl (by kernel_rfl) (by kernel_rfl) (by kernel_rfl) (fun _ _ _ h => h) (Or.inl ⟨by kernel_rfl, fun w9 h9 => ?_⟩) HSB.out ?_
                                      · clear h9; go_simp
                                      refine wpAnyH_take (i := 4) (v := .pointer (some ⟨g, o + q * 10, none⟩)) rfl (by kernel_rfl) (by kernel_rfl) (by kernel_rfl) (fun _ _ _ h => h) (Or.inl ⟨by kernel_rfl, fun w9 h9 => ?_⟩) HSB.out ?_
                                      · clear h9; go_simp
                                      refine wpAnyH_take (i := 5) (v := .agg #[.int .i64 d.proto, .int .i64 d.a, .int .i64 d.ap, .int .i64 d.b, .int .i64 d.bp, .int .i64 d.outer, .int .i64 d.state, .bool d.fa, .bool d.fb, .int .i64 d.seen]) rfl (by kernel_rfl) (by kernel_rfl) (by kernel_rfl) (fun _ _ _ h => h) (Or.inl ⟨by kernel_rfl, fun w9 h9 => ?_⟩) HSB.out ?_
                                      · have k0 := h9.1.cel 0 _ rfl; have k1 := h9.1.cel 1 _ rfl; have k2 := h9.1.cel 2 _ rfl; have k3 := h9.1.cel 3 _ rfl; have k4 := h9.1.cel 4 _ rfl; have k5 := h9.1.cel 5 _ rfl; have k6 := h9.1.cel 6 _ rfl; have k7 := h9.1.cel 7 _ rfl; have k8 := h9.1.cel 8 _ rfl; have k9 := h9.1.cel 9 _ rfl; have kl := h9.1.lt; have x0 := h9.2.c0; have x1 := h9.2.c1; have x2 := h9.2.c2; have x3 := h9.2.c3; have x4 := h9.2.c4; have x5 := h9.2.c5; have x6 := h9.2.c6; have x7 := h9.2.c7; rw [E1.out] at x0; rw [E2.out] at x1; rw [E3.out] at x2; rw [E4.out] at x6; have xl := h9.2.lt; obtain ⟨⟨d0, d1, d2, d3, d4, d5, d6, d7, d8, d9⟩, hgw⟩ := HDq.out _ h9.1.bel; clear h9; go_simp
                                      refine held_one 6 (by kernel_rfl) rfl (by kernel_rfl) fun K hK => ?_
                                      go_simp
                                      go_wp2_with (go_at_call 25; refine Calls.mono (HOUd.out _ HSB.out.1.aft) ?_; rintro e9 u9 ⟨rfl, hu9⟩; have HSC : Hid (LG w u9 bn #[.int .i64 c.proto, .int .i64 c.a, .int .i64 c.ap, .int .i64 c.b, .int .i64 c.bp, .int .i64 c.outer, .int .i64 c.state, .bool c.fa, .bool c.fb, .int .i64 c.seen] 59 ∧ FX u9 b0 s a) := ⟨HSB.out.1.step hu9, HSB.out.2.below hu9⟩; clear hu9)
                                      refine hK _ _ HSC.out ?_
                                      clear hK K
                                      refine wpAnyH_take (i := 7) (v := .tuple #[.int .i64 D1, .int .i64 D2]) rfl (by kernel_rfl) (by kernel_rfl) (by kernel_rfl) (fun _ _ _ h => h) (Or.inl ⟨by kernel_rfl, fun w9 h9 => ?_⟩) HSC.out ?_
                                      · clear h9; go_simp
                                      refine wpAnyH_take (i := 8) (v := .int .i64 D1) rfl (by kernel_rfl) (by kernel_rfl) (by kernel_rfl) (fun _ _ _ h => h) (Or.inl ⟨by kernel_rfl, fun w9 h9 => ?_⟩) HSC.out ?_
                                      · clear h9; go_simp
                                      refine wpAnyH_take (i := 9) (v := .int .i64 D2) rfl (by kernel_rfl) (by kernel_rfl) (by kernel_rfl) (fun _ _ _ h => h) (Or.inl ⟨by kernel_rfl, fun w9 h9 => ?_⟩) HSC.out ?_
                                      · clear h9; go_simp
                                      refine wpAnyH_take (i := 10) (v := .int .i64 D1) rfl (by kernel_rfl) (by kernel_rfl) (by kernel_rfl) (fun _ _ _ h => h) (Or.inl ⟨by kernel_rfl, fun w9 h9 => ?_⟩) HSC.out ?_
                                      · clear h9; go_simp
                                      refine wpAnyH_take (i := 11) (v := .int .i64 D2) rfl (by kernel_rfl) (by kernel_rfl) (by kernel_rfl) (fun _ _ _ h => h) (Or.inl ⟨by kernel_rfl, fun w9 h9 => ?_⟩) HSC.out ?_
                                      · clear h9; go_simp
                                      refine wpAnyH_done (by kernel_rfl) ?_ _
                                      go_simp
                                      go_upto_region 25 with fail
                                      skip
                                      refine r25_any E1 E2 E3 E4 HSC HDq hq1 hq2 HSMd (fun _ _ _ _ _ h => h) (fun _ _ _ _ _ _ _ _ _ _ _ _ _ _ _ _ _ _ _ _ _ _ _ _ _ _ _ _ _ _ _ _ _ _ _ _ _ _ _ _ _ _ _ U hU => ?_)
                                      have HSE : Hid (LG w U bn #[.int .i64 c.proto, .int .i64 c.a, .int .i64 c.ap, .int .i64 c.b, .int .i64 c.bp, .int .i64 c.outer, .int .i64 c.state, .bool c.fa, .bool c.fb, .int .i64 c.seen] 59 ∧ FX U b0 s a) := hU
                                      clear hU
                                      generalize (smB d c || c.outer != 0 && d.proto == c.proto && d.outer == c.outer && D1 == C1 && D2 == C2) = R at HGQ ⊢
                                      cases h9 : R
                                      · rw [h9] at HGQ
                                        have HGD : Hid (allB (cq s c) (q + 1) = true) := (show _ = true by rw [allB_succ, HQK.out, HGQ.out]; rfl)
                                        go_wp2
                                        exact ⟨⟨q + 1, hlq, by go_num, HGD.out, HSE.out.1, HSE.out.2⟩, by simp [intOf]; omega⟩
                                      · rw [h9] at HGQ
                                        have HBD : Hid (ssB s = false) := (show ssB s = false by rw [E.out, allB_bad (p := sx s) hlt (HT.out.trans (by rw [allB_bad hlq (HGQ.out.trans rfl)]; simp))]; simp)
                                        go_wp2
                                        go_ret
                                        exact ⟨ret_int (by unfold ssV; rw [HBD.out]; rfl), HSE.out.1.bel⟩
                                    · obtain rfl : q = k := by omega
                                      have HGD : Hid (allB (sx s) (q + 1) = true) := (show _ = true by rw [allB_succ, HOK2.out, HT.out, HQK.out]; simp)
                                      clear hc
                                      go_wp2
                                      exact ⟨⟨q + 1, hlt, by go_num, HGD.out, HL5.out.bel, HX5.out⟩, by simp [intOf]; omega⟩
                            · obtain rfl : k = s.cs.length := by omega
                              go_wp2
                              go_ret
                              exact ⟨ret_int (by unfold ssV; rw [E.out, HD.out, HOK.out, HOK2.out]; rfl), HB.out⟩
                    · rw [g9] at ED
                      as_aux_lemma =>
                        go_enter Try.func6, Try.ntmps6
                        go_upto_region 1 with fail
                        generalize (w.alloc (.cells #[.slice ahs s.hs.length khs, .slice ags s.gs.length kgs, .slice afs s.fs.length kfs, .int .i64 s.pub, .int .i64 s.fst, .int .i64 s.lst, .slice acs s.cs.length kcs, .int .i64 s.time] 35)) = u0 at *
                        generalize w.heap.size = b0 at *
                        have x0 := HX0.out.c0
                        have x1 := HX0.out.c1
                        have x2 := HX0.out.c2
                        have x3 := HX0.out.c3
                        have x4 := HX0.out.c4
                        have x5 := HX0.out.c5
                        have x6 := HX0.out.c6
                        have x7 := HX0.out.c7
                        rw [E1.out] at x0
                        rw [E2.out] at x1
                        rw [E3.out] at x2
                        rw [E4.out] at x6
                        have xl := HX0.out.lt
                        go_wp2_with (first | (go_at_call 18; refine Calls.mono (specIsWord_any _ _) ?_; rintro e v2 ⟨rfl, hw1⟩; rw [hw1]; clear hw1) | (go_at_call 19; refine Calls.mono (HHS.out _ HB0.out) ?_; rintro e u1 ⟨rfl, hu⟩; have HB1 : Hid (Aft w u1) := ⟨HB0.out.out.trans (hu.mono HB0.out.out.size)⟩; have HX1 : Hid (FX u1 b0 s a) := HX0.out.below hu; clear hu x0 x1 x2 x3 x4 x5 x6 x7 xl; have x2 := HX1.out.c2; have x4 := HX1.out.c4; have x5 := HX1.out.c5; have x6 := HX1.out.c6; have x7 := HX1.out.c7; rw [E3.out] at x2; rw [E4.out] at x6; have xl := HX1.out.lt))
                        go_ret
                        exact ⟨ret_int (by unfold ssV; rw [E.out, ED.out]; simp), HB1.out.out⟩
                  · rw [g8] at ED
                    as_aux_lemma =>
                      go_enter Try.func6, Try.ntmps6
                      go_upto_region 1 with fail
                      generalize (w.alloc (.cells #[.slice ahs s.hs.length khs, .slice ags s.gs.length kgs, .slice afs s.fs.length kfs, .int .i64 s.pub, .int .i64 s.fst, .int .i64 s.lst, .slice acs s.cs.length kcs, .int .i64 s.time] 35)) = u0 at *
                      generalize w.heap.size = b0 at *
                      have x0 := HX0.out.c0
                      have x1 := HX0.out.c1
                      have x2 := HX0.out.c2
                      have x3 := HX0.out.c3
                      have x4 := HX0.out.c4
                      have x5 := HX0.out.c5
                      have x6 := HX0.out.c6
                      have x7 := HX0.out.c7
                      rw [E1.out] at x0
                      rw [E2.out] at x1
                      rw [E3.out] at x2
                      rw [E4.out] at x6
                      have xl := HX0.out.lt
                      go_wp2_with (first | (go_at_call 18; refine Calls.mono (specIsWord_any _ _) ?_; rintro e v2 ⟨rfl, hw1⟩; rw [hw1]; clear hw1) | (go_at_call 19; refine Calls.mono (HHS.out _ HB0.out) ?_; rintro e u1 ⟨rfl, hu⟩; have HB1 : Hid (Aft w u1) := ⟨HB0.out.out.trans (hu.mono HB0.out.out.size)⟩; have HX1 : Hid (FX u1 b0 s a) := HX0.out.below hu; clear hu x0 x1 x2 x3 x4 x5 x6 x7 xl; have x2 := HX1.out.c2; have x4 := HX1.out.c4; have x5 := HX1.out.c5; have x6 := HX1.out.c6; have x7 := HX1.out.c7; rw [E3.out] at x2; rw [E4.out] at x6; have xl := HX1.out.lt))
                      go_ret
                      exact ⟨ret_int (by unfold ssV; rw [E.out, ED.out]; simp), HB1.out.out⟩
                · rw [g7] at ED
                  as_aux_lemma =>
                    go_enter Try.func6, Try.ntmps6
                    go_upto_region 1 with fail
                    generalize (w.alloc (.cells #[.slice ahs s.hs.length khs, .slice ags s.gs.length kgs, .slice afs s.fs.length kfs, .int .i64 s.pub, .int .i64 s.fst, .int .i64 s.lst, .slice acs s.cs.length kcs, .int .i64 s.time] 35)) = u0 at *
                    generalize w.heap.size = b0 at *
                    have x0 := HX0.out.c0
                    have x1 := HX0.out.c1
                    have x2 := HX0.out.c2
                    have x3 := HX0.out.c3
                    have x4 := HX0.out.c4
                    have x5 := HX0.out.c5
                    have x6 := HX0.out.c6
                    have x7 := HX0.out.c7
                    rw [E1.out] at x0
                    rw [E2.out] at x1
                    rw [E3.out] at x2
                    rw [E4.out] at x6
                    have xl := HX0.out.lt
                    go_wp2_with (first | (go_at_call 18; refine Calls.mono (specIsWord_any _ _) ?_; rintro e v2 ⟨rfl, hw1⟩; rw [hw1]; clear hw1) | (go_at_call 19; refine Calls.mono (HHS.out _ HB0.out) ?_; rintro e u1 ⟨rfl, hu⟩; have HB1 : Hid (Aft w u1) := ⟨HB0.out.out.trans (hu.mono HB0.out.out.size)⟩; have HX1 : Hid (FX u1 b0 s a) := HX0.out.below hu; clear hu x0 x1 x2 x3 x4 x5 x6 x7 xl; have x2 := HX1.out.c2; have x4 := HX1.out.c4; have x5 := HX1.out.c5; have x6 := HX1.out.c6; have x7 := HX1.out.c7; rw [E3.out] at x2; rw [E4.out] at x6; have xl := HX1.out.lt))
                    go_ret
                    exact ⟨ret_int (by unfold ssV; rw [E.out, ED.out]; simp), HB1.out.out⟩
              · rw [g6] at ED
                as_aux_lemma =>
                  go_enter Try.func6, Try.ntmps6
                  go_upto_region 1 with fail
                  generalize (w.alloc (.cells #[.slice ahs s.hs.length khs, .slice ags s.gs.length kgs, .slice afs s.fs.length kfs, .int .i64 s.pub, .int .i64 s.fst, .int .i64 s.lst, .slice acs s.cs.length kcs, .int .i64 s.time] 35)) = u0 at *
                  generalize w.heap.size = b0 at *
                  have x0 := HX0.out.c0
                  have x1 := HX0.out.c1
                  have x2 := HX0.out.c2
                  have x3 := HX0.out.c3
                  have x4 := HX0.out.c4
                  have x5 := HX0.out.c5
                  have x6 := HX0.out.c6
                  have x7 := HX0.out.c7
                  rw [E1.out] at x0
                  rw [E2.out] at x1
                  rw [E3.out] at x2
                  rw [E4.out] at x6
                  have xl := HX0.out.lt
                  go_wp2_with (first | (go_at_call 18; refine Calls.mono (specIsWord_any _ _) ?_; rintro e v2 ⟨rfl, hw1⟩; rw [hw1]; clear hw1) | (go_at_call 19; refine Calls.mono (HHS.out _ HB0.out) ?_; rintro e u1 ⟨rfl, hu⟩; have HB1 : Hid (Aft w u1) := ⟨HB0.out.out.trans (hu.mono HB0.out.out.size)⟩; have HX1 : Hid (FX u1 b0 s a) := HX0.out.below hu; clear hu x0 x1 x2 x3 x4 x5 x6 x7 xl; have x2 := HX1.out.c2; have x4 := HX1.out.c4; have x5 := HX1.out.c5; have x6 := HX1.out.c6; have x7 := HX1.out.c7; rw [E3.out] at x2; rw [E4.out] at x6; have xl := HX1.out.lt))
                  go_ret
                  exact ⟨ret_int (by unfold ssV; rw [E.out, ED.out]; simp), HB1.out.out⟩
            · rw [g5] at ED
              as_aux_lemma =>
                go_enter Try.func6, Try.ntmps6
                go_upto_region 1 with fail
                generalize (w.alloc (.cells #[.slice ahs s.hs.length khs, .slice ags s.gs.length kgs, .slice afs s.fs.length kfs, .int .i64 s.pub, .int .i64 s.fst, .int .i64 s.lst, .slice acs s.cs.length kcs, .int .i64 s.time] 35)) = u0 at *
                generalize w.heap.size = b0 at *
                have x0 := HX0.out.c0
                have x1 := HX0.out.c1
                have x2 := HX0.out.c2
                have x3 := HX0.out.c3
                have x4 := HX0.out.c4
                have x5 := HX0.out.c5
                have x6 := HX0.out.c6
                have x7 := HX0.out.c7
                rw [E1.out] at x0
                rw [E2.out] at x1
                rw [E3.out] at x2
                rw [E4.out] at x6
                have xl := HX0.out.lt
                go_wp2_with (first | (go_at_call 18; refine Calls.mono (specIsWord_any _ _) ?_; rintro e v2 ⟨rfl, hw1⟩; rw [hw1]; clear hw1) | (go_at_call 19; refine Calls.mono (HHS.out _ HB0.out) ?_; rintro e u1 ⟨rfl, hu⟩; have HB1 : Hid (Aft w u1) := ⟨HB0.out.out.trans (hu.mono HB0.out.out.size)⟩; have HX1 : Hid (FX u1 b0 s a) := HX0.out.below hu; clear hu x0 x1 x2 x3 x4 x5 x6 x7 xl; have x2 := HX1.out.c2; have x4 := HX1.out.c4; have x5 := HX1.out.c5; have x6 := HX1.out.c6; have x7 := HX1.out.c7; rw [E3.out] at x2; rw [E4.out] at x6; have xl := HX1.out.lt))
                go_ret
                exact ⟨ret_int (by unfold ssV; rw [E.out, ED.out]; simp), HB1.out.out⟩
          · rw [g4] at ED
            as_aux_lemma =>
              go_enter Try.func6, Try.ntmps6
              go_upto_region 1 with fail
              generalize (w.alloc (.cells #[.slice ahs s.hs.length khs, .slice ags s.gs.length kgs, .slice afs s.fs.length kfs, .int .i64 s.pub, .int .i64 s.fst, .int .i64 s.lst, .slice acs s.cs.length kcs, .int .i64 s.time] 35)) = u0 at *
              generalize w.heap.size = b0 at *
              have x0 := HX0.out.c0
              have x1 := HX0.out.c1
              have x2 := HX0.out.c2
              have x3 := HX0.out.c3
              have x4 := HX0.out.c4
              have x5 := HX0.out.c5
              have x6 := HX0.out.c6
              have x7 := HX0.out.c7
              rw [E1.out] at x0
              rw [E2.out] at x1
              rw [E3.out] at x2
              rw [E4.out] at x6
              have xl := HX0.out.lt
              go_wp2_with (first | (go_at_call 18; refine Calls.mono (specIsWord_any _ _) ?_; rintro e v2 ⟨rfl, hw1⟩; rw [hw1]; clear hw1) | (go_at_call 19; refine Calls.mono (HHS.out _ HB0.out) ?_; rintro e u1 ⟨rfl, hu⟩; have HB1 : Hid (Aft w u1) := ⟨HB0.out.out.trans (hu.mono HB0.out.out.size)⟩; have HX1 : Hid (FX u1 b0 s a) := HX0.out.below hu; clear hu x0 x1 x2 x3 x4 x5 x6 x7 xl; have x2 := HX1.out.c2; have x4 := HX1.out.c4; have x5 := HX1.out.c5; have x6 := HX1.out.c6; have x7 := HX1.out.c7; rw [E3.out] at x2; rw [E4.out] at x6; have xl := HX1.out.lt))
              go_ret
              exact ⟨ret_int (by unfold ssV; rw [E.out, ED.out]; simp), HB1.out.out⟩
        · rw [g3] at ED
          as_aux_lemma =>
            go_enter Try.func6, Try.ntmps6
            go_upto_region 1 with fail
            generalize (w.alloc (.cells #[.slice ahs s.hs.length khs, .slice ags s.gs.length kgs, .slice afs s.fs.length kfs, .int .i64 s.pub, .int .i64 s.fst, .int .i64 s.lst, .slice acs s.cs.length kcs, .int .i64 s.time] 35)) = u0 at *
            generalize w.heap.size = b0 at *
            have x0 := HX0.out.c0
            have x1 := HX0.out.c1
            have x2 := HX0.out.c2
            have x3 := HX0.out.c3
            have x4 := HX0.out.c4
            have x5 := HX0.out.c5
            have x6 := HX0.out.c6
            have x7 := HX0.out.c7
            rw [E1.out] at x0
            rw [E2.out] at x1
            rw [E3.out] at x2
            rw [E4.out] at x6
            have xl := HX0.out.lt
            go_wp2_with (first | (go_at_call 18; refine Calls.mono (specIsWord_any _ _) ?_; rintro e v2 ⟨rfl, hw1⟩; rw [hw1]; clear hw1) | (go_at_call 19; refine Calls.mono (HHS.out _ HB0.out) ?_; rintro e u1 ⟨rfl, hu⟩; have HB1 : Hid (Aft w u1) := ⟨HB0.out.out.trans (hu.mono HB0.out.out.size)⟩; have HX1 : Hid (FX u1 b0 s a) := HX0.out.below hu; clear hu x0 x1 x2 x3 x4 x5 x6 x7 xl; have x2 := HX1.out.c2; have x4 := HX1.out.c4; have x5 := HX1.out.c5; have x6 := HX1.out.c6; have x7 := HX1.out.c7; rw [E3.out] at x2; rw [E4.out] at x6; have xl := HX1.out.lt))
            go_ret
            exact ⟨ret_int (by unfold ssV; rw [E.out, ED.out]; simp), HB1.out.out⟩
    · rw [g1] at ED
      as_aux_lemma =>
        go_enter Try.func6, Try.ntmps6
        go_upto_region 1 with fail
        generalize (w.alloc (.cells #[.slice ahs s.hs.length khs, .slice ags s.gs.length kgs, .slice afs s.fs.length kfs, .int .i64 s.pub, .int .i64 s.fst, .int .i64 s.lst, .slice acs s.cs.length kcs, .int .i64 s.time] 35)) = u0 at *
        generalize w.heap.size = b0 at *
        have x0 := HX0.out.c0
        have x1 := HX0.out.c1
        have x2 := HX0.out.c2
        have x3 := HX0.out.c3
        have x4 := HX0.out.c4
        have x5 := HX0.out.c5
        have x6 := HX0.out.c6
        have x7 := HX0.out.c7
        rw [E1.out] at x0
        rw [E2.out] at x1
        rw [E3.out] at x2
        rw [E4.out] at x6
        have xl := HX0.out.lt
        go_wp2_with (first | (go_at_call 18; refine Calls.mono (specIsWord_any _ _) ?_; rintro e v2 ⟨rfl, hw1⟩; rw [hw1]; clear hw1) | (go_at_call 19; refine Calls.mono (HHS.out _ HB0.out) ?_; rintro e u1 ⟨rfl, hu⟩; have HB1 : Hid (Aft w u1) := ⟨HB0.out.out.trans (hu.mono HB0.out.out.size)⟩; have HX1 : Hid (FX u1 b0 s a) := HX0.out.below hu; clear hu x0 x1 x2 x3 x4 x5 x6 x7 xl; have x2 := HX1.out.c2; have x4 := HX1.out.c4; have x5 := HX1.out.c5; have x6 := HX1.out.c6; have x7 := HX1.out.c7; rw [E3.out] at x2; rw [E4.out] at x6; have xl := HX1.out.lt))
        go_ret
        exact ⟨ret_int (by unfold ssV; rw [E.out, ED.out]; simp), HB0.out.out⟩

set_option maxRecDepth 100000 in
set_option maxHeartbeats 8000000 in
theorem walkFFl {w : World} {s : FI} {a : FA} (h : FIRows w s a) (hm : FImax s) : Calls Try.prog 3 #[flA s a] w fun e w' => e = .returned (.bool true) ∧ Below w.heap.size w w' := by
  have HR : Hid (FIRows w s a) := h
  have HSZ : Hid (∀ u, Aft w u → Calls Try.prog 5 #[flA s a, .int .i64 1048576] u fun e w' => ∃ q, e = .returned (.int .i64 q) ∧ -1 ≤ q ∧ q ≤ 1048576 ∧ (0 ≤ q → FIlen s) ∧ Below u.heap.size u w') := fun u hu => szFI_w (HR.out.below hu.out) hm
  have HTO0 : Hid (FIlen s → ∀ u, Aft w u → Calls Try.prog 7 #[flA s a] u fun e w' => ∃ a2 : FA, e = .returned (flA s a2) ∧ FIRows w' s a2 ∧ Below u.heap.size u w') := fun hl u hu => toFI_any (HR.out.below hu.out) hl
  obtain ⟨ahs, khs, ags, kgs, afs, kfs, acs, kcs, e⟩ := h.sl
  generalize a.qhs = qh at e
  generalize a.qgs = qg at e
  subst e
  have HL0 : Hid (LG w (w.alloc (.cells #[.slice ahs s.hs.length khs, .slice ags s.gs.length kgs, .slice afs s.fs.length kfs, .int .i64 s.pub, .int .i64 s.fst, .int .i64 s.lst, .slice acs s.cs.length kcs, .int .i64 s.time] 27)) w.heap.size #[.slice ahs s.hs.length khs, .slice ags s.gs.length kgs, .slice afs s.fs.length kfs, .int .i64 s.pub, .int .i64 s.fst, .int .i64 s.lst, .slice acs s.cs.length kcs, .int .i64 s.time] 27) := LG.new w _ _
  clear h hm
  unfold flA flC at HSZ HTO0
  unfold flA flC
  simp only at HSZ HTO0 ⊢
  go_enter Try.func3, Try.ntmps3
  go_wp2_with fail
  generalize (w.alloc (.cells #[.slice ahs s.hs.length khs, .slice ags s.gs.length kgs, .slice afs s.fs.length kfs, .int .i64 s.pub, .int .i64 s.fst, .int .i64 s.lst, .slice acs s.cs.length kcs, .int .i64 s.time] 27)) = u0 at *
  generalize w.heap.size = b0 at *
  refine Calls.mono (HSZ.out _ HL0.out.aft) ?_
  rintro e u1 ⟨q, rfl, q0, _, hq, hu⟩
  have HL1 : Hid (LG w u1 b0 #[.slice ahs s.hs.length khs, .slice ags s.gs.length kgs, .slice afs s.fs.length kfs, .int .i64 s.pub, .int .i64 s.fst, .int .i64 s.lst, .slice acs s.cs.length kcs, .int .i64 s.time] 27) := HL0.out.step hu
  have HQ : Hid (0 ≤ q → FIlen s) := hq
  clear hu hq HL0 HSZ
  cases h3 : decide (q < 0)
  · have hl : FIlen s := HQ.out (by have := of_decide_eq_false h3; omega)
    have HTO : Hid (∀ u, Aft w u → Calls Try.prog 7 #[.agg #[.slice ahs s.hs.length khs, .slice ags s.gs.length kgs, .slice afs s.fs.length kfs, .int .i64 s.pub, .int .i64 s.fst, .int .i64 s.lst, .slice acs s.cs.length kcs, .int .i64 s.time]] u fun e w' => ∃ ahsx khsx agsx kgsx afsx kfsx acsx kcsx qhx qgx, e = .returned (.agg #[.slice ahsx s.hs.length khsx, .slice agsx s.gs.length kgsx, .slice afsx s.fs.length kfsx, .int .i64 s.pub, .int .i64 s.fst, .int .i64 s.lst, .slice acsx s.cs.length kcsx, .int .i64 s.time]) ∧ FIRows w' s ⟨.slice ahsx s.hs.length khsx, .slice agsx s.gs.length kgsx, .slice afsx s.fs.length kfsx, .slice acsx s.cs.length kcsx, qhx, qgx⟩ ∧ Below u.heap.size u w') := (fun u hu => (HTO0.out hl u hu).mono (by rintro e w' ⟨a2, rfl, hx, hb⟩; obtain ⟨ahsx, khsx, agsx, kgsx, afsx, kfsx, acsx, kcsx, ee⟩ := hx.sl; rw [ee] at hx ⊢; exact ⟨ahsx, khsx, agsx, kgsx, afsx, kfsx, acsx, kcsx, _, _, rfl, hx, hb⟩))
    have HSP : Hid (∀ u ahsx khsx agsx kgsx afsx kfsx acsx kcsx qhx qgx, FIRows u s ⟨.slice ahsx s.hs.length khsx, .slice agsx s.gs.length kgsx, .slice afsx s.fs.length kfsx, .slice acsx s.cs.length kcsx, qhx, qgx⟩ → Calls Try.prog 6 #[.agg #[.slice ahsx s.hs.length khsx, .slice agsx s.gs.length kgsx, .slice afsx s.fs.length kfsx, .int .i64 s.pub, .int .i64 s.fst, .int .i64 s.lst, .slice acsx s.cs.length kcsx, .int .i64 s.time]] u fun e w' => e = .returned (.int .i64 (ssV s)) ∧ Below u.heap.size u w') := (fun u ahsx khsx agsx kgsx afsx kfsx acsx kcsx qhx qgx hx => by have h9 := specFF_any hx hl; unfold flA flC at h9; simp only at h9; exact h9)
    have HIM : Hid (∀ u ahsx khsx agsx kgsx afsx kfsx acsx kcsx qhx qgx, FIRows u s ⟨.slice ahsx s.hs.length khsx, .slice agsx s.gs.length kgsx, .slice afsx s.fs.length kfsx, .slice acsx s.cs.length kcsx, qhx, qgx⟩ → Calls Try.prog 8 #[.agg #[.slice ahsx s.hs.length khsx, .slice agsx s.gs.length kgsx, .slice afsx s.fs.length kfsx, .int .i64 s.pub, .int .i64 s.fst, .int .i64 s.lst, .slice acsx s.cs.length kcsx, .int .i64 s.time]] u fun e w' => e = .returned (.int .i64 (ssV s)) ∧ Below u.heap.size u w') := (fun u ahsx khsx agsx kgsx afsx kfsx acsx kcsx qhx qgx hx => by have h9 := implFF_any hx hl; rw [frV_eq] at h9; unfold flA flC at h9; simp only at h9; exact h9)
    have HEQ : Hid (∀ u ahsx khsx agsx kgsx afsx kfsx acsx kcsx qhx qgx ahsy khsy agsy kgsy afsy kfsy acsy kcsy qhy qgy, FIRows u s ⟨.slice ahsx s.hs.length khsx, .slice agsx s.gs.length kgsx, .slice afsx s.fs.length kfsx, .slice acsx s.cs.length kcsx, qhx, qgx⟩ → FIRows u s ⟨.slice ahsy s.hs.length khsy, .slice agsy s.gs.length kgsy, .slice afsy s.fs.length kfsy, .slice acsy s.cs.length kcsy, qhy, qgy⟩ → Calls Try.prog 9 #[.agg #[.slice ahsx s.hs.length khsx, .slice agsx s.gs.length kgsx, .slice afsx s.fs.length kfsx, .int .i64 s.pub, .int .i64 s.fst, .int .i64 s.lst, .slice acsx s.cs.length kcsx, .int .i64 s.time], .agg #[.slice ahsy s.hs.length khsy, .slice agsy s.gs.length kgsy, .slice afsy s.fs.length kfsy, .int .i64 s.pub, .int .i64 s.fst, .int .i64 s.lst, .slice acsy s.cs.length kcsy, .int .i64 s.time]] u fun e w' => e = .returned (.bool true) ∧ Below u.heap.size u w') := (fun u ahsx khsx agsx kgsx afsx kfsx acsx kcsx qhx qgx ahsy khsy agsy kgsy afsy kfsy acsy kcsy qhy qgy hx hy => by have h9 := eqFI_ok hx hy hl; unfold flA flC at h9; simp only at h9; exact h9)
    generalize ssV s = V at HSP HIM
    have hV : (V != V) = false := by simp
    clear HQ hl HTO0 HR
    have r0 := HL1.out.cel 0 _ rfl
    have r1 := HL1.out.cel 1 _ rfl
    have r2 := HL1.out.cel 2 _ rfl
    have r3 := HL1.out.cel 3 _ rfl
    have r4 := HL1.out.cel 4 _ rfl
    have r5 := HL1.out.cel 5 _ rfl
    have r6 := HL1.out.cel 6 _ rfl
    have r7 := HL1.out.cel 7 _ rfl
    have rl := HL1.out.lt
    go_wp2_with fail
    refine Calls.mono (HTO.out _ HL1.out.aft) ?_
    rintro e u2 ⟨ahs2, khs2, ags2, kgs2, afs2, kfs2, acs2, kcs2, qh2, qg2, rfl, hx2, hb⟩
    have HL2 : Hid (LG w u2 b0 #[.slice ahs s.hs.length khs, .slice ags s.gs.length kgs, .slice afs s.fs.length kfs, .int .i64 s.pub, .int .i64 s.fst, .int .i64 s.lst, .slice acs s.cs.length kcs, .int .i64 s.time] 27) := HL1.out.step hb
    have HX2 : Hid (FIRows u2 s ⟨.slice ahs2 s.hs.length khs2, .slice ags2 s.gs.length kgs2, .slice afs2 s.fs.length kfs2, .slice acs2 s.cs.length kcs2, qh2, qg2⟩) := hx2
    clear hx2 hb
    clear HL1 r0 r1 r2 r3 r4 r5 r6 r7 rl
    go_wp2_with fail
    refine Calls.mono (HSP.out _ _ _ _ _ _ _ _ _ _ _ HX2.out) ?_
    rintro e u3 ⟨rfl, hb⟩
    have HL3 : Hid (LG w u3 b0 #[.slice ahs s.hs.length khs, .slice ags s.gs.length kgs, .slice afs s.fs.length kfs, .int .i64 s.pub, .int .i64 s.fst, .int .i64 s.lst, .slice acs s.cs.length kcs, .int .i64 s.time] 27) := HL2.out.step hb
    clear hb HL2 HX2
    have r0 := HL3.out.cel 0 _ rfl
    have r1 := HL3.out.cel 1 _ rfl
    have r2 := HL3.out.cel 2 _ rfl
    have r3 := HL3.out.cel 3 _ rfl
    have r4 := HL3.out.cel 4 _ rfl
    have r5 := HL3.out.cel 5 _ rfl
    have r6 := HL3.out.cel 6 _ rfl
    have r7 := HL3.out.cel 7 _ rfl
    have rl := HL3.out.lt
    go_wp2_with fail
    refine Calls.mono (HTO.out _ HL3.out.aft) ?_
    rintro e u4 ⟨ahs4, khs4, ags4, kgs4, afs4, kfs4, acs4, kcs4, qh4, qg4, rfl, hx4, hb⟩
    have HL4 : Hid (LG w u4 b0 #[.slice ahs s.hs.length khs, .slice ags s.gs.length kgs, .slice afs s.fs.length kfs, .int .i64 s.pub, .int .i64 s.fst, .int .i64 s.lst, .slice acs s.cs.length kcs, .int .i64 s.time] 27) := HL3.out.step hb
    have HX4 : Hid (FIRows u4 s ⟨.slice ahs4 s.hs.length khs4, .slice ags4 s.gs.length kgs4, .slice afs4 s.fs.length kfs4, .slice acs4 s.cs.length kcs4, qh4, qg4⟩) := hx4
    clear hx4 hb
    clear HL3 r0 r1 r2 r3 r4 r5 r6 r7 rl
    have HX5 : Hid (FIRows (u4.alloc (.cells #[.slice ahs4 s.hs.length khs4, .slice ags4 s.gs.length kgs4, .slice afs4 s.fs.length kfs4, .int .i64 s.pub, .int .i64 s.fst, .int .i64 s.lst, .slice acs4 s.cs.length kcs4, .int .i64 s.time] 35)) s ⟨.slice ahs4 s.hs.length khs4, .slice ags4 s.gs.length kgs4, .slice afs4 s.fs.length kfs4, .slice acs4 s.cs.length kcs4, qh4, qg4⟩) := HX4.out.below (bx1 _ _)
    have HL5 : Hid (LG w (u4.alloc (.cells #[.slice ahs4 s.hs.length khs4, .slice ags4 s.gs.length kgs4, .slice afs4 s.fs.length kfs4, .int .i64 s.pub, .int .i64 s.fst, .int .i64 s.lst, .slice acs4 s.cs.length kcs4, .int .i64 s.time] 35)) b0 #[.slice ahs s.hs.length khs, .slice ags s.gs.length kgs, .slice afs s.fs.length kfs, .int .i64 s.pub, .int .i64 s.fst, .int .i64 s.lst, .slice acs s.cs.length kcs, .int .i64 s.time] 27) := HL4.out.step (bx1 _ _)
    have HW5 : Hid (LG w (u4.alloc (.cells #[.slice ahs4 s.hs.length khs4, .slice ags4 s.gs.length kgs4, .slice afs4 s.fs.length kfs4, .int .i64 s.pub, .int .i64 s.fst, .int .i64 s.lst, .slice acs4 s.cs.length kcs4, .int .i64 s.time] 35)) u4.heap.size #[.slice ahs4 s.hs.length khs4, .slice ags4 s.gs.length kgs4, .slice afs4 s.fs.length kfs4, .int .i64 s.pub, .int .i64 s.fst, .int .i64 s.lst, .slice acs4 s.cs.length kcs4, .int .i64 s.time] 35) := ⟨HL5.out.bel, heap_new _ _, HL4.out.bel.size⟩
    clear HX4 HL4
    go_upto_region 7 with fail
    generalize (u4.alloc (.cells #[.slice ahs4 s.hs.length khs4, .slice ags4 s.gs.length kgs4, .slice afs4 s.fs.length kfs4, .int .i64 s.pub, .int .i64 s.fst, .int .i64 s.lst, .slice acs4 s.cs.length kcs4, .int .i64 s.time] 35)) = u5 at *
    generalize u4.heap.size = b5 at *
    have r0 := HW5.out.cel 0 _ rfl
    have r1 := HW5.out.cel 1 _ rfl
    have r2 := HW5.out.cel 2 _ rfl
    have r3 := HW5.out.cel 3 _ rfl
    have r4 := HW5.out.cel 4 _ rfl
    have r5 := HW5.out.cel 5 _ rfl
    have r6 := HW5.out.cel 6 _ rfl
    have r7 := HW5.out.cel 7 _ rfl
    have rl := HW5.out.lt
    go_wp2_with fail
    refine Calls.mono (HIM.out _ _ _ _ _ _ _ _ _ _ _ HX5.out) ?_
    rintro e u6 ⟨rfl, hb⟩
    have HX6 : Hid (FIRows u6 s ⟨.slice ahs4 s.hs.length khs4, .slice ags4 s.gs.length kgs4, .slice afs4 s.fs.length kfs4, .slice acs4 s.cs.length kcs4, qh4, qg4⟩) := HX5.out.below hb
    have HL6 : Hid (LG w u6 b0 #[.slice ahs s.hs.length khs, .slice ags s.gs.length kgs, .slice afs s.fs.length kfs, .int .i64 s.pub, .int .i64 s.fst, .int .i64 s.lst, .slice acs s.cs.length kcs, .int .i64 s.time] 27) := HL5.out.step hb
    have HW6 : Hid (LG w u6 b5 #[.slice ahs4 s.hs.length khs4, .slice ags4 s.gs.length kgs4, .slice afs4 s.fs.length kfs4, .int .i64 s.pub, .int .i64 s.fst, .int .i64 s.lst, .slice acs4 s.cs.length kcs4, .int .i64 s.time] 35) := HW5.out.step hb
    clear hb HX5 HL5 HW5 r0 r1 r2 r3 r4 r5 r6 r7 rl
    go_upto_region 10 with fail
    refine wp_region_held (S := fun w9 => LG w w9 b0 #[.slice ahs s.hs.length khs, .slice ags s.gs.length kgs, .slice afs s.fs.length kfs, .int .i64 s.pub, .int .i64 s.fst, .int .i64 s.lst, .slice acs s.cs.length kcs, .int .i64 s.time] 27 ∧ LG w w9 b5 #[.slice ahs4 s.hs.length khs4, .slice ags4 s.gs.length kgs4, .slice afs4 s.fs.length kfs4, .int .i64 s.pub, .int .i64 s.fst, .int .i64 s.lst, .slice acs4 s.cs.length kcs4, .int .i64 s.time] 35) (by kernel_rfl) ?_
    change wpAnyH _ _ _ _ _ _ _ _ (World.drew _)
    have HS0 : Hid (LG w u6.drew b0 #[.slice ahs s.hs.length khs, .slice ags s.gs.length kgs, .slice afs s.fs.length kfs, .int .i64 s.pub, .int .i64 s.fst, .int .i64 s.lst, .slice acs s.cs.length kcs, .int .i64 s.time] 27 ∧ LG w u6.drew b5 #[.slice ahs4 s.hs.length khs4, .slice ags4 s.gs.length kgs4, .slice afs4 s.fs.length kfs4, .int .i64 s.pub, .int .i64 s.fst, .int .i64 s.lst, .slice acs4 s.cs.length kcs4, .int .i64 s.time] 35) := ⟨HL6.out.drew, HW6.out.drew⟩
    have HX7 : Hid (FIRows u6.drew s ⟨.slice ahs4 s.hs.length khs4, .slice ags4 s.gs.length kgs4, .slice afs4 s.fs.length kfs4, .slice acs4 s.cs.length kcs4, qh4, qg4⟩) := HX6.out.below (Below.refl _ _).drew
    generalize u6.drew = u7 at *
    clear HX6 HL6 HW6
    refine wpAnyH_take (i := 0) (v := .agg #[.slice ahs4 s.hs.length khs4, .slice ags4 s.gs.length kgs4, .slice afs4 s.fs.length kfs4, .int .i64 s.pub, .int .i64 s.fst, .int .i64 s.lst, .slice acs4 s.cs.length kcs4, .int .i64 s.time]) rfl (by kernel_rfl) (by kernel_rfl) (by kernel_rfl) (fun _ _ _ h => h) (Or.inl ⟨by kernel_rfl, fun w9 h9 => ?_⟩) HS0.out ?_
    · have y0 := h9.2.cel 0 _ rfl; have y1 := h9.2.cel 1 _ rfl; have y2 := h9.2.cel 2 _ rfl; have y3 := h9.2.cel 3 _ rfl; have y4 := h9.2.cel 4 _ rfl; have y5 := h9.2.cel 5 _ rfl; have y6 := h9.2.cel 6 _ rfl; have y7 := h9.2.cel 7 _ rfl; have yl := h9.2.lt; clear h9; go_simp
    refine wpAnyH_take (i := 1) (v := .agg #[.slice ahs s.hs.length khs, .slice ags s.gs.length kgs, .slice afs s.fs.length kfs, .int .i64 s.pub, .int .i64 s.fst, .int .i64 s.lst, .slice acs s.cs.length kcs, .int .i64 s.time]) rfl (by kernel_rfl) (by kernel_rfl) (by kernel_rfl) (fun _ _ _ h => h) (Or.inl ⟨by kernel_rfl, fun w9 h9 => ?_⟩) HS0.out ?_
    · have y0 := h9.1.cel 0 _ rfl; have y1 := h9.1.cel 1 _ rfl; have y2 := h9.1.cel 2 _ rfl; have y3 := h9.1.cel 3 _ rfl; have y4 := h9.1.cel 4 _ rfl; have y5 := h9.1.cel 5 _ rfl; have y6 := h9.1.cel 6 _ rfl; have y7 := h9.1.cel 7 _ rfl; have yl := h9.1.lt; clear h9; go_simp
    refine held_one 2 (by kernel_rfl) rfl (by kernel_rfl) fun K hK => ?_
    go_simp
    go_wp2_with fail
    refine Calls.mono (HTO.out _ HS0.out.1.aft) ?_
    rintro e u8 ⟨ahs8, khs8, ags8, kgs8, afs8, kfs8, acs8, kcs8, qh8, qg8, rfl, hx8, hb⟩
    have HX8 : Hid (FIRows u8 s ⟨.slice ahs8 s.hs.length khs8, .slice ags8 s.gs.length kgs8, .slice afs8 s.fs.length kfs8, .slice acs8 s.cs.length kcs8, qh8, qg8⟩) := hx8
    have HX9 : Hid (FIRows u8 s ⟨.slice ahs4 s.hs.length khs4, .slice ags4 s.gs.length kgs4, .slice afs4 s.fs.length kfs4, .slice acs4 s.cs.length kcs4, qh4, qg4⟩) := HX7.out.below hb
    have HS8 : Hid (LG w u8 b0 #[.slice ahs s.hs.length khs, .slice ags s.gs.length kgs, .slice afs s.fs.length kfs, .int .i64 s.pub, .int .i64 s.fst, .int .i64 s.lst, .slice acs s.cs.length kcs, .int .i64 s.time] 27 ∧ LG w u8 b5 #[.slice ahs4 s.hs.length khs4, .slice ags4 s.gs.length kgs4, .slice afs4 s.fs.length kfs4, .int .i64 s.pub, .int .i64 s.fst, .int .i64 s.lst, .slice acs4 s.cs.length kcs4, .int .i64 s.time] 35) := ⟨HS0.out.1.step hb, HS0.out.2.step hb⟩
    clear hx8 hb HS0 HX7
    refine hK _ _ HS8.out ?_
    clear hK K
    refine held_one 3 (by kernel_rfl) rfl (by kernel_rfl) fun K hK => ?_
    go_simp
    go_wp2_with fail
    refine Calls.mono (HEQ.out _ _ _ _ _ _ _ _ _ _ _ _ _ _ _ _ _ _ _ _ _ HX9.out HX8.out) ?_
    rintro e u9 ⟨rfl, hb⟩
    have HS9 : Hid (LG w u9 b0 #[.slice ahs s.hs.length khs, .slice ags s.gs.length kgs, .slice afs s.fs.length kfs, .int .i64 s.pub, .int .i64 s.fst, .int .i64 s.lst, .slice acs s.cs.length kcs, .int .i64 s.time] 27 ∧ LG w u9 b5 #[.slice ahs4 s.hs.length khs4, .slice ags4 s.gs.length kgs4, .slice afs4 s.fs.length kfs4, .int .i64 s.pub, .int .i64 s.fst, .int .i64 s.lst, .slice acs4 s.cs.length kcs4, .int .i64 s.time] 35) := ⟨HS8.out.1.step hb, HS8.out.2.step hb⟩
    clear hb HS8
    refine hK _ _ HS9.out ?_
    clear hK K
    refine wpAnyH_take (i := 4) (v := .bool false) rfl (by kernel_rfl) (by kernel_rfl) (by kernel_rfl) (fun _ _ _ h => h) (Or.inl ⟨by kernel_rfl, fun w9 h9 => ?_⟩) HS9.out ?_
    · clear h9; go_simp
    refine wpAnyH_done (by kernel_rfl) ?_ _
    go_simp
    go_wp2
    go_ret
    exact ⟨rfl, HS9.out.1.bel⟩
  · go_wp2
    go_ret
    exact ⟨rfl, HL1.out.bel⟩
end Go.Proofs.Ytpggbbdfbnocfaa
