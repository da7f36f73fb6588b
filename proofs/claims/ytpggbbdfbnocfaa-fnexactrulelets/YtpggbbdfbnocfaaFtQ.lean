import Derived.Test.YtpggbbdfbnocfaaFrB
import Derived.Test.YtpggbbdfbnocfaaFpY
import Derived.Test.YtpggbbdfbnocfaaHl
import Derived.BigRegion
import Derived.BigQuiet
import Derived.Test.YtpggbbdfbnocfaaFkZ
import Derived.Test.YtpggbbdfbnocfaaFsA
namespace Go.Proofs.Ytpggbbdfbnocfaa
open Go.ChangeShapes Go.WideShapes Go.ChangeAt Go.RowKit

set_option maxRecDepth 100000 in
set_option maxHeartbeats 8000000 in
theorem specFF_any {w : World} {s : FI} {a : FA} (h : FIRows w s a) (hl : FIlen s) : Calls Try.prog 6 #[flA s a] w fun r w' => r = .returned (.int .i64 (ssV s)) ∧ Below w.heap.size w w' := by
  have HRW : Hid (FIRows w s a) := h
  have hlh := hl.lhs.len
  have hlf := hl.lfs
  have hlc := hl.lcs
  have HHS : Hid (∀ u, Aft w u → Calls Try.prog 19 #[flA s a] u fun e w' => e = .returned (.bool (hsS s)) ∧ Below u.heap.size u w') := fun u hu => hostsS_any (HRW.out.below hu.out) hl
  have HH0 : Hid (∀ x u, Aft w u → Calls Try.prog 22 #[flA s a, .int .i64 x] u fun e w' => e = .returned (.int .i64 (hAt (s.hs.map (·.addr)) x)) ∧ Below u.heap.size u w') := fun x u hu => hostS_any (HRW.out.below hu.out) hlh x
  have HSD : Hid (∀ c u, Aft w u → Calls Try.prog 24 #[flA s a, cnA c] u fun e w' => e = .returned (.bool (sdB s c)) ∧ Below u.heap.size u w') := fun c u hu => sidesS_any (HRW.out.below hu.out) hlh c
  have HOU : Hid (∀ c u, Aft w u → Calls Try.prog 25 #[flA s a, cnA c] u fun e w' => e = .returned (.tuple #[.int .i64 (ouP s c).1, .int .i64 (ouP s c).2]) ∧ Below u.heap.size u w') := fun c u hu => outS_any (HRW.out.below hu.out) hlh c
  have HX0 : Hid (FX (w.alloc (.cells (flC s a) 35)) w.heap.size s a) := ⟨heap_new _ _, h.below (bx1 _ _)⟩
  have HB0 : Hid (Aft w (w.alloc (.cells (flC s a) 35))) := ⟨bx1 _ _⟩
  obtain ⟨ahs, khs, e1⟩ := h.rhs.sl
  obtain ⟨ags, kgs, e2⟩ := h.rgs.sl
  obtain ⟨afs, kfs, e3⟩ := h.rfs.sl
  obtain ⟨acs, kcs, e4⟩ := h.rcs.sl
  rw [h.nhs.len] at e1
  rw [h.ngs.len] at e2
  have hfc : flC s a = #[.slice ahs s.hs.length khs, .slice ags s.gs.length kgs, .slice afs s.fs.length kfs, .int .i64 s.pub, .int .i64 s.fst, .int .i64 s.lst, .slice acs s.cs.length kcs, .int .i64 s.time] := by unfold flC; rw [e1, e2, e3, e4]
  have HR : Hid (FWrow w (.slice afs s.fs.length kfs) s.fs) := (show FWrow w _ s.fs by rw [← e3]; exact h.rfs)
  have GR : Hid (CNrow w (.slice acs s.cs.length kcs) s.cs) := (show CNrow w _ s.cs by rw [← e4]; exact h.rcs)
  have E1 : Hid (a.vhs = .slice ahs s.hs.length khs) := e1
  have E2 : Hid (a.vgs = .slice ags s.gs.length kgs) := e2
  have E3 : Hid (a.vfs = .slice afs s.fs.length kfs) := e3
  have E4 : Hid (a.vcs = .slice acs s.cs.length kcs) := e4
  clear h HRW hl e1 e2 e3 e4
  unfold flA at HH0 HHS HSD HOU ⊢
  rw [hfc] at HX0 HB0 HH0 HHS HSD HOU ⊢
  unfold cnA at HSD HOU
  clear hfc
  have E : Hid (ssB s = (!hdB s && (allB (sf s) s.fs.length && allB (sx s) s.cs.length))) := rfl
  have ED : Hid (hdB s = (!isW s.pub || s.pub == 0 || !hsS s || decide (10 < (s.fs.length : Int)) || decide (s.fst < 1024) || decide (65535 < s.lst) || decide (s.lst < s.fst) || decide (24 < (s.cs.length : Int)) || decide (s.time < 0) || decide (1099511627776 < s.time))) := rfl
  cases g0 : isW s.pub
  · rw [g0] at ED
    as_aux_lemma =>
      go_enter Try.func6, Try.ntmps6
      go_upto_region 1 with fail
      generalize (w.alloc (.cells #[.slice ahs s.hs.length khs, .slice ags s.gs.length kgs, .slice afs s.fs.length kfs, .int .i64 s.pub, .int .i64 s.fst, .int .i64 s.lst, .slice acs s.cs.length kcs, .int .i64 s.time] 35)) = u0 at *
      generalize w.heap.size = b0 at *
      have x0 := HX0.out.c0
      have x1 := HX0.out.c1
      have x2 := HX0.out.c2
      have x3 := HX0.out.c3
      have x4 := HX0.out.c4
      have x5 := HX0.out.c5
      have x6 := HX0.out.c6
      have x7 := HX0.out.c7
      rw [E1.out] at x0
      rw [E2.out] at x1
      rw [E3.out] at x2
      rw [E4.out] at x6
      have xl := HX0.out.lt
      go_wp2_with (first | (go_at_call 18; refine Calls.mono (specIsWord_any _ _) ?_; rintro e v2 ⟨rfl, hw1⟩; rw [hw1]; clear hw1) | (go_at_call 19; refine Calls.mono (HHS.out _ HB0.out) ?_; rintro e u1 ⟨rfl, hu⟩; have HB1 : Hid (Aft w u1) := ⟨HB0.out.out.trans (hu.mono HB0.out.out.size)⟩; have HX1 : Hid (FX u1 b0 s a) := HX0.out.below hu; clear hu x0 x1 x2 x3 x4 x5 x6 x7 xl; have x2 := HX1.out.c2; have x4 := HX1.out.c4; have x5 := HX1.out.c5; have x6 := HX1.out.c6; have x7 := HX1.out.c7; rw [E3.out] at x2; rw [E4.out] at x6; have xl := HX1.out.lt))
      go_ret
      exact ⟨ret_int (by unfold ssV; rw [E.out, ED.out]; simp), HB0.out.out⟩
  · rw [g0] at ED
    cases g1 : (s.pub == 0)
    · rw [g1] at ED
      cases g2 : hsS s
      · rw [g2] at ED HHS
        as_aux_lemma =>
          go_enter Try.func6, Try.ntmps6
          go_upto_region 1 with fail
          generalize (w.alloc (.cells #[.slice ahs s.hs.length khs, .slice ags s.gs.length kgs, .slice afs s.fs.length kfs, .int .i64 s.pub, .int .i64 s.fst, .int .i64 s.lst, .slice acs s.cs.length kcs, .int .i64 s.time] 35)) = u0 at *
          generalize w.heap.size = b0 at *
          have x0 := HX0.out.c0
          have x1 := HX0.out.c1
          have x2 := HX0.out.c2
          have x3 := HX0.out.c3
          have x4 := HX0.out.c4
          have x5 := HX0.out.c5
          have x6 := HX0.out.c6
          have x7 := HX0.out.c7
          rw [E1.out] at x0
          rw [E2.out] at x1
          rw [E3.out] at x2
          rw [E4.out] at x6
          have xl := HX0.out.lt
          go_wp2_with (first | (go_at_call 18; refine Calls.mono (specIsWord_any _ _) ?_; rintro e v2 ⟨rfl, hw1⟩; rw [hw1]; clear hw1) | (go_at_call 19; refine Calls.mono (HHS.out _ HB0.out) ?_; rintro e u1 ⟨rfl, hu⟩; have HB1 : Hid (Aft w u1) := ⟨HB0.out.out.trans (hu.mono HB0.out.out.size)⟩; have HX1 : Hid (FX u1 b0 s a) := HX0.out.below hu; clear hu x0 x1 x2 x3 x4 x5 x6 x7 xl; have x2 := HX1.out.c2; have x4 := HX1.out.c4; have x5 := HX1.out.c5; have x6 := HX1.out.c6; have x7 := HX1.out.c7; rw [E3.out] at x2; rw [E4.out] at x6; have xl := HX1.out.lt))
          go_ret
          exact ⟨ret_int (by unfold ssV; rw [E.out, ED.out]; simp), HB1.out.out⟩
      · rw [g2] at ED HHS
        cases g3 : decide (10 < (s.fs.length : Int))
        · rw [g3] at ED
          cases g4 : decide (s.fst < 1024)
          · rw [g4] at ED
            cases g5 : decide (65535 < s.lst)
            · rw [g5] at ED
              cases g6 : decide (s.lst < s.fst)
              · rw [g6] at ED
                cases g7 : decide (24 < (s.cs.length : Int))
                · rw [g7] at ED
                  cases g8 : decide (s.time < 0)
                  · rw [g8] at ED
                    cases g9 : decide (1099511627776 < s.time)
                    · rw [g9] at ED
                      go_enter Try.func6, Try.ntmps6
                      go_upto_region 1 with fail
                      generalize (w.alloc (.cells #[.slice ahs s.hs.length khs, .slice ags s.gs.length kgs, .slice afs s.fs.length kfs, .int .i64 s.pub, .int .i64 s.fst, .int .i64 s.lst, .slice acs s.cs.length kcs, .int .i64 s.time] 35)) = u0 at *
                      generalize w.heap.size = b0 at *
                      have x0 := HX0.out.c0
                      have x1 := HX0.out.c1
                      have x2 := HX0.out.c2
                      have x3 := HX0.out.c3
                      have x4 := HX0.out.c4
                      have x5 := HX0.out.c5
                      have x6 := HX0.out.c6
                      have x7 := HX0.out.c7
                      rw [E1.out] at x0
                      rw [E2.out] at x1
                      rw [E3.out] at x2
                      rw [E4.out] at x6
                      have xl := HX0.out.lt
                      go_wp2_with (first | (go_at_call 18; refine Calls.mono (specIsWord_any _ _) ?_; rintro e v2 ⟨rfl, hw1⟩; rw [hw1]; clear hw1) | (go_at_call 19; refine Calls.mono (HHS.out _ HB0.out) ?_; rintro e u1 ⟨rfl, hu⟩; have HB1 : Hid (Aft w u1) := ⟨HB0.out.out.trans (hu.mono HB0.out.out.size)⟩; have HX1 : Hid (FX u1 b0 s a) := HX0.out.below hu; clear hu x0 x1 x2 x3 x4 x5 x6 x7 xl; have x2 := HX1.out.c2; have x4 := HX1.out.c4; have x5 := HX1.out.c5; have x6 := HX1.out.c6; have x7 := HX1.out.c7; rw [E3.out] at x2; rw [E4.out] at x6; have xl := HX1.out.lt))
                      clear x2 x4 x5 x6 x7 xl
                      have HD : Hid (hdB s = false) := (show hdB s = false by rw [ED.out]; rfl)
                      clear ED HX0 HB0
                      go_loopw [3] (fun i wr => ∃ k : Nat, k ≤ s.fs.length ∧ i = .int .i64 k ∧ allB (sf s) k = true ∧ Below w.heap.size w wr ∧ FX wr b0 s a) (fun i _ => s.fs.length - (intOf i).toNat)
                      case atStart => exact ⟨0, Nat.zero_le _, rfl, rfl, HB1.out.out, HX1.out⟩
                      case round =>
                        obtain ⟨k, hk0, rfl, hok, hb, hx⟩ := hrel
                        have HOK : Hid (allB (sf s) k = true) := hok
                        have HB : Hid (Below w.heap.size w wr) := hb
                        have HX : Hid (FX wr b0 s a) := hx
                        clear hok hx HX1 HB1
                        have x0 := HX.out.c0
                        have x1 := HX.out.c1
                        have x2 := HX.out.c2
                        have x3 := HX.out.c3
                        have x4 := HX.out.c4
                        have x5 := HX.out.c5
                        have x6 := HX.out.c6
                        have x7 := HX.out.c7
                        rw [E1.out] at x0
                        rw [E2.out] at x1
                        rw [E3.out] at x2
                        rw [E4.out] at x6
                        have xl := HX.out.lt
                        by_cases hlt : k < s.fs.length
                        · obtain ⟨g, o, cap2, hv, _, hg, hc⟩ := HR.out.resolve_left (fun h => by rw [h.1] at hlt; simp at hlt)
                          injection hv with hv1 hv2 hv3
                          subst hv1 hv3
                          obtain ⟨d0, d1, d2, d3⟩ := hc.below hb hg k hlt
                          have hgw : g < wr.heap.size := Nat.lt_of_lt_of_le hg hb.size
                          have HT : Hid (sf s k = (!(!prB s.fs[k].proto || decide (s.fs[k].port < 1) || !poB s.fs[k].port || decide (s.fs[k].tp < 1) || !poB s.fs[k].tp || decide (hAt (s.hs.map (·.addr)) s.fs[k].addr < 0)) && allB (fq s.fs s.fs[k]) k)) := (show sf s k = _ by unfold sf; rw [gdf hlt]; rfl)
                          have hk1 : (0 : Int) ≤ (k : Int) := by omega
                          have hk2 : (k : Int) < (s.fs.length : Int) := by omega
                          have HH : Hid _ := HH0.out s.fs[k].addr
                          generalize s.fs[k] = z at *
                          have HL1 : Hid (LG w (wr.alloc (.cells #[.int .i64 z.proto, .int .i64 z.port, .int .i64 z.addr, .int .i64 z.tp] 56)) wr.heap.size #[.int .i64 z.proto, .int .i64 z.port, .int .i64 z.addr, .int .i64 z.tp] 56) := ⟨hb.trans ((bx1 _ _).mono hb.size), heap_new _ _, hb.size⟩
                          have HXN : Hid (FX (wr.alloc (.cells #[.int .i64 z.proto, .int .i64 z.port, .int .i64 z.addr, .int .i64 z.tp] 56)) b0 s a) := HX.out.below (bx1 _ _)
                          generalize hAt (s.hs.map (·.addr)) z.addr = X at *
                          clear hb hv2
                          go_upto_region 7 with fail
                          generalize (wr.alloc (.cells #[.int .i64 z.proto, .int .i64 z.port, .int .i64 z.addr, .int .i64 z.tp] 56)) = v1 at *
                          generalize wr.heap.size = bn at *
                          clear d0 d1 d2 d3 hgw hk1 hk2
                          clear x0 x1 x2 x3 x4 x5 x6 x7 xl
                          cases h1 : prB z.proto
                          · rw [h1] at HT
                            as_aux_lemma =>
                              have HBD : Hid (ssB s = false) := (show ssB s = false by rw [E.out, allB_bad hlt (HT.out.trans (by simp))]; simp)
                              have k0 := HL1.out.cel 0 _ rfl
                              have k1 := HL1.out.cel 1 _ rfl
                              have k2 := HL1.out.cel 2 _ rfl
                              have k3 := HL1.out.cel 3 _ rfl
                              have kl := HL1.out.lt
                              have x0 := HXN.out.c0
                              have x1 := HXN.out.c1
                              have x2 := HXN.out.c2
                              have x3 := HXN.out.c3
                              have x4 := HXN.out.c4
                              have x5 := HXN.out.c5
                              have x6 := HXN.out.c6
                              have x7 := HXN.out.c7
                              rw [E1.out] at x0
                              rw [E2.out] at x1
                              rw [E3.out] at x2
                              rw [E4.out] at x6
                              have xl := HXN.out.lt
                              go_wp2_with (first | (go_at_call 20; refine Calls.mono (protoS_any _ _) ?_; rintro e v2 ⟨rfl, hw1⟩; rw [hw1]; clear hw1) | (go_at_call 21; refine Calls.mono (portS_any _ _) ?_; rintro e v2 ⟨rfl, hw1⟩; rw [hw1]; clear hw1) | (go_at_call 22; refine Calls.mono (HH.out _ HL1.out.aft) ?_; rintro e u2 ⟨rfl, hu⟩; have HL2 : Hid (LG w u2 bn #[.int .i64 z.proto, .int .i64 z.port, .int .i64 z.addr, .int .i64 z.tp] 56) := HL1.out.step hu; have HX2 : Hid (FX u2 b0 s a) := HXN.out.below hu; clear hu k0 k1 k2 k3 kl x0 x1 x2 x3 x4 x5 x6 x7 xl))
                              go_ret
                              exact ⟨ret_int (by unfold ssV; rw [HBD.out]; rfl), HL1.out.bel⟩
                          · rw [h1] at HT
                            cases h2 : decide (z.port < 1)
                            · rw [h2] at HT
                              cases h3 : poB z.port
                              · rw [h3] at HT
                                as_aux_lemma =>
                                  have HBD : Hid (ssB s = false) := (show ssB s = false by rw [E.out, allB_bad hlt (HT.out.trans (by simp))]; simp)
                                  have k0 := HL1.out.cel 0 _ rfl
                                  have k1 := HL1.out.cel 1 _ rfl
                                  have k2 := HL1.out.cel 2 _ rfl
                                  have k3 := HL1.out.cel 3 _ rfl
                                  have kl := HL1.out.lt
                                  have x0 := HXN.out.c0
                                  have x1 := HXN.out.c1
                                  have x2 := HXN.out.c2
                                  have x3 := HXN.out.c3
                                  have x4 := HXN.out.c4
                                  have x5 := HXN.out.c5
                                  have x6 := HXN.out.c6
                                  have x7 := HXN.out.c7
                                  rw [E1.out] at x0
                                  rw [E2.out] at x1
                                  rw [E3.out] at x2
                                  rw [E4.out] at x6
                                  have xl := HXN.out.lt
                                  go_wp2_with (first | (go_at_call 20; refine Calls.mono (protoS_any _ _) ?_; rintro e v2 ⟨rfl, hw1⟩; rw [hw1]; clear hw1) | (go_at_call 21; refine Calls.mono (portS_any _ _) ?_; rintro e v2 ⟨rfl, hw1⟩; rw [hw1]; clear hw1) | (go_at_call 22; refine Calls.mono (HH.out _ HL1.out.aft) ?_; rintro e u2 ⟨rfl, hu⟩; have HL2 : Hid (LG w u2 bn #[.int .i64 z.proto, .int .i64 z.port, .int .i64 z.addr, .int .i64 z.tp] 56) := HL1.out.step hu; have HX2 : Hid (FX u2 b0 s a) := HXN.out.below hu; clear hu k0 k1 k2 k3 kl x0 x1 x2 x3 x4 x5 x6 x7 xl))
                                  go_ret
                                  exact ⟨ret_int (by unfold ssV; rw [HBD.out]; rfl), HL1.out.bel⟩
                              · rw [h3] at HT
                                cases h4 : decide (z.tp < 1)
                                · rw [h4] at HT
                                  cases h5 : poB z.tp
                                  · rw [h5] at HT
                                    as_aux_lemma =>
                                      have HBD : Hid (ssB s = false) := (show ssB s = false by rw [E.out, allB_bad hlt (HT.out.trans (by simp))]; simp)
                                      have k0 := HL1.out.cel 0 _ rfl
                                      have k1 := HL1.out.cel 1 _ rfl
                                      have k2 := HL1.out.cel 2 _ rfl
                                      have k3 := HL1.out.cel 3 _ rfl
                                      have kl := HL1.out.lt
                                      have x0 := HXN.out.c0
                                      have x1 := HXN.out.c1
                                      have x2 := HXN.out.c2
                                      have x3 := HXN.out.c3
                                      have x4 := HXN.out.c4
                                      have x5 := HXN.out.c5
                                      have x6 := HXN.out.c6
                                      have x7 := HXN.out.c7
                                      rw [E1.out] at x0
                                      rw [E2.out] at x1
                                      rw [E3.out] at x2
                                      rw [E4.out] at x6
                                      have xl := HXN.out.lt
                                      go_wp2_with (first | (go_at_call 20; refine Calls.mono (protoS_any _ _) ?_; rintro e v2 ⟨rfl, hw1⟩; rw [hw1]; clear hw1) | (go_at_call 21; refine Calls.mono (portS_any _ _) ?_; rintro e v2 ⟨rfl, hw1⟩; rw [hw1]; clear hw1) | (go_at_call 22; refine Calls.mono (HH.out _ HL1.out.aft) ?_; rintro e u2 ⟨rfl, hu⟩; have HL2 : Hid (LG w u2 bn #[.int .i64 z.proto, .int .i64 z.port, .int .i64 z.addr, .int .i64 z.tp] 56) := HL1.out.step hu; have HX2 : Hid (FX u2 b0 s a) := HXN.out.below hu; clear hu k0 k1 k2 k3 kl x0 x1 x2 x3 x4 x5 x6 x7 xl))
                                      go_ret
                                      exact ⟨ret_int (by unfold ssV; rw [HBD.out]; rfl), HL1.out.bel⟩
                                  · rw [h5] at HT
                                    cases h6 : decide (X < 0)
                                    · rw [h6] at HT
                                      as_aux_lemma =>
                                        have k0 := HL1.out.cel 0 _ rfl
                                        have k1 := HL1.out.cel 1 _ rfl
                                        have k2 := HL1.out.cel 2 _ rfl
                                        have k3 := HL1.out.cel 3 _ rfl
                                        have kl := HL1.out.lt
                                        have x0 := HXN.out.c0
                                        have x1 := HXN.out.c1
                                        have x2 := HXN.out.c2
                                        have x3 := HXN.out.c3
                                        have x4 := HXN.out.c4
                                        have x5 := HXN.out.c5
                                        have x6 := HXN.out.c6
                                        have x7 := HXN.out.c7
                                        rw [E1.out] at x0
                                        rw [E2.out] at x1
                                        rw [E3.out] at x2
                                        rw [E4.out] at x6
                                        have xl := HXN.out.lt
                                        go_wp2_with (first | (go_at_call 20; refine Calls.mono (protoS_any _ _) ?_; rintro e v2 ⟨rfl, hw1⟩; rw [hw1]; clear hw1) | (go_at_call 21; refine Calls.mono (portS_any _ _) ?_; rintro e v2 ⟨rfl, hw1⟩; rw [hw1]; clear hw1) | (go_at_call 22; refine Calls.mono (HH.out _ HL1.out.aft) ?_; rintro e u2 ⟨rfl, hu⟩; have HL2 : Hid (LG w u2 bn #[.int .i64 z.proto, .int .i64 z.port, .int .i64 z.addr, .int .i64 z.tp] 56) := HL1.out.step hu; have HX2 : Hid (FX u2 b0 s a) := HXN.out.below hu; clear hu k0 k1 k2 k3 kl x0 x1 x2 x3 x4 x5 x6 x7 xl))
                                        go_loopw [5] (fun j w5 => ∃ q : Nat, q ≤ k ∧ j = .int .i64 q ∧ allB (fq s.fs z) q = true ∧ LG w w5 bn #[.int .i64 z.proto, .int .i64 z.port, .int .i64 z.addr, .int .i64 z.tp] 56 ∧ FX w5 b0 s a) (fun j _ => k - (intOf j).toNat)
                                        case atStart => exact ⟨0, Nat.zero_le _, rfl, rfl, HL2.out, HX2.out⟩
                                        case round =>
                                          obtain ⟨q, hq0, rfl, hqk, hL, hX⟩ := hrel
                                          have HQK : Hid (allB (fq s.fs z) q = true) := hqk
                                          have HL4 : Hid (LG w wr bn #[.int .i64 z.proto, .int .i64 z.port, .int .i64 z.addr, .int .i64 z.tp] 56) := hL
                                          have HX4 : Hid (FX wr b0 s a) := hX
                                          clear hqk hL hX HL1 HXN HL2 HX2
                                          have k0 := HL4.out.cel 0 _ rfl
                                          have k1 := HL4.out.cel 1 _ rfl
                                          have kl := HL4.out.lt
                                          have x2 := HX4.out.c2
                                          rw [E3.out] at x2
                                          have xl := HX4.out.lt
                                          by_cases hlq : q < k
                                          · have hqf : q < s.fs.length := by omega
                                            obtain ⟨d0, d1, d2, d3⟩ := hc.below HL4.out.bel hg q hqf
                                            have hgw2 : g < wr.heap.size := Nat.lt_of_lt_of_le hg HL4.out.bel.size
                                            have HGQ : Hid (fq s.fs z q = !(s.fs[q].proto == z.proto && s.fs[q].port == z.port)) := (show fq _ _ _ = _ by unfold fq; rw [gdf hqf])
                                            have hq1 : (0 : Int) ≤ (q : Int) := by omega
                                            have hq2 : (q : Int) < (s.fs.length : Int) := by omega
                                            have hq3 : (q : Int) < (k : Int) := by omega
                                            generalize s.fs[q] = y at *
                                            clear d2 d3
                                            cases h7 : (y.proto == z.proto)
                                            · rw [h7] at HGQ
                                              have HGD : Hid (allB (fq s.fs z) (q + 1) = true) := (show _ = true by rw [allB_succ, HQK.out, HGQ.out]; rfl)
                                              clear hc
                                              go_wp2_with (go_quiet (fail))
                                              exact ⟨⟨q + 1, hlq, by go_num, HGD.out, by first | exact HL4.out | exact HL4.out.drewN _, by first | exact HX4.out | exact HX4.out.drewN _⟩, by simp [intOf]; omega⟩
                                            · cases h8 : (y.port == z.port)
                                              · rw [h7, h8] at HGQ
                                                have HGD : Hid (allB (fq s.fs z) (q + 1) = true) := (show _ = true by rw [allB_succ, HQK.out, HGQ.out]; rfl)
                                                clear hc
                                                go_wp2_with (go_quiet (fail))
                                                exact ⟨⟨q + 1, hlq, by go_num, HGD.out, by first | exact HL4.out | exact HL4.out.drewN _, by first | exact HX4.out | exact HX4.out.drewN _⟩, by simp [intOf]; omega⟩
                                              · rw [h7, h8] at HGQ
                                                have HBD : Hid (ssB s = false) := (show ssB s = false by rw [E.out, allB_bad hlt (HT.out.trans (by rw [allB_bad hlq (HGQ.out.trans rfl)]; simp))]; simp)
                                                clear hc
                                                go_wp2_with (go_quiet (fail))
                                                go_ret
                                                exact ⟨ret_int (by unfold ssV; rw [HBD.out]; rfl), by first | exact HL4.out.bel | exact bdn HL4.out.bel _⟩
                                          · obtain rfl : q = k := by omega
                                            have HGD : Hid (allB (sf s) (q + 1) = true) := (show _ = true by rw [allB_succ, HOK.out, HT.out, HQK.out]; simp)
                                            clear hc
                                            go_wp2
                                            exact ⟨⟨q + 1, hlt, by go_num, HGD.out, HL4.out.bel, HX4.out⟩, by simp [intOf]; omega⟩
                                    · rw [h6] at HT
                                      as_aux_lemma =>
                                        have HBD : Hid (ssB s = false) := (show ssB s = false by rw [E.out, allB_bad hlt (HT.out.trans (by simp))]; simp)
                                        have k0 := HL1.out.cel 0 _ rfl
                                        have k1 := HL1.out.cel 1 _ rfl
                                        have k2 := HL1.out.cel 2 _ rfl
                                        have k3 := HL1.out.cel 3 _ rfl
                                        have kl := HL1.out.lt
                                        have x0 := HXN.out.c0
                                        have x1 := HXN.out.c1
                                        have x2 := HXN.out.c2
                                        have x3 := HXN.out.c3
                                        have x4 := HXN.out.c4
                                        have x5 := HXN.out.c5
                                        have x6 := HXN.out.c6
                                        have x7 := HXN.out.c7
                                        rw [E1.out] at x0
                                        rw [E2.out] at x1
                                        rw [E3.out] at x2
                                        rw [E4.out] at x6
                                        have xl := HXN.out.lt
                                        go_wp2_with (first | (go_at_call 20; refine Calls.mono (protoS_any _ _) ?_; rintro e v2 ⟨rfl, hw1⟩; rw [hw1]; clear hw1) | (go_at_call 21; refine Calls.mono (portS_any _ _) ?_; rintro e v2 ⟨rfl, hw1⟩; rw [hw1]; clear hw1) | (go_at_call 22; refine Calls.mono (HH.out _ HL1.out.aft) ?_; rintro e u2 ⟨rfl, hu⟩; have HL2 : Hid (LG w u2 bn #[.int .i64 z.proto, .int .i64 z.port, .int .i64 z.addr, .int .i64 z.tp] 56) := HL1.out.step hu; have HX2 : Hid (FX u2 b0 s a) := HXN.out.below hu; clear hu k0 k1 k2 k3 kl x0 x1 x2 x3 x4 x5 x6 x7 xl))
                                        go_ret
                                        exact ⟨ret_int (by unfold ssV; rw [HBD.out]; rfl), HL2.out.bel⟩
                                · rw [h4] at HT
                                  as_aux_lemma =>
                                    have HBD : Hid (ssB s = false) := (show ssB s = false by rw [E.out, allB_bad hlt (HT.out.trans (by simp))]; simp)
                                    have k0 := HL1.out.cel 0 _ rfl
                                    have k1 := HL1.out.cel 1 _ rfl
                                    have k2 := HL1.out.cel 2 _ rfl
                                    have k3 := HL1.out.cel 3 _ rfl
                                    have kl := HL1.out.lt
                                    have x0 := HXN.out.c0
                                    have x1 := HXN.out.c1
                                    have x2 := HXN.out.c2
                                    have x3 := HXN.out.c3
                                    have x4 := HXN.out.c4
                                    have x5 := HXN.out.c5
                                    have x6 := HXN.out.c6
                                    have x7 := HXN.out.c7
                                    rw [E1.out] at x0
                                    rw [E2.out] at x1
                                    rw [E3.out] at x2
                                    rw [E4.out] at x6
                                    have xl := HXN.out.lt
                                    go_wp2_with (first | (go_at_call 20; refine Calls.mono (protoS_any _ _) ?_; rintro e v2 ⟨rfl, hw1⟩; rw [hw1]; clear hw1) | (go_at_call 21; refine Calls.mono (portS_any _ _) ?_; rintro e v2 ⟨rfl, hw1⟩; rw [hw1]; clear hw1) | (go_at_call 22; refine Calls.mono (HH.out _ HL1.out.aft) ?_; rintro e u2 ⟨rfl, hu⟩; have HL2 : Hid (LG w u2 bn #[.int .i64 z.proto, .int .i64 z.port, .int .i64 z.addr, .int .i64 z.tp] 56) := HL1.out.step hu; have HX2 : Hid (FX u2 b0 s a) := HXN.out.below hu; clear hu k0 k1 k2 k3 kl x0 x1 x2 x3 x4 x5 x6 x7 xl))
                                    go_ret
                                    exact ⟨ret_int (by unfold ssV; rw [HBD.out]; rfl), HL1.out.bel⟩
                            · rw [h2] at HT
                              as_aux_lemma =>
                                have HBD : Hid (ssB s = false) := (show ssB s = false by rw [E.out, allB_bad hlt (HT.out.trans (by simp))]; simp)
                                have k0 := HL1.out.cel 0 _ rfl
                                have k1 := HL1.out.cel 1 _ rfl
                                have k2 := HL1.out.cel 2 _ rfl
                                have k3 := HL1.out.cel 3 _ rfl
                                have kl := HL1.out.lt
                                have x0 := HXN.out.c0
                                have x1 := HXN.out.c1
                                have x2 := HXN.out.c2
                                have x3 := HXN.out.c3
                                have x4 := HXN.out.c4
                                have x5 := HXN.out.c5
                                have x6 := HXN.out.c6
                                have x7 := HXN.out.c7
                                rw [E1.out] at x0
                                rw [E2.out] at x1
                                rw [E3.out] at x2
                                rw [E4.out] at x6
                                have xl := HXN.out.lt
                                go_wp2_with (first | (go_at_call 20; refine Calls.mono (protoS_any _ _) ?_; rintro e v2 ⟨rfl, hw1⟩; rw [hw1]; clear hw1) | (go_at_call 21; refine Calls.mono (portS_any _ _) ?_; rintro e v2 ⟨rfl, hw1⟩; rw [hw1]; clear hw1) | (go_at_call 22; refine Calls.mono (HH.out _ HL1.out.aft) ?_; rintro e u2 ⟨rfl, hu⟩; have HL2 : Hid (LG w u2 bn #[.int .i64 z.proto, .int .i64 z.port, .int .i64 z.addr, .int .i64 z.tp] 56) := HL1.out.step hu; have HX2 : Hid (FX u2 b0 s a) := HXN.out.below hu; clear hu k0 k1 k2 k3 kl x0 x1 x2 x3 x4 x5 x6 x7 xl))
                                go_ret
                                exact ⟨ret_int (by unfold ssV; rw [HBD.out]; rfl), HL1.out.bel⟩
                        · obtain rfl : k = s.fs.length := by omega
                          go_wp2
                          clear x0 x1 x2 x3 x4 x5 x6 x7 xl
                          go_loopw [6] (fun i wr => ∃ k : Nat, k ≤ s.cs.length ∧ i = .int .i64 k ∧ allB (sx s) k = true ∧ Below w.heap.size w wr ∧ FX wr b0 s a) (fun i _ => s.cs.length - (intOf i).toNat)
                          case atStart => exact ⟨0, Nat.zero_le _, rfl, rfl, HB.out, HX.out⟩
                          case round =>
                            clear hb HX HB hk0
                            obtain ⟨k, hk0, rfl, hok, hb, hx⟩ := hrel
                            have HOK2 : Hid (allB (sx s) k = true) := hok
                            have HB : Hid (Below w.heap.size w wr) := hb
                            have HX : Hid (FX wr b0 s a) := hx
                            clear hok hx
                            have x0 := HX.out.c0
                            have x1 := HX.out.c1
                            have x2 := HX.out.c2
                            have x3 := HX.out.c3
                            have x4 := HX.out.c4
                            have x5 := HX.out.c5
                            have x6 := HX.out.c6
                            have x7 := HX.out.c7
                            rw [E1.out] at x0
                            rw [E2.out] at x1
                            rw [E3.out] at x2
                            rw [E4.out] at x6
                            have xl := HX.out.lt
                            by_cases hlt : k < s.cs.length
                            · obtain ⟨g, o, cap2, hv, _, hg, hc⟩ := GR.out.resolve_left (fun h => by rw [h.1] at hlt; simp at hlt)
                              injection hv with hv1 hv2 hv3
                              subst hv1 hv3
                              obtain ⟨d0, d1, d2, d3, d4, d5, d6, d7, d8, d9⟩ := hc.below hb hg k hlt
                              have hgw : g < wr.heap.size := Nat.lt_of_lt_of_le hg hb.size
                              have HT : Hid (sx s k = (!(!scB s.cs[k] s.time || !sdB s s.cs[k]) && allB (cq s s.cs[k]) k)) := (show sx s k = _ by unfold sx; rw [gdc8 hlt]; rfl)
                              have hk1 : (0 : Int) ≤ (k : Int) := by omega
                              have hk2 : (k : Int) < (s.cs.length : Int) := by omega
                              have HSC : Hid (∀ u, Calls Try.prog 23 #[cnA s.cs[k], .int .i64 s.time] u fun e w' => e = .returned (.bool (scB s.cs[k] s.time)) ∧ Below u.heap.size u w') := fun u => connS_any _ _ u
                              have HSDc : Hid _ := HSD.out s.cs[k]
                              have HOUc : Hid _ := HOU.out s.cs[k]
                              generalize s.cs[k] = c at *
                              unfold cnA at HSC
                              obtain ⟨C1, ho1⟩ : ∃ C1, (ouP s c).1 = C1 := ⟨_, rfl⟩
                              obtain ⟨C2, ho2⟩ : ∃ C2, (ouP s c).2 = C2 := ⟨_, rfl⟩
                              rw [ho1, ho2] at HOUc
                              have HO1 : Hid ((ouP s c).1 = C1) := ho1
                              have HO2 : Hid ((ouP s c).2 = C2) := ho2
                              clear ho1 ho2
                              have HL1 : Hid (LG w (wr.alloc (.cells #[.int .i64 c.proto, .int .i64 c.a, .int .i64 c.ap, .int .i64 c.b, .int .i64 c.bp, .int .i64 c.outer, .int .i64 c.state, .bool c.fa, .bool c.fb, .int .i64 c.seen] 59)) wr.heap.size #[.int .i64 c.proto, .int .i64 c.a, .int .i64 c.ap, .int .i64 c.b, .int .i64 c.bp, .int .i64 c.outer, .int .i64 c.state, .bool c.fa, .bool c.fb, .int .i64 c.seen] 59) := ⟨hb.trans ((bx1 _ _).mono hb.size), heap_new _ _, hb.size⟩
                              have HXN : Hid (FX (wr.alloc (.cells #[.int .i64 c.proto, .int .i64 c.a, .int .i64 c.ap, .int .i64 c.b, .int .i64 c.bp, .int .i64 c.outer, .int .i64 c.state, .bool c.fa, .bool c.fb, .int .i64 c.seen] 59)) b0 s a) := HX.out.below (bx1 _ _)
                              clear hb hv2
                              go_upto_region 18 with fail
                              generalize (wr.alloc (.cells #[.int .i64 c.proto, .int .i64 c.a, .int .i64 c.ap, .int .i64 c.b, .int .i64 c.bp, .int .i64 c.outer, .int .i64 c.state, .bool c.fa, .bool c.fb, .int .i64 c.seen] 59)) = v1 at *
                              generalize wr.heap.size = bn at *
                              clear d0 d1 d2 d3 d4 d5 d6 d7 d8 d9 hgw hk1 hk2
                              clear x0 x1 x2 x3 x4 x5 x6 x7 xl
                              cases h1 : scB c s.time
                              · rw [h1] at HT HSC
                                as_aux_lemma =>
                                  have HBD : Hid (ssB s = false) := (show ssB s = false by rw [E.out, allB_bad (p := sx s) hlt (HT.out.trans (by simp))]; simp)
                                  have k0 := HL1.out.cel 0 _ rfl
                                  have k1 := HL1.out.cel 1 _ rfl
                                  have k2 := HL1.out.cel 2 _ rfl
                                  have k3 := HL1.out.cel 3 _ rfl
                                  have k4 := HL1.out.cel 4 _ rfl
                                  have k5 := HL1.out.cel 5 _ rfl
                                  have k6 := HL1.out.cel 6 _ rfl
                                  have k7 := HL1.out.cel 7 _ rfl
                                  have k8 := HL1.out.cel 8 _ rfl
                                  have k9 := HL1.out.cel 9 _ rfl
                                  have kl := HL1.out.lt
                                  have x0 := HXN.out.c0
                                  have x1 := HXN.out.c1
                                  have x2 := HXN.out.c2
                                  have x3 := HXN.out.c3
                                  have x4 := HXN.out.c4
                                  have x5 := HXN.out.c5
                                  have x6 := HXN.out.c6
                                  have x7 := HXN.out.c7
                                  rw [E1.out] at x0
                                  rw [E2.out] at x1
                                  rw [E3.out] at x2
                                  rw [E4.out] at x6
                                  have xl := HXN.out.lt
                                  go_wp2_with (first | (go_at_call 23; refine Calls.mono (HSC.out _) ?_; rintro e u2 ⟨rfl, hu⟩; have HL2 : Hid (LG w u2 bn #[.int .i64 c.proto, .int .i64 c.a, .int .i64 c.ap, .int .i64 c.b, .int .i64 c.bp, .int .i64 c.outer, .int .i64 c.state, .bool c.fa, .bool c.fb, .int .i64 c.seen] 59) := HL1.out.step hu; have HX2 : Hid (FX u2 b0 s a) := HXN.out.below hu; clear hu k0 k1 k2 k3 k4 k5 k6 k7 k8 k9 kl x0 x1 x2 x3 x4 x5 x6 x7 xl; have k0 := HL2.out.cel 0 _ rfl; have k1 := HL2.out.cel 1 _ rfl; have k2 := HL2.out.cel 2 _ rfl; have k3 := HL2.out.cel 3 _ rfl; have k4 := HL2.out.cel 4 _ rfl; have k5 := HL2.out.cel 5 _ rfl; have k6 := HL2.out.cel 6 _ rfl; have k7 := HL2.out.cel 7 _ rfl; have k8 := HL2.out.cel 8 _ rfl; have k9 := HL2.out.cel 9 _ rfl; have kl := HL2.out.lt; have x0 := HX2.out.c0; have x1 := HX2.out.c1; have x2 := HX2.out.c2; have x3 := HX2.out.c3; have x4 := HX2.out.c4; have x5 := HX2.out.c5; have x6 := HX2.out.c6; have x7 := HX2.out.c7; rw [E1.out] at x0; rw [E2.out] at x1; rw [E3.out] at x2; rw [E4.out] at x6; have xl := HX2.out.lt) | (go_at_call 24; refine Calls.mono (HSDc.out _ HL2.out.aft) ?_; rintro e u3 ⟨rfl, hu⟩; have HL3 : Hid (LG w u3 bn #[.int .i64 c.proto, .int .i64 c.a, .int .i64 c.ap, .int .i64 c.b, .int .i64 c.bp, .int .i64 c.outer, .int .i64 c.state, .bool c.fa, .bool c.fb, .int .i64 c.seen] 59) := HL2.out.step hu; have HX3 : Hid (FX u3 b0 s a) := HX2.out.below hu; clear hu k0 k1 k2 k3 k4 k5 k6 k7 k8 k9 kl x0 x1 x2 x3 x4 x5 x6 x7 xl; have k0 := HL3.out.cel 0 _ rfl; have k1 := HL3.out.cel 1 _ rfl; have k2 := HL3.out.cel 2 _ rfl; have k3 := HL3.out.cel 3 _ rfl; have k4 := HL3.out.cel 4 _ rfl; have k5 := HL3.out.cel 5 _ rfl; have k6 := HL3.out.cel 6 _ rfl; have k7 := HL3.out.cel 7 _ rfl; have k8 := HL3.out.cel 8 _ rfl; have k9 := HL3.out.cel 9 _ rfl; have kl := HL3.out.lt; have x0 := HX3.out.c0; have x1 := HX3.out.c1; have x2 := HX3.out.c2; have x3 := HX3.out.c3; have x4 := HX3.out.c4; have x5 := HX3.out.c5; have x6 := HX3.out.c6; have x7 := HX3.out.c7; rw [E1.out] at x0; rw [E2.out] at x1; rw [E3.out] at x2; rw [E4.out] at x6; have xl := HX3.out.lt) | (go_at_call 25; refine Calls.mono (HOUc.out _ HL3.out.aft) ?_; rintro e u4 ⟨rfl, hu⟩; have HL4 : Hid (LG w u4 bn #[.int .i64 c.proto, .int .i64 c.a, .int .i64 c.ap, .int .i64 c.b, .int .i64 c.bp, .int .i64 c.outer, .int .i64 c.state, .bool c.fa, .bool c.fb, .int .i64 c.seen] 59) := HL3.out.step hu; have HX4 : Hid (FX u4 b0 s a) := HX3.out.below hu; clear hu k0 k1 k2 k3 k4 k5 k6 k7 k8 k9 kl x0 x1 x2 x3 x4 x5 x6 x7 xl))
                                  go_ret
                                  exact ⟨ret_int (by unfold ssV; rw [HBD.out]; rfl), HL2.out.bel⟩
                              · rw [h1] at HT HSC
                                cases h2 : sdB s c
                                · rw [h2] at HT HSDc
                                  as_aux_lemma =>
                                    have HBD : Hid (ssB s = false) := (show ssB s = false by rw [E.out, allB_bad (p := sx s) hlt (HT.out.trans (by simp))]; simp)
                                    have k0 := HL1.out.cel 0 _ rfl
                                    have k1 := HL1.out.cel 1 _ rfl
                                    have k2 := HL1.out.cel 2 _ rfl
                                    have k3 := HL1.out.cel 3 _ rfl
                                    have k4 := HL1.out.cel 4 _ rfl
                                    have k5 := HL1.out.cel 5 _ rfl
                                    have k6 := HL1.out.cel 6 _ rfl
                                    have k7 := HL1.out.cel 7 _ rfl
                                    have k8 := HL1.out.cel 8 _ rfl
                                    have k9 := HL1.out.cel 9 _ rfl
                                    have kl := HL1.out.lt
                                    have x0 := HXN.out.c0
                                    have x1 := HXN.out.c1
                                    have x2 := HXN.out.c2
                                    have x3 := HXN.out.c3
                                    have x4 := HXN.out.c4
                                    have x5 := HXN.out.c5
                                    have x6 := HXN.out.c6
                                    have x7 := HXN.out.c7
                                    rw [E1.out] at x0
                                    rw [E2.out] at x1
                                    rw [E3.out] at x2
                                    rw [E4.out] at x6
                                    have xl := HXN.out.lt
                                    go_wp2_with (first | (go_at_call 23; refine Calls.mono (HSC.out _) ?_; rintro e u2 ⟨rfl, hu⟩; have HL2 : Hid (LG w u2 bn #[.int .i64 c.proto, .int .i64 c.a, .int .i64 c.ap, .int .i64 c.b, .int .i64 c.bp, .int .i64 c.outer, .int .i64 c.state, .bool c.fa, .bool c.fb, .int .i64 c.seen] 59) := HL1.out.step hu; have HX2 : Hid (FX u2 b0 s a) := HXN.out.below hu; clear hu k0 k1 k2 k3 k4 k5 k6 k7 k8 k9 kl x0 x1 x2 x3 x4 x5 x6 x7 xl; have k0 := HL2.out.cel 0 _ rfl; have k1 := HL2.out.cel 1 _ rfl; have k2 := HL2.out.cel 2 _ rfl; have k3 := HL2.out.cel 3 _ rfl; have k4 := HL2.out.cel 4 _ rfl; have k5 := HL2.out.cel 5 _ rfl; have k6 := HL2.out.cel 6 _ rfl; have k7 := HL2.out.cel 7 _ rfl; have k8 := HL2.out.cel 8 _ rfl; have k9 := HL2.out.cel 9 _ rfl; have kl := HL2.out.lt; have x0 := HX2.out.c0; have x1 := HX2.out.c1; have x2 := HX2.out.c2; have x3 := HX2.out.c3; have x4 := HX2.out.c4; have x5 := HX2.out.c5; have x6 := HX2.out.c6; have x7 := HX2.out.c7; rw [E1.out] at x0; rw [E2.out] at x1; rw [E3.out] at x2; rw [E4.out] at x6; have xl := HX2.out.lt) | (go_at_call 24; refine Calls.mono (HSDc.out _ HL2.out.aft) ?_; rintro e u3 ⟨rfl, hu⟩; have HL3 : Hid (LG w u3 bn #[.int .i64 c.proto, .int .i64 c.a, .int .i64 c.ap, .int .i64 c.b, .int .i64 c.bp, .int .i64 c.outer, .int .i64 c.state, .bool c.fa, .bool c.fb, .int .i64 c.seen] 59) := HL2.out.step hu; have HX3 : Hid (FX u3 b0 s a) := HX2.out.below hu; clear hu k0 k1 k2 k3 k4 k5 k6 k7 k8 k9 kl x0 x1 x2 x3 x4 x5 x6 x7 xl; have k0 := HL3.out.cel 0 _ rfl; have k1 := HL3.out.cel 1 _ rfl; have k2 := HL3.out.cel 2 _ rfl; have k3 := HL3.out.cel 3 _ rfl; have k4 := HL3.out.cel 4 _ rfl; have k5 := HL3.out.cel 5 _ rfl; have k6 := HL3.out.cel 6 _ rfl; have k7 := HL3.out.cel 7 _ rfl; have k8 := HL3.out.cel 8 _ rfl; have k9 := HL3.out.cel 9 _ rfl; have kl := HL3.out.lt; have x0 := HX3.out.c0; have x1 := HX3.out.c1; have x2 := HX3.out.c2; have x3 := HX3.out.c3; have x4 := HX3.out.c4; have x5 := HX3.out.c5; have x6 := HX3.out.c6; have x7 := HX3.out.c7; rw [E1.out] at x0; rw [E2.out] at x1; rw [E3.out] at x2; rw [E4.out] at x6; have xl := HX3.out.lt) | (go_at_call 25; refine Calls.mono (HOUc.out _ HL3.out.aft) ?_; rintro e u4 ⟨rfl, hu⟩; have HL4 : Hid (LG w u4 bn #[.int .i64 c.proto, .int .i64 c.a, .int .i64 c.ap, .int .i64 c.b, .int .i64 c.bp, .int .i64 c.outer, .int .i64 c.state, .bool c.fa, .bool c.fb, .int .i64 c.seen] 59) := HL3.out.step hu; have HX4 : Hid (FX u4 b0 s a) := HX3.out.below hu; clear hu k0 k1 k2 k3 k4 k5 k6 k7 k8 k9 kl x0 x1 x2 x3 x4 x5 x6 x7 xl))
                                    go_ret
                                    exact ⟨ret_int (by unfold ssV; rw [HBD.out]; rfl), HL3.out.bel⟩
                                · rw [h2] at HT HSDc
                                  have k0 := HL1.out.cel 0 _ rfl
                                  have k1 := HL1.out.cel 1 _ rfl
                                  have k2 := HL1.out.cel 2 _ rfl
                                  have k3 := HL1.out.cel 3 _ rfl
                                  have k4 := HL1.out.cel 4 _ rfl
                                  have k5 := HL1.out.cel 5 _ rfl
                                  have k6 := HL1.out.cel 6 _ rfl
                                  have k7 := HL1.out.cel 7 _ rfl
                                  have k8 := HL1.out.cel 8 _ rfl
                                  have k9 := HL1.out.cel 9 _ rfl
                                  have kl := HL1.out.lt
                                  have x0 := HXN.out.c0
                                  have x1 := HXN.out.c1
                                  have x2 := HXN.out.c2
                                  have x3 := HXN.out.c3
                                  have x4 := HXN.out.c4
                                  have x5 := HXN.out.c5
                                  have x6 := HXN.out.c6
                                  have x7 := HXN.out.c7
                                  rw [E1.out] at x0
                                  rw [E2.out] at x1
                                  rw [E3.out] at x2
                                  rw [E4.out] at x6
                                  have xl := HXN.out.lt
                                  go_wp2_with (first | (go_at_call 23; refine Calls.mono (HSC.out _) ?_; rintro e u2 ⟨rfl, hu⟩; have HL2 : Hid (LG w u2 bn #[.int .i64 c.proto, .int .i64 c.a, .int .i64 c.ap, .int .i64 c.b, .int .i64 c.bp, .int .i64 c.outer, .int .i64 c.state, .bool c.fa, .bool c.fb, .int .i64 c.seen] 59) := HL1.out.step hu; have HX2 : Hid (FX u2 b0 s a) := HXN.out.below hu; clear hu k0 k1 k2 k3 k4 k5 k6 k7 k8 k9 kl x0 x1 x2 x3 x4 x5 x6 x7 xl; have k0 := HL2.out.cel 0 _ rfl; have k1 := HL2.out.cel 1 _ rfl; have k2 := HL2.out.cel 2 _ rfl; have k3 := HL2.out.cel 3 _ rfl; have k4 := HL2.out.cel 4 _ rfl; have k5 := HL2.out.cel 5 _ rfl; have k6 := HL2.out.cel 6 _ rfl; have k7 := HL2.out.cel 7 _ rfl; have k8 := HL2.out.cel 8 _ rfl; have k9 := HL2.out.cel 9 _ rfl; have kl := HL2.out.lt; have x0 := HX2.out.c0; have x1 := HX2.out.c1; have x2 := HX2.out.c2; have x3 := HX2.out.c3; have x4 := HX2.out.c4; have x5 := HX2.out.c5; have x6 := HX2.out.c6; have x7 := HX2.out.c7; rw [E1.out] at x0; rw [E2.out] at x1; rw [E3.out] at x2; rw [E4.out] at x6; have xl := HX2.out.lt) | (go_at_call 24; refine Calls.mono (HSDc.out _ HL2.out.aft) ?_; rintro e u3 ⟨rfl, hu⟩; have HL3 : Hid (LG w u3 bn #[.int .i64 c.proto, .int .i64 c.a, .int .i64 c.ap, .int .i64 c.b, .int .i64 c.bp, .int .i64 c.outer, .int .i64 c.state, .bool c.fa, .bool c.fb, .int .i64 c.seen] 59) := HL2.out.step hu; have HX3 : Hid (FX u3 b0 s a) := HX2.out.below hu; clear hu k0 k1 k2 k3 k4 k5 k6 k7 k8 k9 kl x0 x1 x2 x3 x4 x5 x6 x7 xl; have k0 := HL3.out.cel 0 _ rfl; have k1 := HL3.out.cel 1 _ rfl; have k2 := HL3.out.cel 2 _ rfl; have k3 := HL3.out.cel 3 _ rfl; have k4 := HL3.out.cel 4 _ rfl; have k5 := HL3.out.cel 5 _ rfl; have k6 := HL3.out.cel 6 _ rfl; have k7 := HL3.out.cel 7 _ rfl; have k8 := HL3.out.cel 8 _ rfl; have k9 := HL3.out.cel 9 _ rfl; have kl := HL3.out.lt; have x0 := HX3.out.c0; have x1 := HX3.out.c1; have x2 := HX3.out.c2; have x3 := HX3.out.c3; have x4 := HX3.out.c4; have x5 := HX3.out.c5; have x6 := HX3.out.c6; have x7 := HX3.out.c7; rw [E1.out] at x0; rw [E2.out] at x1; rw [E3.out] at x2; rw [E4.out] at x6; have xl := HX3.out.lt) | (go_at_call 25; refine Calls.mono (HOUc.out _ HL3.out.aft) ?_; rintro e u4 ⟨rfl, hu⟩; have HL4 : Hid (LG w u4 bn #[.int .i64 c.proto, .int .i64 c.a, .int .i64 c.ap, .int .i64 c.b, .int .i64 c.bp, .int .i64 c.outer, .int .i64 c.state, .bool c.fa, .bool c.fb, .int .i64 c.seen] 59) := HL3.out.step hu; have HX4 : Hid (FX u4 b0 s a) := HX3.out.below hu; clear hu k0 k1 k2 k3 k4 k5 k6 k7 k8 k9 kl x0 x1 x2 x3 x4 x5 x6 x7 xl))
                                  go_loopw [10] (fun j w5 => ∃ q : Nat, q ≤ k ∧ j = .int .i64 q ∧ allB (cq s c) q = true ∧ LG w w5 bn #[.int .i64 c.proto, .int .i64 c.a, .int .i64 c.ap, .int .i64 c.b, .int .i64 c.bp, .int .i64 c.outer, .int .i64 c.state, .bool c.fa, .bool c.fb, .int .i64 c.seen] 59 ∧ FX w5 b0 s a) (fun j _ => k - (intOf j).toNat)
                                  case atStart => exact ⟨0, Nat.zero_le _, rfl, rfl, HL4.out, HX4.out⟩
                                  case round =>
                                    obtain ⟨q, hq0, rfl, hqk, hL, hX⟩ := hrel
                                    have HQK : Hid (allB (cq s c) q = true) := hqk
                                    have HL5 : Hid (LG w wr bn #[.int .i64 c.proto, .int .i64 c.a, .int .i64 c.ap, .int .i64 c.b, .int .i64 c.bp, .int .i64 c.outer, .int .i64 c.state, .bool c.fa, .bool c.fb, .int .i64 c.seen] 59) := hL
                                    have HX5 : Hid (FX wr b0 s a) := hX
                                    clear hqk hL hX HL1 HXN HL2 HX2 HL3 HX3 HL4 HX4
                                    have x6 := HX5.out.c6
                                    rw [E4.out] at x6
                                    have xl := HX5.out.lt
                                    by_cases hlq : q < k
                                    · have hqf : q < s.cs.length := by omega
                                      have HDq : Hid (∀ u, Below w.heap.size w u → _) := fun u (hu : Below w.heap.size w u) => (⟨hc.below hu hg q hqf, Nat.lt_of_lt_of_le hg hu.size⟩ : _ ∧ g < u.heap.size)
                                      have HGQ : Hid (cq s c q = !(smB s.cs[q] c || c.outer != 0 && s.cs[q].proto == c.proto && s.cs[q].outer == c.outer && (ouP s s.cs[q]).1 == C1 && (ouP s s.cs[q]).2 == C2)) := (show cq _ _ _ = _ by unfold cq clB; rw [gdc8 hqf, HO1.out, HO2.out])
                                      have hq1 : (0 : Int) ≤ (q : Int) := by omega
                                      have hq2 : (q : Int) < (s.cs.length : Int) := by omega
                                      have hq3 : (q : Int) < (k : Int) := by omega
                                      have HOUd : Hid _ := HOU.out s.cs[q]
                                      have HSMd : Hid (∀ u, Calls Try.prog 26 #[cnA s.cs[q], cnA c] u fun e w' => e = .returned (.bool (smB s.cs[q] c)) ∧ Below u.heap.size u w') := fun u => sameS_any _ _ u
                                      generalize s.cs[q] = d at *
                                      unfold cnA at HSMd
                                      generalize (ouP s d).1 = D1 at *
                                      generalize (ouP s d).2 = D2 at *
                                      clear hc
                                      go_upto_region 24 with fail
                                      have HSB : Hid (LG w wr.drew bn #[.int .i64 c.proto, .int .i64 c.a, .int .i64 c.ap, .int .i64 c.b, .int .i64 c.bp, .int .i64 c.outer, .int .i64 c.state, .bool c.fa, .bool c.fb, .int .i64 c.seen] 59 ∧ FX wr.drew b0 s a) := ⟨HL5.out.drew, HX5.out.below (Below.refl _ _).drew⟩
                                      clear x6 xl
                                      refine wp_region_held (S := fun w9 => LG w w9 bn #[.int .i64 c.proto, .int .i64 c.a, .int .i64 c.ap, .int .i64 c.b, .int .i64 c.bp, .int .i64 c.outer, .int .i64 c.state, .bool c.fa, .bool c.fb, .int .i64 c.seen] 59 ∧ FX w9 b0 s a) (by kernel_rfl) ?_
                                      change wpAnyH _ _ _ _ _ _ _ _ (World.drew _)
                                      refine wpAnyH_take (i := 0) (v := .agg #[.slice ahs s.hs.length khs, .slice ags s.gs.length kgs, .slice afs s.fs.length kfs, .int .i64 s.pub, .int .i64 s.fst, .int .i64 s.lst, .slice (some ⟨g, o, none⟩) s.cs.length kcs, .int .i64 s.time]) rfl (by kernel_rfl) (by kernel_rfl) (by kernel_rfl) (fun _ _ _ h => h) (Or.inl ⟨by kernel_rfl, fun w9 h9 => ?_⟩) HSB.out ?_
                                      · have k0 := h9.1.cel 0 _ rfl; have k1 := h9.1.cel 1 _ rfl; have k2 := h9.1.cel 2 _ rfl; have k3 := h9.1.cel 3 _ rfl; have k4 := h9.1.cel 4 _ rfl; have k5 := h9.1.cel 5 _ rfl; have k6 := h9.1.cel 6 _ rfl; have k7 := h9.1.cel 7 _ rfl; have k8 := h9.1.cel 8 _ rfl; have k9 := h9.1.cel 9 _ rfl; have kl := h9.1.lt; have x0 := h9.2.c0; have x1 := h9.2.c1; have x2 := h9.2.c2; have x3 := h9.2.c3; have x4 := h9.2.c4; have x5 := h9.2.c5; have x6 := h9.2.c6; have x7 := h9.2.c7; rw [E1.out] at x0; rw [E2.out] at x1; rw [E3.out] at x2; rw [E4.out] at x6; have xl := h9.2.lt; obtain ⟨⟨d0, d1, d2, d3, d4, d5, d6, d7, d8, d9⟩, hgw⟩ := HDq.out _ h9.1.bel; clear h9; go_simp
                                      refine wpAnyH_take (i := 1) (v := .pointer (some ⟨b0, 6, none⟩)) rfl (by kernel_rfl) (by kernel_rfl) (by kernel_rfl) (fun _ _ _ h => h) (Or.inl ⟨by kernel_rfl, fun w9 h9 => ?_⟩) HSB.out ?_
                                      · clear h9; go_simp
                                      refine wpAnyH_take (i := 2) (v := .slice (some ⟨g, o, none⟩) s.cs.length kcs) rfl (by kernel_rfl) (by kernel_rfl) (by kernel_rfl) (fun _ _ _ h => h) (Or.inl ⟨by kernel_rfl, fun w9 h9 => ?_⟩) HSB.out ?_
                                      · have k0 := h9.1.cel 0 _ rfl; have k1 := h9.1.cel 1 _ rfl; have k2 := h9.1.cel 2 _ rfl; have k3 := h9.1.cel 3 _ rfl; have k4 := h9.1.cel 4 _ rfl; have k5 := h9.1.cel 5 _ rfl; have k6 := h9.1.cel 6 _ rfl; have k7 := h9.1.cel 7 _ rfl; have k8 := h9.1.cel 8 _ rfl; have k9 := h9.1.cel 9 _ rfl; have kl := h9.1.lt; have x0 := h9.2.c0; have x1 := h9.2.c1; have x2 := h9.2.c2; have x3 := h9.2.c3; have x4 := h9.2.c4; have x5 := h9.2.c5; have x6 := h9.2.c6; have x7 := h9.2.c7; rw [E1.out] at x0; rw [E2.out] at x1; rw [E3.out] at x2; rw [E4.out] at x6; have xl := h9.2.lt; obtain ⟨⟨d0, d1, d2, d3, d4, d5, d6, d7, d8, d9⟩, hgw⟩ := HDq.out _ h9.1.bel; clear h9; go_simp
                                      refine wpAnyH_take (i := 3) (v := .int .i64 (q : Int)) rfl (by kernel_rfl) (by kernel_rfl) (by kernel_rfl) (fun _ _ _ h => h) (Or.inl ⟨by kernel_rfl, fun w9 h9 => ?_⟩) HSB.out ?_
                                      · clear h9; go_simp
                                      refine wpAnyH_take (i := 4) (v := .pointer (some ⟨g, o + q * 10, none⟩)) rfl (by kernel_rfl) (by kernel_rfl) (by kernel_rfl) (fun _ _ _ h => h) (Or.inl ⟨by kernel_rfl, fun w9 h9 => ?_⟩) HSB.out ?_
                                      · clear h9; go_simp
                                      refine wpAnyH_take (i := 5) (v := .agg #[.int .i64 d.proto, .int .i64 d.a, .int .i64 d.ap, .int .i64 d.b, .int .i64 d.bp, .int .i64 d.outer, .int .i64 d.state, .bool d.fa, .bool d.fb, .int .i64 d.seen]) rfl (by kernel_rfl) (by kernel_rfl) (by kernel_rfl) (fun _ _ _ h => h) (Or.inl ⟨by kernel_rfl, fun w9 h9 => ?_⟩) HSB.out ?_
                                      · have k0 := h9.1.cel 0 _ rfl; have k1 := h9.1.cel 1 _ rfl; have k2 := h9.1.cel 2 _ rfl; have k3 := h9.1.cel 3 _ rfl; have k4 := h9.1.cel 4 _ rfl; have k5 := h9.1.cel 5 _ rfl; have k6 := h9.1.cel 6 _ rfl; have k7 := h9.1.cel 7 _ rfl; have k8 := h9.1.cel 8 _ rfl; have k9 := h9.1.cel 9 _ rfl; have kl := h9.1.lt; have x0 := h9.2.c0; have x1 := h9.2.c1; have x2 := h9.2.c2; have x3 := h9.2.c3; have x4 := h9.2.c4; have x5 := h9.2.c5; have x6 := h9.2.c6; have x7 := h9.2.c7; rw [E1.out] at x0; rw [E2.out] at x1; rw [E3.out] at x2; rw [E4.out] at x6; have xl := h9.2.lt; obtain ⟨⟨d0, d1, d2, d3, d4, d5, d6, d7, d8, d9⟩, hgw⟩ := HDq.out _ h9.1.bel; clear h9; go_simp
                                      refine held_one 6 (by kernel_rfl) rfl (by kernel_rfl) fun K hK => ?_
                                      go_simp
                                      go_wp2_with (go_at_call 25; refine Calls.mono (HOUd.out _ HSB.out.1.aft) ?_; rintro e9 u9 ⟨rfl, hu9⟩; have HSC : Hid (LG w u9 bn #[.int .i64 c.proto, .int .i64 c.a, .int .i64 c.ap, .int .i64 c.b, .int .i64 c.bp, .int .i64 c.outer, .int .i64 c.state, .bool c.fa, .bool c.fb, .int .i64 c.seen] 59 ∧ FX u9 b0 s a) := ⟨HSB.out.1.step hu9, HSB.out.2.below hu9⟩; clear hu9)
                                      refine hK _ _ HSC.out ?_
                                      clear hK K
                                      refine wpAnyH_take (i := 7) (v := .tuple #[.int .i64 D1, .int .i64 D2]) rfl (by kernel_rfl) (by kernel_rfl) (by kernel_rfl) (fun _ _ _ h => h) (Or.inl ⟨by kernel_rfl, fun w9 h9 => ?_⟩) HSC.out ?_
                                      · clear h9; go_simp
                                      refine wpAnyH_take (i := 8) (v := .int .i64 D1) rfl (by kernel_rfl) (by kernel_rfl) (by kernel_rfl) (fun _ _ _ h => h) (Or.inl ⟨by kernel_rfl, fun w9 h9 => ?_⟩) HSC.out ?_
                                      · clear h9; go_simp
                                      refine wpAnyH_take (i := 9) (v := .int .i64 D2) rfl (by kernel_rfl) (by kernel_rfl) (by kernel_rfl) (fun _ _ _ h => h) (Or.inl ⟨by kernel_rfl, fun w9 h9 => ?_⟩) HSC.out ?_
                                      · clear h9; go_simp
                                      refine wpAnyH_take (i := 10) (v := .int .i64 D1) rfl (by kernel_rfl) (by kernel_rfl) (by kernel_rfl) (fun _ _ _ h => h) (Or.inl ⟨by kernel_rfl, fun w9 h9 => ?_⟩) HSC.out ?_
                                      · clear h9; go_simp
                                      refine wpAnyH_take (i := 11) (v := .int .i64 D2) rfl (by kernel_rfl) (by kernel_rfl) (by kernel_rfl) (fun _ _ _ h => h) (Or.inl ⟨by kernel_rfl, fun w9 h9 => ?_⟩) HSC.out ?_
                                      · clear h9; go_simp
                                      refine wpAnyH_done (by kernel_rfl) ?_ _
                                      go_simp
                                      go_upto_region 25 with fail
                                      skip
                                      refine r25_any E1 E2 E3 E4 HSC HDq hq1 hq2 HSMd (fun _ _ _ _ _ h => h) (fun _ _ _ _ _ _ _ _ _ _ _ _ _ _ _ _ _ _ _ _ _ _ _ _ _ _ _ _ _ _ _ _ _ _ _ _ _ _ _ _ _ _ _ U hU => ?_)
                                      have HSE : Hid (LG w U bn #[.int .i64 c.proto, .int .i64 c.a, .int .i64 c.ap, .int .i64 c.b, .int .i64 c.bp, .int .i64 c.outer, .int .i64 c.state, .bool c.fa, .bool c.fb, .int .i64 c.seen] 59 ∧ FX U b0 s a) := hU
                                      clear hU
                                      generalize (smB d c || c.outer != 0 && d.proto == c.proto && d.outer == c.outer && D1 == C1 && D2 == C2) = R at HGQ ⊢
                                      cases h9 : R
                                      · rw [h9] at HGQ
                                        have HGD : Hid (allB (cq s c) (q + 1) = true) := (show _ = true by rw [allB_succ, HQK.out, HGQ.out]; rfl)
                                        go_wp2
                                        exact ⟨⟨q + 1, hlq, by go_num, HGD.out, HSE.out.1, HSE.out.2⟩, by simp [intOf]; omega⟩
                                      · rw [h9] at HGQ
                                        have HBD : Hid (ssB s = false) := (show ssB s = false by rw [E.out, allB_bad (p := sx s) hlt (HT.out.trans (by rw [allB_bad hlq (HGQ.out.trans rfl)]; simp))]; simp)
                                        go_wp2
                                        go_ret
                                        exact ⟨ret_int (by unfold ssV; rw [HBD.out]; rfl), HSE.out.1.bel⟩
                                    · obtain rfl : q = k := by omega
                                      have HGD : Hid (allB (sx s) (q + 1) = true) := (show _ = true by rw [allB_succ, HOK2.out, HT.out, HQK.out]; simp)
                                      clear hc
                                      go_wp2
                                      exact ⟨⟨q + 1, hlt, by go_num, HGD.out, HL5.out.bel, HX5.out⟩, by simp [intOf]; omega⟩
                            · obtain rfl : k = s.cs.length := by omega
                              go_wp2
                              go_ret
                              exact ⟨ret_int (by unfold ssV; rw [E.out, HD.out, HOK.out, HOK2.out]; rfl), HB.out⟩
                    · rw [g9] at ED
                      as_aux_lemma =>
                        go_enter Try.func6, Try.ntmps6
                        go_upto_region 1 with fail
                        generalize (w.alloc (.cells #[.slice ahs s.hs.length khs, .slice ags s.gs.length kgs, .slice afs s.fs.length kfs, .int .i64 s.pub, .int .i64 s.fst, .int .i64 s.lst, .slice acs s.cs.length kcs, .int .i64 s.time] 35)) = u0 at *
                        generalize w.heap.size = b0 at *
                        have x0 := HX0.out.c0
                        have x1 := HX0.out.c1
                        have x2 := HX0.out.c2
                        have x3 := HX0.out.c3
                        have x4 := HX0.out.c4
                        have x5 := HX0.out.c5
                        have x6 := HX0.out.c6
                        have x7 := HX0.out.c7
                        rw [E1.out] at x0
                        rw [E2.out] at x1
                        rw [E3.out] at x2
                        rw [E4.out] at x6
                        have xl := HX0.out.lt
                        go_wp2_with (first | (go_at_call 18; refine Calls.mono (specIsWord_any _ _) ?_; rintro e v2 ⟨rfl, hw1⟩; rw [hw1]; clear hw1) | (go_at_call 19; refine Calls.mono (HHS.out _ HB0.out) ?_; rintro e u1 ⟨rfl, hu⟩; have HB1 : Hid (Aft w u1) := ⟨HB0.out.out.trans (hu.mono HB0.out.out.size)⟩; have HX1 : Hid (FX u1 b0 s a) := HX0.out.below hu; clear hu x0 x1 x2 x3 x4 x5 x6 x7 xl; have x2 := HX1.out.c2; have x4 := HX1.out.c4; have x5 := HX1.out.c5; have x6 := HX1.out.c6; have x7 := HX1.out.c7; rw [E3.out] at x2; rw [E4.out] at x6; have xl := HX1.out.lt))
                        go_ret
                        exact ⟨ret_int (by unfold ssV; rw [E.out, ED.out]; simp), HB1.out.out⟩
                  · rw [g8] at ED
                    as_aux_lemma =>
                      go_enter Try.func6, Try.ntmps6
                      go_upto_region 1 with fail
                      generalize (w.alloc (.cells #[.slice ahs s.hs.length khs, .slice ags s.gs.length kgs, .slice afs s.fs.length kfs, .int .i64 s.pub, .int .i64 s.fst, .int .i64 s.lst, .slice acs s.cs.length kcs, .int .i64 s.time] 35)) = u0 at *
                      generalize w.heap.size = b0 at *
                      have x0 := HX0.out.c0
                      have x1 := HX0.out.c1
                      have x2 := HX0.out.c2
                      have x3 := HX0.out.c3
                      have x4 := HX0.out.c4
                      have x5 := HX0.out.c5
                      have x6 := HX0.out.c6
                      have x7 := HX0.out.c7
                      rw [E1.out] at x0
                      rw [E2.out] at x1
                      rw [E3.out] at x2
                      rw [E4.out] at x6
                      have xl := HX0.out.lt
                      go_wp2_with (first | (go_at_call 18; refine Calls.mono (specIsWord_any _ _) ?_; rintro e v2 ⟨rfl, hw1⟩; rw [hw1]; clear hw1) | (go_at_call 19; refine Calls.mono (HHS.out _ HB0.out) ?_; rintro e u1 ⟨rfl, hu⟩; have HB1 : Hid (Aft w u1) := ⟨HB0.out.out.trans (hu.mono HB0.out.out.size)⟩; have HX1 : Hid (FX u1 b0 s a) := HX0.out.below hu; clear hu x0 x1 x2 x3 x4 x5 x6 x7 xl; have x2 := HX1.out.c2; have x4 := HX1.out.c4; have x5 := HX1.out.c5; have x6 := HX1.out.c6; have x7 := HX1.out.c7; rw [E3.out] at x2; rw [E4.out] at x6; have xl := HX1.out.lt))
                      go_ret
                      exact ⟨ret_int (by unfold ssV; rw [E.out, ED.out]; simp), HB1.out.out⟩
                · rw [g7] at ED
                  as_aux_lemma =>
                    go_enter Try.func6, Try.ntmps6
                    go_upto_region 1 with fail
                    generalize (w.alloc (.cells #[.slice ahs s.hs.length khs, .slice ags s.gs.length kgs, .slice afs s.fs.length kfs, .int .i64 s.pub, .int .i64 s.fst, .int .i64 s.lst, .slice acs s.cs.length kcs, .int .i64 s.time] 35)) = u0 at *
                    generalize w.heap.size = b0 at *
                    have x0 := HX0.out.c0
                    have x1 := HX0.out.c1
                    have x2 := HX0.out.c2
                    have x3 := HX0.out.c3
                    have x4 := HX0.out.c4
                    have x5 := HX0.out.c5
                    have x6 := HX0.out.c6
                    have x7 := HX0.out.c7
                    rw [E1.out] at x0
                    rw [E2.out] at x1
                    rw [E3.out] at x2
                    rw [E4.out] at x6
                    have xl := HX0.out.lt
                    go_wp2_with (first | (go_at_call 18; refine Calls.mono (specIsWord_any _ _) ?_; rintro e v2 ⟨rfl, hw1⟩; rw [hw1]; clear hw1) | (go_at_call 19; refine Calls.mono (HHS.out _ HB0.out) ?_; rintro e u1 ⟨rfl, hu⟩; have HB1 : Hid (Aft w u1) := ⟨HB0.out.out.trans (hu.mono HB0.out.out.size)⟩; have HX1 : Hid (FX u1 b0 s a) := HX0.out.below hu; clear hu x0 x1 x2 x3 x4 x5 x6 x7 xl; have x2 := HX1.out.c2; have x4 := HX1.out.c4; have x5 := HX1.out.c5; have x6 := HX1.out.c6; have x7 := HX1.out.c7; rw [E3.out] at x2; rw [E4.out] at x6; have xl := HX1.out.lt))
                    go_ret
                    exact ⟨ret_int (by unfold ssV; rw [E.out, ED.out]; simp), HB1.out.out⟩
              · rw [g6] at ED
                as_aux_lemma =>
                  go_enter Try.func6, Try.ntmps6
                  go_upto_region 1 with fail
                  generalize (w.alloc (.cells #[.slice ahs s.hs.length khs, .slice ags s.gs.length kgs, .slice afs s.fs.length kfs, .int .i64 s.pub, .int .i64 s.fst, .int .i64 s.lst, .slice acs s.cs.length kcs, .int .i64 s.time] 35)) = u0 at *
                  generalize w.heap.size = b0 at *
                  have x0 := HX0.out.c0
                  have x1 := HX0.out.c1
                  have x2 := HX0.out.c2
                  have x3 := HX0.out.c3
                  have x4 := HX0.out.c4
                  have x5 := HX0.out.c5
                  have x6 := HX0.out.c6
                  have x7 := HX0.out.c7
                  rw [E1.out] at x0
                  rw [E2.out] at x1
                  rw [E3.out] at x2
                  rw [E4.out] at x6
                  have xl := HX0.out.lt
                  go_wp2_with (first | (go_at_call 18; refine Calls.mono (specIsWord_any _ _) ?_; rintro e v2 ⟨rfl, hw1⟩; rw [hw1]; clear hw1) | (go_at_call 19; refine Calls.mono (HHS.out _ HB0.out) ?_; rintro e u1 ⟨rfl, hu⟩; have HB1 : Hid (Aft w u1) := ⟨HB0.out.out.trans (hu.mono HB0.out.out.size)⟩; have HX1 : Hid (FX u1 b0 s a) := HX0.out.below hu; clear hu x0 x1 x2 x3 x4 x5 x6 x7 xl; have x2 := HX1.out.c2; have x4 := HX1.out.c4; have x5 := HX1.out.c5; have x6 := HX1.out.c6; have x7 := HX1.out.c7; rw [E3.out] at x2; rw [E4.out] at x6; have xl := HX1.out.lt))
                  go_ret
                  exact ⟨ret_int (by unfold ssV; rw [E.out, ED.out]; simp), HB1.out.out⟩
            · rw [g5] at ED
              as_aux_lemma =>
                go_enter Try.func6, Try.ntmps6
                go_upto_region 1 with fail
                generalize (w.alloc (.cells #[.slice ahs s.hs.length khs, .slice ags s.gs.length kgs, .slice afs s.fs.length kfs, .int .i64 s.pub, .int .i64 s.fst, .int .i64 s.lst, .slice acs s.cs.length kcs, .int .i64 s.time] 35)) = u0 at *
                generalize w.heap.size = b0 at *
                have x0 := HX0.out.c0
                have x1 := HX0.out.c1
                have x2 := HX0.out.c2
                have x3 := HX0.out.c3
                have x4 := HX0.out.c4
                have x5 := HX0.out.c5
                have x6 := HX0.out.c6
                have x7 := HX0.out.c7
                rw [E1.out] at x0
                rw [E2.out] at x1
                rw [E3.out] at x2
                rw [E4.out] at x6
                have xl := HX0.out.lt
                go_wp2_with (first | (go_at_call 18; refine Calls.mono (specIsWord_any _ _) ?_; rintro e v2 ⟨rfl, hw1⟩; rw [hw1]; clear hw1) | (go_at_call 19; refine Calls.mono (HHS.out _ HB0.out) ?_; rintro e u1 ⟨rfl, hu⟩; have HB1 : Hid (Aft w u1) := ⟨HB0.out.out.trans (hu.mono HB0.out.out.size)⟩; have HX1 : Hid (FX u1 b0 s a) := HX0.out.below hu; clear hu x0 x1 x2 x3 x4 x5 x6 x7 xl; have x2 := HX1.out.c2; have x4 := HX1.out.c4; have x5 := HX1.out.c5; have x6 := HX1.out.c6; have x7 := HX1.out.c7; rw [E3.out] at x2; rw [E4.out] at x6; have xl := HX1.out.lt))
                go_ret
                exact ⟨ret_int (by unfold ssV; rw [E.out, ED.out]; simp), HB1.out.out⟩
          · rw [g4] at ED
            as_aux_lemma =>
              go_enter Try.func6, Try.ntmps6
              go_upto_region 1 with fail
              generalize (w.alloc (.cells #[.slice ahs s.hs.length khs, .slice ags s.gs.length kgs, .slice afs s.fs.length kfs, .int .i64 s.pub, .int .i64 s.fst, .int .i64 s.lst, .slice acs s.cs.length kcs, .int .i64 s.time] 35)) = u0 at *
              generalize w.heap.size = b0 at *
              have x0 := HX0.out.c0
              have x1 := HX0.out.c1
              have x2 := HX0.out.c2
              have x3 := HX0.out.c3
              have x4 := HX0.out.c4
              have x5 := HX0.out.c5
              have x6 := HX0.out.c6
              have x7 := HX0.out.c7
              rw [E1.out] at x0
              rw [E2.out] at x1
              rw [E3.out] at x2
              rw [E4.out] at x6
              have xl := HX0.out.lt
              go_wp2_with (first | (go_at_call 18; refine Calls.mono (specIsWord_any _ _) ?_; rintro e v2 ⟨rfl, hw1⟩; rw [hw1]; clear hw1) | (go_at_call 19; refine Calls.mono (HHS.out _ HB0.out) ?_; rintro e u1 ⟨rfl, hu⟩; have HB1 : Hid (Aft w u1) := ⟨HB0.out.out.trans (hu.mono HB0.out.out.size)⟩; have HX1 : Hid (FX u1 b0 s a) := HX0.out.below hu; clear hu x0 x1 x2 x3 x4 x5 x6 x7 xl; have x2 := HX1.out.c2; have x4 := HX1.out.c4; have x5 := HX1.out.c5; have x6 := HX1.out.c6; have x7 := HX1.out.c7; rw [E3.out] at x2; rw [E4.out] at x6; have xl := HX1.out.lt))
              go_ret
              exact ⟨ret_int (by unfold ssV; rw [E.out, ED.out]; simp), HB1.out.out⟩
        · rw [g3] at ED
          as_aux_lemma =>
            go_enter Try.func6, Try.ntmps6
            go_upto_region 1 with fail
            generalize (w.alloc (.cells #[.slice ahs s.hs.length khs, .slice ags s.gs.length kgs, .slice afs s.fs.length kfs, .int .i64 s.pub, .int .i64 s.fst, .int .i64 s.lst, .slice acs s.cs.length kcs, .int .i64 s.time] 35)) = u0 at *
            generalize w.heap.size = b0 at *
            have x0 := HX0.out.c0
            have x1 := HX0.out.c1
            have x2 := HX0.out.c2
            have x3 := HX0.out.c3
            have x4 := HX0.out.c4
            have x5 := HX0.out.c5
            have x6 := HX0.out.c6
            have x7 := HX0.out.c7
            rw [E1.out] at x0
            rw [E2.out] at x1
            rw [E3.out] at x2
            rw [E4.out] at x6
            have xl := HX0.out.lt
            go_wp2_with (first | (go_at_call 18; refine Calls.mono (specIsWord_any _ _) ?_; rintro e v2 ⟨rfl, hw1⟩; rw [hw1]; clear hw1) | (go_at_call 19; refine Calls.mono (HHS.out _ HB0.out) ?_; rintro e u1 ⟨rfl, hu⟩; have HB1 : Hid (Aft w u1) := ⟨HB0.out.out.trans (hu.mono HB0.out.out.size)⟩; have HX1 : Hid (FX u1 b0 s a) := HX0.out.below hu; clear hu x0 x1 x2 x3 x4 x5 x6 x7 xl; have x2 := HX1.out.c2; have x4 := HX1.out.c4; have x5 := HX1.out.c5; have x6 := HX1.out.c6; have x7 := HX1.out.c7; rw [E3.out] at x2; rw [E4.out] at x6; have xl := HX1.out.lt))
            go_ret
            exact ⟨ret_int (by unfold ssV; rw [E.out, ED.out]; simp), HB1.out.out⟩
    · rw [g1] at ED
      as_aux_lemma =>
        go_enter Try.func6, Try.ntmps6
        go_upto_region 1 with fail
        generalize (w.alloc (.cells #[.slice ahs s.hs.length khs, .slice ags s.gs.length kgs, .slice afs s.fs.length kfs, .int .i64 s.pub, .int .i64 s.fst, .int .i64 s.lst, .slice acs s.cs.length kcs, .int .i64 s.time] 35)) = u0 at *
        generalize w.heap.size = b0 at *
        have x0 := HX0.out.c0
        have x1 := HX0.out.c1
        have x2 := HX0.out.c2
        have x3 := HX0.out.c3
        have x4 := HX0.out.c4
        have x5 := HX0.out.c5
        have x6 := HX0.out.c6
        have x7 := HX0.out.c7
        rw [E1.out] at x0
        rw [E2.out] at x1
        rw [E3.out] at x2
        rw [E4.out] at x6
        have xl := HX0.out.lt
        go_wp2_with (first | (go_at_call 18; refine Calls.mono (specIsWord_any _ _) ?_; rintro e v2 ⟨rfl, hw1⟩; rw [hw1]; clear hw1) | (go_at_call 19; refine Calls.mono (HHS.out _ HB0.out) ?_; rintro e u1 ⟨rfl, hu⟩; have HB1 : Hid (Aft w u1) := ⟨HB0.out.out.trans (hu.mono HB0.out.out.size)⟩; have HX1 : Hid (FX u1 b0 s a) := HX0.out.below hu; clear hu x0 x1 x2 x3 x4 x5 x6 x7 xl; have x2 := HX1.out.c2; have x4 := HX1.out.c4; have x5 := HX1.out.c5; have x6 := HX1.out.c6; have x7 := HX1.out.c7; rw [E3.out] at x2; rw [E4.out] at x6; have xl := HX1.out.lt))
        go_ret
        exact ⟨ret_int (by unfold ssV; rw [E.out, ED.out]; simp), HB0.out.out⟩

set_option maxRecDepth 100000 in
set_option maxHeartbeats 2000000 in
theorem indexZ_any {w : World} {v : Value} {zs : List Int} (h : Irow w v zs) (hl : zs.length ≤ 1048576) (x : Int) : Calls Try.prog 96 #[v, .int .i64 x] w fun r w' => ∃ q, r = .returned (.int .i64 q) ∧ decide (0 ≤ q) = zs.any (fun z => x == z) ∧ w' = w := by
  obtain ⟨ao, cap, rfl⟩ := h.sl
  have HR : Hid (Irow w (.slice ao zs.length cap) zs) := h
  have HY : Hid (∀ k (hk : k < zs.length), (x == zs[k]) = true → zs.any (fun z => x == z) = true) := fun k hk h => List.any_eq_true.2 ⟨zs[k], List.getElem_mem hk, h⟩
  have HN : Hid ((∀ k (hk : k < zs.length), (x == zs[k]) = false) → zs.any (fun z => x == z) = false) := fun h => List.any_eq_false.2 fun z hz => by
    obtain ⟨k, hk, rfl⟩ := List.getElem_of_mem hz
    rw [h k hk]
    decide
  generalize zs.any (fun z => x == z) = g at *
  clear h
  go_enter Try.func96, Try.ntmps96
  go_wp2
  go_loopw [8] (fun i wr => ∃ k : Nat, k ≤ zs.length ∧ i = .int .i64 k ∧ (∀ j (hj : j < zs.length), j < k → (x == zs[j]) = false) ∧ wr = w) (fun i _ => zs.length - (intOf i).toNat)
  case atStart => exact ⟨0, Nat.zero_le _, rfl, fun j _ hj => absurd hj (Nat.not_lt_zero _), rfl⟩
  case round =>
    obtain ⟨k, hk, rfl, hal, rfl⟩ := hrel
    have HA : Hid (∀ j (hj : j < zs.length), j < k → (x == zs[j]) = false) := hal
    clear hal
    by_cases hlt : k < zs.length
    · obtain ⟨g', o, cap2, hv, _, hg, hc⟩ := HR.out.resolve_left (fun h => by rw [h.1] at hlt; simp at hlt)
      injection hv with hv1 hv2 hv3
      subst hv1 hv3
      have d0 := hc k hlt
      have HX : Hid ((x == zs[k]) = true → g = true) := fun h => HY.out k hlt h
      have HX2 : Hid ((x == zs[k]) = false → ∀ j (hj : j < zs.length), j < k + 1 → (x == zs[j]) = false) := fun h j hl hj => by
        rcases Nat.lt_succ_iff_lt_or_eq.1 hj with h2 | h2
        · exact HA.out j hl h2
        · subst h2; exact h
      generalize zs[k] = y at *
      have hk0 : (0 : Int) ≤ (k : Int) := by omega
      have hk1 : (k : Int) < (zs.length : Int) := by omega
      clear hc hv2
      cases hq : (x == y)
      · have HG2 : Hid _ := HX2.out hq
        go_wp2
        exact ⟨⟨k + 1, hlt, by simp, HG2.out, trivial⟩, by simp [intOf]; omega⟩
      · have hg2 := HX.out hq
        subst hg2
        go_wp2
        go_ret
        exact ⟨_, rfl, by first | omega | simp, rfl⟩
    · obtain rfl : k = zs.length := by omega
      have hg := HN.out (fun j hj => HA.out j hj hj)
      subst hg
      go_wp2
      go_ret
      exact ⟨_, rfl, by first | omega | simp, rfl⟩
set_option maxRecDepth 100000 in
set_option maxHeartbeats 2000000 in
theorem containsZ_any {w : World} {v : Value} {zs : List Int} (h : Irow w v zs) (hl : zs.length ≤ 1048576) (x : Int) : Calls Try.prog 84 #[v, .int .i64 x] w fun r w' => r = .returned (.bool (zs.any (fun z => x == z))) ∧ w' = w := by
  have HI : Hid _ := indexZ_any h hl x
  obtain ⟨ao, cap, rfl⟩ := h.sl
  clear h
  generalize zs.any (fun z => x == z) = g at *
  go_enter Try.func84, Try.ntmps84
  go_wp2_with (go_at_call 96; refine Calls.mono HI.out ?_; rintro e u1 ⟨q, rfl, hq, hu⟩; rw [hu]; clear hu; have HQ : Hid _ := hq; clear hq)
  go_ret
  exact ⟨ret_bool HQ.out, rfl⟩
def ifB (r : NR) (p : PK) : Bool := !(r.proto != 0 && r.proto != p.proto) && (p.proto == 1 || decide (r.low ≤ p.dp) && decide (p.dp ≤ r.high))
set_option maxRecDepth 100000 in
set_option maxHeartbeats 4000000 in
theorem isFor_any (r : NR) (p : PK) (w : World) : Calls Try.prog 64 #[nrA r, pkA p] w fun e w' => e = .returned (.bool (ifB r p)) ∧ Below w.heap.size w w' := by
  have HT0 : Hid (TB w ((w.alloc (.cells #[.bool r.inn, .int .i64 r.proto, .int .i64 r.addr, .int .i64 r.bits, .int .i64 r.low, .int .i64 r.high, .int .i64 r.group] 44)).alloc (.cells #[.int .i64 p.proto, .int .i64 p.src, .int .i64 p.sp, .int .i64 p.dst, .int .i64 p.dp, .int .i64 p.flags] 46)) w.heap.size (w.heap.size + 1) #[.bool r.inn, .int .i64 r.proto, .int .i64 r.addr, .int .i64 r.bits, .int .i64 r.low, .int .i64 r.high, .int .i64 r.group] 44 #[.int .i64 p.proto, .int .i64 p.src, .int .i64 p.sp, .int .i64 p.dst, .int .i64 p.dp, .int .i64 p.flags] 46) := TB.new w _ _ _ _
  have E : Hid (ifB r p = (!(r.proto != 0 && r.proto != p.proto) && (p.proto == 1 || decide (r.low ≤ p.dp) && decide (p.dp ≤ r.high)))) := rfl
  unfold nrA pkA pkC
  cases ha : (r.proto != 0)
  · rw [ha] at E
    cases hb : (p.proto == 1)
    · rw [hb] at E
      cases hc : decide (r.low ≤ p.dp)
      · rw [hc] at E
        go_enter Try.func64, Try.ntmps64
        go_upto_region 1 with fail
        generalize ((w.alloc (.cells #[.bool r.inn, .int .i64 r.proto, .int .i64 r.addr, .int .i64 r.bits, .int .i64 r.low, .int .i64 r.high, .int .i64 r.group] 44)).alloc (.cells #[.int .i64 p.proto, .int .i64 p.src, .int .i64 p.sp, .int .i64 p.dst, .int .i64 p.dp, .int .i64 p.flags] 46)) = u0 at *
        generalize w.heap.size + 1 = b1 at *
        generalize w.heap.size = b0 at *
        have k1 := HT0.out.c1 1 _ rfl
        have k4 := HT0.out.c1 4 _ rfl
        have k5 := HT0.out.c1 5 _ rfl
        have j0 := HT0.out.c2 0 _ rfl
        have j4 := HT0.out.c2 4 _ rfl
        have kl := HT0.out.lt1
        have jl := HT0.out.lt2
        go_wp2
        go_ret
        exact ⟨ret_bool (by rw [E.out]; simp), HT0.out.bel⟩
      · rw [hc] at E
        go_enter Try.func64, Try.ntmps64
        go_upto_region 1 with fail
        generalize ((w.alloc (.cells #[.bool r.inn, .int .i64 r.proto, .int .i64 r.addr, .int .i64 r.bits, .int .i64 r.low, .int .i64 r.high, .int .i64 r.group] 44)).alloc (.cells #[.int .i64 p.proto, .int .i64 p.src, .int .i64 p.sp, .int .i64 p.dst, .int .i64 p.dp, .int .i64 p.flags] 46)) = u0 at *
        generalize w.heap.size + 1 = b1 at *
        generalize w.heap.size = b0 at *
        have k1 := HT0.out.c1 1 _ rfl
        have k4 := HT0.out.c1 4 _ rfl
        have k5 := HT0.out.c1 5 _ rfl
        have j0 := HT0.out.c2 0 _ rfl
        have j4 := HT0.out.c2 4 _ rfl
        have kl := HT0.out.lt1
        have jl := HT0.out.lt2
        go_wp2
        go_ret
        exact ⟨ret_bool (by rw [E.out]; simp), HT0.out.bel⟩
    · rw [hb] at E
      go_enter Try.func64, Try.ntmps64
      go_upto_region 1 with fail
      generalize ((w.alloc (.cells #[.bool r.inn, .int .i64 r.proto, .int .i64 r.addr, .int .i64 r.bits, .int .i64 r.low, .int .i64 r.high, .int .i64 r.group] 44)).alloc (.cells #[.int .i64 p.proto, .int .i64 p.src, .int .i64 p.sp, .int .i64 p.dst, .int .i64 p.dp, .int .i64 p.flags] 46)) = u0 at *
      generalize w.heap.size + 1 = b1 at *
      generalize w.heap.size = b0 at *
      have k1 := HT0.out.c1 1 _ rfl
      have k4 := HT0.out.c1 4 _ rfl
      have k5 := HT0.out.c1 5 _ rfl
      have j0 := HT0.out.c2 0 _ rfl
      have j4 := HT0.out.c2 4 _ rfl
      have kl := HT0.out.lt1
      have jl := HT0.out.lt2
      go_wp2
      go_ret
      exact ⟨ret_bool (by rw [E.out]; simp), HT0.out.bel⟩
  · rw [ha] at E
    cases hd : (r.proto != p.proto)
    · rw [hd] at E
      cases hb : (p.proto == 1)
      · rw [hb] at E
        cases hc : decide (r.low ≤ p.dp)
        · rw [hc] at E
          go_enter Try.func64, Try.ntmps64
          go_upto_region 1 with fail
          generalize ((w.alloc (.cells #[.bool r.inn, .int .i64 r.proto, .int .i64 r.addr, .int .i64 r.bits, .int .i64 r.low, .int .i64 r.high, .int .i64 r.group] 44)).alloc (.cells #[.int .i64 p.proto, .int .i64 p.src, .int .i64 p.sp, .int .i64 p.dst, .int .i64 p.dp, .int .i64 p.flags] 46)) = u0 at *
          generalize w.heap.size + 1 = b1 at *
          generalize w.heap.size = b0 at *
          have k1 := HT0.out.c1 1 _ rfl
          have k4 := HT0.out.c1 4 _ rfl
          have k5 := HT0.out.c1 5 _ rfl
          have j0 := HT0.out.c2 0 _ rfl
          have j4 := HT0.out.c2 4 _ rfl
          have kl := HT0.out.lt1
          have jl := HT0.out.lt2
          go_wp2
          go_ret
          exact ⟨ret_bool (by rw [E.out]; simp), HT0.out.bel⟩
        · rw [hc] at E
          go_enter Try.func64, Try.ntmps64
          go_upto_region 1 with fail
          generalize ((w.alloc (.cells #[.bool r.inn, .int .i64 r.proto, .int .i64 r.addr, .int .i64 r.bits, .int .i64 r.low, .int .i64 r.high, .int .i64 r.group] 44)).alloc (.cells #[.int .i64 p.proto, .int .i64 p.src, .int .i64 p.sp, .int .i64 p.dst, .int .i64 p.dp, .int .i64 p.flags] 46)) = u0 at *
          generalize w.heap.size + 1 = b1 at *
          generalize w.heap.size = b0 at *
          have k1 := HT0.out.c1 1 _ rfl
          have k4 := HT0.out.c1 4 _ rfl
          have k5 := HT0.out.c1 5 _ rfl
          have j0 := HT0.out.c2 0 _ rfl
          have j4 := HT0.out.c2 4 _ rfl
          have kl := HT0.out.lt1
          have jl := HT0.out.lt2
          go_wp2
          go_ret
          exact ⟨ret_bool (by rw [E.out]; simp), HT0.out.bel⟩
      · rw [hb] at E
        go_enter Try.func64, Try.ntmps64
        go_upto_region 1 with fail
        generalize ((w.alloc (.cells #[.bool r.inn, .int .i64 r.proto, .int .i64 r.addr, .int .i64 r.bits, .int .i64 r.low, .int .i64 r.high, .int .i64 r.group] 44)).alloc (.cells #[.int .i64 p.proto, .int .i64 p.src, .int .i64 p.sp, .int .i64 p.dst, .int .i64 p.dp, .int .i64 p.flags] 46)) = u0 at *
        generalize w.heap.size + 1 = b1 at *
        generalize w.heap.size = b0 at *
        have k1 := HT0.out.c1 1 _ rfl
        have k4 := HT0.out.c1 4 _ rfl
        have k5 := HT0.out.c1 5 _ rfl
        have j0 := HT0.out.c2 0 _ rfl
        have j4 := HT0.out.c2 4 _ rfl
        have kl := HT0.out.lt1
        have jl := HT0.out.lt2
        go_wp2
        go_ret
        exact ⟨ret_bool (by rw [E.out]; simp), HT0.out.bel⟩
    · rw [hd] at E
      go_enter Try.func64, Try.ntmps64
      go_upto_region 1 with fail
      generalize ((w.alloc (.cells #[.bool r.inn, .int .i64 r.proto, .int .i64 r.addr, .int .i64 r.bits, .int .i64 r.low, .int .i64 r.high, .int .i64 r.group] 44)).alloc (.cells #[.int .i64 p.proto, .int .i64 p.src, .int .i64 p.sp, .int .i64 p.dst, .int .i64 p.dp, .int .i64 p.flags] 46)) = u0 at *
      generalize w.heap.size + 1 = b1 at *
      generalize w.heap.size = b0 at *
      have k1 := HT0.out.c1 1 _ rfl
      have k4 := HT0.out.c1 4 _ rfl
      have k5 := HT0.out.c1 5 _ rfl
      have j0 := HT0.out.c2 0 _ rfl
      have j4 := HT0.out.c2 4 _ rfl
      have kl := HT0.out.lt1
      have jl := HT0.out.lt2
      go_wp2
      go_ret
      exact ⟨ret_bool (by rw [E.out]; simp), HT0.out.bel⟩
def haB (n : Nat) (x y : Int) : Bool := x / 2 ^ n == y / 2 ^ n
set_option maxRecDepth 100000 in
set_option maxHeartbeats 4000000 in
theorem hasAddr_any (r : NR) (n : Nat) (hn : (32 : Int) - r.bits = (n : Int)) (hb0 : 0 ≤ r.bits) (x : Int) (w : World) : Calls Try.prog 65 #[nrA r, .int .i64 x] w fun e w' => e = .returned (.bool (haB n x r.addr)) ∧ Below w.heap.size w w' := by
  have HL0 : Hid (LG w (w.alloc (.cells #[.bool r.inn, .int .i64 r.proto, .int .i64 r.addr, .int .i64 r.bits, .int .i64 r.low, .int .i64 r.high, .int .i64 r.group] 44)) w.heap.size #[.bool r.inn, .int .i64 r.proto, .int .i64 r.addr, .int .i64 r.bits, .int .i64 r.low, .int .i64 r.high, .int .i64 r.group] 44) := LG.new w _ _
  unfold nrA haB
  go_enter Try.func65, Try.ntmps65
  go_upto_region 1 with fail
  generalize (w.alloc (.cells #[.bool r.inn, .int .i64 r.proto, .int .i64 r.addr, .int .i64 r.bits, .int .i64 r.low, .int .i64 r.high, .int .i64 r.group] 44)) = u0 at *
  generalize w.heap.size = b0 at *
  have k2 := HL0.out.cel 2 _ rfl
  have k3 := HL0.out.cel 3 _ rfl
  have kl := HL0.out.lt
  have hs0 : (0 : Int) ≤ (n : Int) := by omega
  have hs1 : (n : Int) ≤ 64 := by omega
  go_wp2_with (go_quiet (fail))
  go_ret
  exact ⟨rfl, by first | exact HL0.out.bel | exact bdn HL0.out.bel _⟩
/-- Whether a host with this address has this group. -/
def igB (s : FI) (x g : Int) : Bool := match (s.hs.map (·.addr)).findIdx? (fun y => y == x) with
  | some k => (s.hs.getD k ho9).gs.any (fun z => g == z)
  | none => false
theorem hAt_some {l : List Int} {x : Int} {k : Nat} (h : l.findIdx? (fun y => y == x) = some k) : hAt l x = (k : Int) ∧ k < l.length := by
  unfold hAt
  rw [h]
  exact ⟨rfl, (List.findIdx?_eq_some_iff_getElem.1 h).1⟩
theorem hAt_none {l : List Int} {x : Int} (h : l.findIdx? (fun y => y == x) = none) : hAt l x = -1 := by
  unfold hAt
  rw [h]
set_option maxRecDepth 100000 in
set_option maxHeartbeats 4000000 in
theorem isInGroup_any {w : World} {b : Nat} {s : FI} {a : FA} (h : FX w b s a) (hl : FIlen s) (x g : Int) : Calls Try.prog 66 #[.pointer (some ⟨b, 0, none⟩), .int .i64 x, .int .i64 g] w fun e w' => e = .returned (.bool (igB s x g)) ∧ Below w.heap.size w w' := by
  have HX : Hid (FX w b s a) := h
  have HH : Hid _ := hostAt_any h hl.lhs.len x
  unfold igB
  cases hf : (s.hs.map (·.addr)).findIdx? (fun y => y == x) with
  | none =>
    rw [hAt_none hf] at HH
    clear h hf
    go_enter Try.func66, Try.ntmps66
    go_wp2_with fail
    refine Calls.mono HH.out ?_
    rintro e u1 ⟨rfl, hb1⟩
    have HB1 : Hid (Below w.heap.size w u1) := hb1
    clear hb1
    go_wp2
    go_ret
    exact ⟨rfl, HB1.out⟩
  | some k =>
    obtain ⟨e1, hk⟩ := hAt_some hf
    rw [e1] at HH
    have hlt : k < s.hs.length := by simpa using hk
    have hkq : k < a.qhs.length := by rw [h.row.nhs.len]; exact hlt
    obtain ⟨ao, cap, ee⟩ := h.sh
    have HR : Hid (NHrow w (.slice ao s.hs.length cap) a.qhs) := (show NHrow w _ a.qhs by rw [← ee]; exact h.row.rhs)
    obtain ⟨p0, p1⟩ := h.row.nhs.el k hkq hlt
    have lp := hl.lhs.el k hlt
    have HE : Hid (a.vhs = .slice ao s.hs.length cap) := ee
    obtain ⟨g2, o, cap2, hv, _, hg, hc⟩ := HR.out.resolve_left (fun h => by rw [h.1] at hkq; simp at hkq)
    injection hv with hv1 hv2 hv3
    subst hv1 hv3
    have HD : Hid (∀ u, Below w.heap.size w u → u.cell? ⟨g2, o + k * 2 + 1, none⟩ = some a.qhs[k].groups ∧ g2 < u.heap.size) := fun u hu => ⟨(hc.below hu hg k hkq).2, Nat.lt_of_lt_of_le hg hu.size⟩
    simp only
    rw [gdh hlt]
    clear p0
    generalize s.hs[k] = p at *
    generalize a.qhs[k].groups = y at *
    obtain ⟨ay, ky, rfl⟩ := p1.sl
    have HCT : Hid (∀ u, Below w.heap.size w u → Calls Try.prog 84 #[.slice ay p.gs.length ky, .int .i64 g] u fun r w' => r = .returned (.bool (p.gs.any (fun z => g == z))) ∧ w' = u) := fun u hu => containsZ_any (p1.below hu) lp g
    generalize (p.gs.any (fun z => g == z)) = R at *
    have hk0 : (0 : Int) ≤ (k : Int) := by omega
    have hk1 : (k : Int) < (s.hs.length : Int) := by omega
    have hne : ((k : Int) != -1) = true := bne_iff_ne.2 (by omega)
    clear h hf e1 hk hc hv2 p1 ee
    go_enter Try.func66, Try.ntmps66
    go_wp2_with fail
    refine Calls.mono HH.out ?_
    rintro e u1 ⟨rfl, hb1⟩
    have HB1 : Hid (Below w.heap.size w u1) := hb1
    clear hb1
    have x0 := (HX.out.below HB1.out).c0
    have xl := (HX.out.below HB1.out).lt
    rw [HE.out] at x0
    obtain ⟨d1, dl⟩ := HD.out _ HB1.out
    go_wp2_with fail
    refine Calls.mono (HCT.out _ HB1.out) ?_
    rintro e u2 ⟨rfl, hw2⟩
    rw [hw2]
    clear hw2
    go_wp2
    go_ret
    exact ⟨rfl, HB1.out⟩
def rtB (s : FI) (n : Nat) (r : NR) (p : PK) (inn : Bool) : Bool := !(r.inn != inn || !ifB r p) && (haB n (if inn = true then p.src else p.dst) r.addr && (r.group == -1 || igB s (if inn = true then p.src else p.dst) r.group))
set_option maxRecDepth 100000 in
set_option maxHeartbeats 4000000 in
theorem ruleLets_false_false {w : World} {b : Nat} {s : FI} {a : FA} (h : FX w b s a) (hl : FIlen s) (r : NR) (hr : r.inn = false) (n : Nat) (hn : (32 : Int) - r.bits = (n : Int)) (hb0 : 0 ≤ r.bits) (p : PK) : Calls Try.prog 41 #[.pointer (some ⟨b, 0, none⟩), .agg #[.bool false, .int .i64 r.proto, .int .i64 r.addr, .int .i64 r.bits, .int .i64 r.low, .int .i64 r.high, .int .i64 r.group], .agg #[.int .i64 p.proto, .int .i64 p.src, .int .i64 p.sp, .int .i64 p.dst, .int .i64 p.dp, .int .i64 p.flags], .bool false] w fun e w' => e = .returned (.bool (rtB s n r p false)) ∧ Below w.heap.size w w' := by
  have HX : Hid (FX w b s a) := h
  have HT0 : Hid (TB w ((w.alloc (.cells #[.bool false, .int .i64 r.proto, .int .i64 r.addr, .int .i64 r.bits, .int .i64 r.low, .int .i64 r.high, .int .i64 r.group] 44)).alloc (.cells #[.int .i64 p.proto, .int .i64 p.src, .int .i64 p.sp, .int .i64 p.dst, .int .i64 p.dp, .int .i64 p.flags] 46)) w.heap.size (w.heap.size + 1) #[.bool false, .int .i64 r.proto, .int .i64 r.addr, .int .i64 r.bits, .int .i64 r.low, .int .i64 r.high, .int .i64 r.group] 44 #[.int .i64 p.proto, .int .i64 p.src, .int .i64 p.sp, .int .i64 p.dst, .int .i64 p.dp, .int .i64 p.flags] 46) := TB.new w _ _ _ _
  have HIF : Hid (∀ u, Aft w u → Calls Try.prog 64 #[.agg #[.bool false, .int .i64 r.proto, .int .i64 r.addr, .int .i64 r.bits, .int .i64 r.low, .int .i64 r.high, .int .i64 r.group], .agg #[.int .i64 p.proto, .int .i64 p.src, .int .i64 p.sp, .int .i64 p.dst, .int .i64 p.dp, .int .i64 p.flags]] u fun e w' => e = .returned (.bool (ifB r p)) ∧ Below u.heap.size u w') := (fun u _ => by have h9 := isFor_any r p u; unfold nrA pkA pkC at h9; rw [hr] at h9; exact h9)
  have HHA : Hid (∀ u, Aft w u → Calls Try.prog 65 #[.agg #[.bool false, .int .i64 r.proto, .int .i64 r.addr, .int .i64 r.bits, .int .i64 r.low, .int .i64 r.high, .int .i64 r.group], .int .i64 p.dst] u fun e w' => e = .returned (.bool (haB n p.dst r.addr)) ∧ Below u.heap.size u w') := (fun u _ => by have h9 := hasAddr_any r n hn hb0 p.dst u; unfold nrA at h9; rw [hr] at h9; exact h9)
  have HIG : Hid (∀ u, Aft w u → Calls Try.prog 66 #[.pointer (some ⟨b, 0, none⟩), .int .i64 p.dst, .int .i64 r.group] u fun e w' => e = .returned (.bool (igB s p.dst r.group)) ∧ Below u.heap.size u w') := fun u hu => isInGroup_any (HX.out.aft hu) hl p.dst r.group
  have E : Hid (rtB s n r p false = (!(false != false || !ifB r p) && (haB n p.dst r.addr && (r.group == -1 || igB s p.dst r.group)))) := (show rtB s n r p false = _ by unfold rtB; rw [hr]; rfl)
  generalize igB s p.dst r.group = IG at *
  clear h hn hb0 hr
  cases h2 : ifB r p
  · rw [h2] at E HIF
    go_enter Try.func41, Try.ntmps41
    go_upto_region 1 with fail
    generalize ((w.alloc (.cells #[.bool false, .int .i64 r.proto, .int .i64 r.addr, .int .i64 r.bits, .int .i64 r.low, .int .i64 r.high, .int .i64 r.group] 44)).alloc (.cells #[.int .i64 p.proto, .int .i64 p.src, .int .i64 p.sp, .int .i64 p.dst, .int .i64 p.dp, .int .i64 p.flags] 46)) = u0 at *
    generalize w.heap.size + 1 = b1 at *
    generalize e0 : w.heap.size = b0 at *
    have k0 := HT0.out.c1 0 _ rfl
    have k1 := HT0.out.c1 1 _ rfl
    have k2 := HT0.out.c1 2 _ rfl
    have k3 := HT0.out.c1 3 _ rfl
    have k4 := HT0.out.c1 4 _ rfl
    have k5 := HT0.out.c1 5 _ rfl
    have k6 := HT0.out.c1 6 _ rfl
    have j0 := HT0.out.c2 0 _ rfl
    have j1 := HT0.out.c2 1 _ rfl
    have j2 := HT0.out.c2 2 _ rfl
    have j3 := HT0.out.c2 3 _ rfl
    have j4 := HT0.out.c2 4 _ rfl
    have j5 := HT0.out.c2 5 _ rfl
    have kl := HT0.out.lt1
    have jl := HT0.out.lt2
    go_wp2_with fail
    refine Calls.mono (HIF.out _ HT0.out.aft) ?_
    rintro e u1 ⟨rfl, hu⟩
    have HT1 : Hid (TB w u1 b0 b1 #[.bool false, .int .i64 r.proto, .int .i64 r.addr, .int .i64 r.bits, .int .i64 r.low, .int .i64 r.high, .int .i64 r.group] 44 #[.int .i64 p.proto, .int .i64 p.src, .int .i64 p.sp, .int .i64 p.dst, .int .i64 p.dp, .int .i64 p.flags] 46) := HT0.out.step hu
    clear hu
    clear k0 k1 k2 k3 k4 k5 k6 j0 j1 j2 j3 j4 j5 kl jl
    have k0 := HT1.out.c1 0 _ rfl
    have k1 := HT1.out.c1 1 _ rfl
    have k2 := HT1.out.c1 2 _ rfl
    have k3 := HT1.out.c1 3 _ rfl
    have k4 := HT1.out.c1 4 _ rfl
    have k5 := HT1.out.c1 5 _ rfl
    have k6 := HT1.out.c1 6 _ rfl
    have j0 := HT1.out.c2 0 _ rfl
    have j1 := HT1.out.c2 1 _ rfl
    have j2 := HT1.out.c2 2 _ rfl
    have j3 := HT1.out.c2 3 _ rfl
    have j4 := HT1.out.c2 4 _ rfl
    have j5 := HT1.out.c2 5 _ rfl
    have kl := HT1.out.lt1
    have jl := HT1.out.lt2
    go_wp2
    go_ret
    exact ⟨ret_bool (by rw [E.out]; simp), HT1.out.bel⟩
  · rw [h2] at E HIF
    cases h3 : haB n p.dst r.addr
    · rw [h3] at E HHA
      go_enter Try.func41, Try.ntmps41
      go_upto_region 1 with fail
      generalize ((w.alloc (.cells #[.bool false, .int .i64 r.proto, .int .i64 r.addr, .int .i64 r.bits, .int .i64 r.low, .int .i64 r.high, .int .i64 r.group] 44)).alloc (.cells #[.int .i64 p.proto, .int .i64 p.src, .int .i64 p.sp, .int .i64 p.dst, .int .i64 p.dp, .int .i64 p.flags] 46)) = u0 at *
      generalize w.heap.size + 1 = b1 at *
      generalize e0 : w.heap.size = b0 at *
      have k0 := HT0.out.c1 0 _ rfl
      have k1 := HT0.out.c1 1 _ rfl
      have k2 := HT0.out.c1 2 _ rfl
      have k3 := HT0.out.c1 3 _ rfl
      have k4 := HT0.out.c1 4 _ rfl
      have k5 := HT0.out.c1 5 _ rfl
      have k6 := HT0.out.c1 6 _ rfl
      have j0 := HT0.out.c2 0 _ rfl
      have j1 := HT0.out.c2 1 _ rfl
      have j2 := HT0.out.c2 2 _ rfl
      have j3 := HT0.out.c2 3 _ rfl
      have j4 := HT0.out.c2 4 _ rfl
      have j5 := HT0.out.c2 5 _ rfl
      have kl := HT0.out.lt1
      have jl := HT0.out.lt2
      go_wp2_with fail
      refine Calls.mono (HIF.out _ HT0.out.aft) ?_
      rintro e u1 ⟨rfl, hu⟩
      have HT1 : Hid (TB w u1 b0 b1 #[.bool false, .int .i64 r.proto, .int .i64 r.addr, .int .i64 r.bits, .int .i64 r.low, .int .i64 r.high, .int .i64 r.group] 44 #[.int .i64 p.proto, .int .i64 p.src, .int .i64 p.sp, .int .i64 p.dst, .int .i64 p.dp, .int .i64 p.flags] 46) := HT0.out.step hu
      clear hu
      clear k0 k1 k2 k3 k4 k5 k6 j0 j1 j2 j3 j4 j5 kl jl
      have k0 := HT1.out.c1 0 _ rfl
      have k1 := HT1.out.c1 1 _ rfl
      have k2 := HT1.out.c1 2 _ rfl
      have k3 := HT1.out.c1 3 _ rfl
      have k4 := HT1.out.c1 4 _ rfl
      have k5 := HT1.out.c1 5 _ rfl
      have k6 := HT1.out.c1 6 _ rfl
      have j0 := HT1.out.c2 0 _ rfl
      have j1 := HT1.out.c2 1 _ rfl
      have j2 := HT1.out.c2 2 _ rfl
      have j3 := HT1.out.c2 3 _ rfl
      have j4 := HT1.out.c2 4 _ rfl
      have j5 := HT1.out.c2 5 _ rfl
      have kl := HT1.out.lt1
      have jl := HT1.out.lt2
      go_wp2_with fail
      refine Calls.mono (HHA.out _ HT1.out.aft) ?_
      rintro e u2 ⟨rfl, hu⟩
      have HT2 : Hid (TB w u2 b0 b1 #[.bool false, .int .i64 r.proto, .int .i64 r.addr, .int .i64 r.bits, .int .i64 r.low, .int .i64 r.high, .int .i64 r.group] 44 #[.int .i64 p.proto, .int .i64 p.src, .int .i64 p.sp, .int .i64 p.dst, .int .i64 p.dp, .int .i64 p.flags] 46) := HT1.out.step hu
      clear hu
      clear k0 k1 k2 k3 k4 k5 k6 j0 j1 j2 j3 j4 j5 kl jl
      have k0 := HT2.out.c1 0 _ rfl
      have k1 := HT2.out.c1 1 _ rfl
      have k2 := HT2.out.c1 2 _ rfl
      have k3 := HT2.out.c1 3 _ rfl
      have k4 := HT2.out.c1 4 _ rfl
      have k5 := HT2.out.c1 5 _ rfl
      have k6 := HT2.out.c1 6 _ rfl
      have j0 := HT2.out.c2 0 _ rfl
      have j1 := HT2.out.c2 1 _ rfl
      have j2 := HT2.out.c2 2 _ rfl
      have j3 := HT2.out.c2 3 _ rfl
      have j4 := HT2.out.c2 4 _ rfl
      have j5 := HT2.out.c2 5 _ rfl
      have kl := HT2.out.lt1
      have jl := HT2.out.lt2
      go_wp2
      go_ret
      exact ⟨ret_bool (by rw [E.out]; simp), HT2.out.bel⟩
    · rw [h3] at E HHA
      cases h4 : (r.group == -1)
      · rw [h4] at E
        go_enter Try.func41, Try.ntmps41
        go_upto_region 1 with fail
        generalize ((w.alloc (.cells #[.bool false, .int .i64 r.proto, .int .i64 r.addr, .int .i64 r.bits, .int .i64 r.low, .int .i64 r.high, .int .i64 r.group] 44)).alloc (.cells #[.int .i64 p.proto, .int .i64 p.src, .int .i64 p.sp, .int .i64 p.dst, .int .i64 p.dp, .int .i64 p.flags] 46)) = u0 at *
        generalize w.heap.size + 1 = b1 at *
        generalize e0 : w.heap.size = b0 at *
        have k0 := HT0.out.c1 0 _ rfl
        have k1 := HT0.out.c1 1 _ rfl
        have k2 := HT0.out.c1 2 _ rfl
        have k3 := HT0.out.c1 3 _ rfl
        have k4 := HT0.out.c1 4 _ rfl
        have k5 := HT0.out.c1 5 _ rfl
        have k6 := HT0.out.c1 6 _ rfl
        have j0 := HT0.out.c2 0 _ rfl
        have j1 := HT0.out.c2 1 _ rfl
        have j2 := HT0.out.c2 2 _ rfl
        have j3 := HT0.out.c2 3 _ rfl
        have j4 := HT0.out.c2 4 _ rfl
        have j5 := HT0.out.c2 5 _ rfl
        have kl := HT0.out.lt1
        have jl := HT0.out.lt2
        go_wp2_with fail
        refine Calls.mono (HIF.out _ HT0.out.aft) ?_
        rintro e u1 ⟨rfl, hu⟩
        have HT1 : Hid (TB w u1 b0 b1 #[.bool false, .int .i64 r.proto, .int .i64 r.addr, .int .i64 r.bits, .int .i64 r.low, .int .i64 r.high, .int .i64 r.group] 44 #[.int .i64 p.proto, .int .i64 p.src, .int .i64 p.sp, .int .i64 p.dst, .int .i64 p.dp, .int .i64 p.flags] 46) := HT0.out.step hu
        clear hu
        clear k0 k1 k2 k3 k4 k5 k6 j0 j1 j2 j3 j4 j5 kl jl
        have k0 := HT1.out.c1 0 _ rfl
        have k1 := HT1.out.c1 1 _ rfl
        have k2 := HT1.out.c1 2 _ rfl
        have k3 := HT1.out.c1 3 _ rfl
        have k4 := HT1.out.c1 4 _ rfl
        have k5 := HT1.out.c1 5 _ rfl
        have k6 := HT1.out.c1 6 _ rfl
        have j0 := HT1.out.c2 0 _ rfl
        have j1 := HT1.out.c2 1 _ rfl
        have j2 := HT1.out.c2 2 _ rfl
        have j3 := HT1.out.c2 3 _ rfl
        have j4 := HT1.out.c2 4 _ rfl
        have j5 := HT1.out.c2 5 _ rfl
        have kl := HT1.out.lt1
        have jl := HT1.out.lt2
        go_wp2_with fail
        refine Calls.mono (HHA.out _ HT1.out.aft) ?_
        rintro e u2 ⟨rfl, hu⟩
        have HT2 : Hid (TB w u2 b0 b1 #[.bool false, .int .i64 r.proto, .int .i64 r.addr, .int .i64 r.bits, .int .i64 r.low, .int .i64 r.high, .int .i64 r.group] 44 #[.int .i64 p.proto, .int .i64 p.src, .int .i64 p.sp, .int .i64 p.dst, .int .i64 p.dp, .int .i64 p.flags] 46) := HT1.out.step hu
        clear hu
        clear k0 k1 k2 k3 k4 k5 k6 j0 j1 j2 j3 j4 j5 kl jl
        have k0 := HT2.out.c1 0 _ rfl
        have k1 := HT2.out.c1 1 _ rfl
        have k2 := HT2.out.c1 2 _ rfl
        have k3 := HT2.out.c1 3 _ rfl
        have k4 := HT2.out.c1 4 _ rfl
        have k5 := HT2.out.c1 5 _ rfl
        have k6 := HT2.out.c1 6 _ rfl
        have j0 := HT2.out.c2 0 _ rfl
        have j1 := HT2.out.c2 1 _ rfl
        have j2 := HT2.out.c2 2 _ rfl
        have j3 := HT2.out.c2 3 _ rfl
        have j4 := HT2.out.c2 4 _ rfl
        have j5 := HT2.out.c2 5 _ rfl
        have kl := HT2.out.lt1
        have jl := HT2.out.lt2
        go_wp2_with fail
        refine Calls.mono (HIG.out _ HT2.out.aft) ?_
        rintro e u3 ⟨rfl, hu⟩
        have HT3 : Hid (TB w u3 b0 b1 #[.bool false, .int .i64 r.proto, .int .i64 r.addr, .int .i64 r.bits, .int .i64 r.low, .int .i64 r.high, .int .i64 r.group] 44 #[.int .i64 p.proto, .int .i64 p.src, .int .i64 p.sp, .int .i64 p.dst, .int .i64 p.dp, .int .i64 p.flags] 46) := HT2.out.step hu
        clear hu
        clear k0 k1 k2 k3 k4 k5 k6 j0 j1 j2 j3 j4 j5 kl jl
        have k0 := HT3.out.c1 0 _ rfl
        have k1 := HT3.out.c1 1 _ rfl
        have k2 := HT3.out.c1 2 _ rfl
        have k3 := HT3.out.c1 3 _ rfl
        have k4 := HT3.out.c1 4 _ rfl
        have k5 := HT3.out.c1 5 _ rfl
        have k6 := HT3.out.c1 6 _ rfl
        have j0 := HT3.out.c2 0 _ rfl
        have j1 := HT3.out.c2 1 _ rfl
        have j2 := HT3.out.c2 2 _ rfl
        have j3 := HT3.out.c2 3 _ rfl
        have j4 := HT3.out.c2 4 _ rfl
        have j5 := HT3.out.c2 5 _ rfl
        have kl := HT3.out.lt1
        have jl := HT3.out.lt2
        go_wp2
        go_ret
        exact ⟨ret_bool (by rw [E.out]; simp), HT3.out.bel⟩
      · rw [h4] at E
        go_enter Try.func41, Try.ntmps41
        go_upto_region 1 with fail
        generalize ((w.alloc (.cells #[.bool false, .int .i64 r.proto, .int .i64 r.addr, .int .i64 r.bits, .int .i64 r.low, .int .i64 r.high, .int .i64 r.group] 44)).alloc (.cells #[.int .i64 p.proto, .int .i64 p.src, .int .i64 p.sp, .int .i64 p.dst, .int .i64 p.dp, .int .i64 p.flags] 46)) = u0 at *
        generalize w.heap.size + 1 = b1 at *
        generalize e0 : w.heap.size = b0 at *
        have k0 := HT0.out.c1 0 _ rfl
        have k1 := HT0.out.c1 1 _ rfl
        have k2 := HT0.out.c1 2 _ rfl
        have k3 := HT0.out.c1 3 _ rfl
        have k4 := HT0.out.c1 4 _ rfl
        have k5 := HT0.out.c1 5 _ rfl
        have k6 := HT0.out.c1 6 _ rfl
        have j0 := HT0.out.c2 0 _ rfl
        have j1 := HT0.out.c2 1 _ rfl
        have j2 := HT0.out.c2 2 _ rfl
        have j3 := HT0.out.c2 3 _ rfl
        have j4 := HT0.out.c2 4 _ rfl
        have j5 := HT0.out.c2 5 _ rfl
        have kl := HT0.out.lt1
        have jl := HT0.out.lt2
        go_wp2_with fail
        refine Calls.mono (HIF.out _ HT0.out.aft) ?_
        rintro e u1 ⟨rfl, hu⟩
        have HT1 : Hid (TB w u1 b0 b1 #[.bool false, .int .i64 r.proto, .int .i64 r.addr, .int .i64 r.bits, .int .i64 r.low, .int .i64 r.high, .int .i64 r.group] 44 #[.int .i64 p.proto, .int .i64 p.src, .int .i64 p.sp, .int .i64 p.dst, .int .i64 p.dp, .int .i64 p.flags] 46) := HT0.out.step hu
        clear hu
        clear k0 k1 k2 k3 k4 k5 k6 j0 j1 j2 j3 j4 j5 kl jl
        have k0 := HT1.out.c1 0 _ rfl
        have k1 := HT1.out.c1 1 _ rfl
        have k2 := HT1.out.c1 2 _ rfl
        have k3 := HT1.out.c1 3 _ rfl
        have k4 := HT1.out.c1 4 _ rfl
        have k5 := HT1.out.c1 5 _ rfl
        have k6 := HT1.out.c1 6 _ rfl
        have j0 := HT1.out.c2 0 _ rfl
        have j1 := HT1.out.c2 1 _ rfl
        have j2 := HT1.out.c2 2 _ rfl
        have j3 := HT1.out.c2 3 _ rfl
        have j4 := HT1.out.c2 4 _ rfl
        have j5 := HT1.out.c2 5 _ rfl
        have kl := HT1.out.lt1
        have jl := HT1.out.lt2
        go_wp2_with fail
        refine Calls.mono (HHA.out _ HT1.out.aft) ?_
        rintro e u2 ⟨rfl, hu⟩
        have HT2 : Hid (TB w u2 b0 b1 #[.bool false, .int .i64 r.proto, .int .i64 r.addr, .int .i64 r.bits, .int .i64 r.low, .int .i64 r.high, .int .i64 r.group] 44 #[.int .i64 p.proto, .int .i64 p.src, .int .i64 p.sp, .int .i64 p.dst, .int .i64 p.dp, .int .i64 p.flags] 46) := HT1.out.step hu
        clear hu
        clear k0 k1 k2 k3 k4 k5 k6 j0 j1 j2 j3 j4 j5 kl jl
        have k0 := HT2.out.c1 0 _ rfl
        have k1 := HT2.out.c1 1 _ rfl
        have k2 := HT2.out.c1 2 _ rfl
        have k3 := HT2.out.c1 3 _ rfl
        have k4 := HT2.out.c1 4 _ rfl
        have k5 := HT2.out.c1 5 _ rfl
        have k6 := HT2.out.c1 6 _ rfl
        have j0 := HT2.out.c2 0 _ rfl
        have j1 := HT2.out.c2 1 _ rfl
        have j2 := HT2.out.c2 2 _ rfl
        have j3 := HT2.out.c2 3 _ rfl
        have j4 := HT2.out.c2 4 _ rfl
        have j5 := HT2.out.c2 5 _ rfl
        have kl := HT2.out.lt1
        have jl := HT2.out.lt2
        go_wp2
        go_ret
        exact ⟨ret_bool (by rw [E.out]; simp), HT2.out.bel⟩
set_option maxRecDepth 100000 in
set_option maxHeartbeats 4000000 in
theorem ruleLets_false_true {w : World} {b : Nat} {s : FI} {a : FA} (h : FX w b s a) (hl : FIlen s) (r : NR) (hr : r.inn = true) (n : Nat) (hn : (32 : Int) - r.bits = (n : Int)) (hb0 : 0 ≤ r.bits) (p : PK) : Calls Try.prog 41 #[.pointer (some ⟨b, 0, none⟩), .agg #[.bool true, .int .i64 r.proto, .int .i64 r.addr, .int .i64 r.bits, .int .i64 r.low, .int .i64 r.high, .int .i64 r.group], .agg #[.int .i64 p.proto, .int .i64 p.src, .int .i64 p.sp, .int .i64 p.dst, .int .i64 p.dp, .int .i64 p.flags], .bool false] w fun e w' => e = .returned (.bool (rtB s n r p false)) ∧ Below w.heap.size w w' := by
  have HX : Hid (FX w b s a) := h
  have HT0 : Hid (TB w ((w.alloc (.cells #[.bool true, .int .i64 r.proto, .int .i64 r.addr, .int .i64 r.bits, .int .i64 r.low, .int .i64 r.high, .int .i64 r.group] 44)).alloc (.cells #[.int .i64 p.proto, .int .i64 p.src, .int .i64 p.sp, .int .i64 p.dst, .int .i64 p.dp, .int .i64 p.flags] 46)) w.heap.size (w.heap.size + 1) #[.bool true, .int .i64 r.proto, .int .i64 r.addr, .int .i64 r.bits, .int .i64 r.low, .int .i64 r.high, .int .i64 r.group] 44 #[.int .i64 p.proto, .int .i64 p.src, .int .i64 p.sp, .int .i64 p.dst, .int .i64 p.dp, .int .i64 p.flags] 46) := TB.new w _ _ _ _
  have HIF : Hid (∀ u, Aft w u → Calls Try.prog 64 #[.agg #[.bool true, .int .i64 r.proto, .int .i64 r.addr, .int .i64 r.bits, .int .i64 r.low, .int .i64 r.high, .int .i64 r.group], .agg #[.int .i64 p.proto, .int .i64 p.src, .int .i64 p.sp, .int .i64 p.dst, .int .i64 p.dp, .int .i64 p.flags]] u fun e w' => e = .returned (.bool (ifB r p)) ∧ Below u.heap.size u w') := (fun u _ => by have h9 := isFor_any r p u; unfold nrA pkA pkC at h9; rw [hr] at h9; exact h9)
  have HHA : Hid (∀ u, Aft w u → Calls Try.prog 65 #[.agg #[.bool true, .int .i64 r.proto, .int .i64 r.addr, .int .i64 r.bits, .int .i64 r.low, .int .i64 r.high, .int .i64 r.group], .int .i64 p.dst] u fun e w' => e = .returned (.bool (haB n p.dst r.addr)) ∧ Below u.heap.size u w') := (fun u _ => by have h9 := hasAddr_any r n hn hb0 p.dst u; unfold nrA at h9; rw [hr] at h9; exact h9)
  have HIG : Hid (∀ u, Aft w u → Calls Try.prog 66 #[.pointer (some ⟨b, 0, none⟩), .int .i64 p.dst, .int .i64 r.group] u fun e w' => e = .returned (.bool (igB s p.dst r.group)) ∧ Below u.heap.size u w') := fun u hu => isInGroup_any (HX.out.aft hu) hl p.dst r.group
  have E : Hid (rtB s n r p false = (!(true != false || !ifB r p) && (haB n p.dst r.addr && (r.group == -1 || igB s p.dst r.group)))) := (show rtB s n r p false = _ by unfold rtB; rw [hr]; rfl)
  generalize igB s p.dst r.group = IG at *
  clear h hn hb0 hr
  go_enter Try.func41, Try.ntmps41
  go_upto_region 1 with fail
  generalize ((w.alloc (.cells #[.bool true, .int .i64 r.proto, .int .i64 r.addr, .int .i64 r.bits, .int .i64 r.low, .int .i64 r.high, .int .i64 r.group] 44)).alloc (.cells #[.int .i64 p.proto, .int .i64 p.src, .int .i64 p.sp, .int .i64 p.dst, .int .i64 p.dp, .int .i64 p.flags] 46)) = u0 at *
  generalize w.heap.size + 1 = b1 at *
  generalize e0 : w.heap.size = b0 at *
  have k0 := HT0.out.c1 0 _ rfl
  have k1 := HT0.out.c1 1 _ rfl
  have k2 := HT0.out.c1 2 _ rfl
  have k3 := HT0.out.c1 3 _ rfl
  have k4 := HT0.out.c1 4 _ rfl
  have k5 := HT0.out.c1 5 _ rfl
  have k6 := HT0.out.c1 6 _ rfl
  have j0 := HT0.out.c2 0 _ rfl
  have j1 := HT0.out.c2 1 _ rfl
  have j2 := HT0.out.c2 2 _ rfl
  have j3 := HT0.out.c2 3 _ rfl
  have j4 := HT0.out.c2 4 _ rfl
  have j5 := HT0.out.c2 5 _ rfl
  have kl := HT0.out.lt1
  have jl := HT0.out.lt2
  go_wp2
  go_ret
  exact ⟨ret_bool (by rw [E.out]; simp), HT0.out.bel⟩
set_option maxRecDepth 100000 in
set_option maxHeartbeats 4000000 in
theorem ruleLets_true_false {w : World} {b : Nat} {s : FI} {a : FA} (h : FX w b s a) (hl : FIlen s) (r : NR) (hr : r.inn = false) (n : Nat) (hn : (32 : Int) - r.bits = (n : Int)) (hb0 : 0 ≤ r.bits) (p : PK) : Calls Try.prog 41 #[.pointer (some ⟨b, 0, none⟩), .agg #[.bool false, .int .i64 r.proto, .int .i64 r.addr, .int .i64 r.bits, .int .i64 r.low, .int .i64 r.high, .int .i64 r.group], .agg #[.int .i64 p.proto, .int .i64 p.src, .int .i64 p.sp, .int .i64 p.dst, .int .i64 p.dp, .int .i64 p.flags], .bool true] w fun e w' => e = .returned (.bool (rtB s n r p true)) ∧ Below w.heap.size w w' := by
  have HX : Hid (FX w b s a) := h
  have HT0 : Hid (TB w ((w.alloc (.cells #[.bool false, .int .i64 r.proto, .int .i64 r.addr, .int .i64 r.bits, .int .i64 r.low, .int .i64 r.high, .int .i64 r.group] 44)).alloc (.cells #[.int .i64 p.proto, .int .i64 p.src, .int .i64 p.sp, .int .i64 p.dst, .int .i64 p.dp, .int .i64 p.flags] 46)) w.heap.size (w.heap.size + 1) #[.bool false, .int .i64 r.proto, .int .i64 r.addr, .int .i64 r.bits, .int .i64 r.low, .int .i64 r.high, .int .i64 r.group] 44 #[.int .i64 p.proto, .int .i64 p.src, .int .i64 p.sp, .int .i64 p.dst, .int .i64 p.dp, .int .i64 p.flags] 46) := TB.new w _ _ _ _
  have HIF : Hid (∀ u, Aft w u → Calls Try.prog 64 #[.agg #[.bool false, .int .i64 r.proto, .int .i64 r.addr, .int .i64 r.bits, .int .i64 r.low, .int .i64 r.high, .int .i64 r.group], .agg #[.int .i64 p.proto, .int .i64 p.src, .int .i64 p.sp, .int .i64 p.dst, .int .i64 p.dp, .int .i64 p.flags]] u fun e w' => e = .returned (.bool (ifB r p)) ∧ Below u.heap.size u w') := (fun u _ => by have h9 := isFor_any r p u; unfold nrA pkA pkC at h9; rw [hr] at h9; exact h9)
  have HHA : Hid (∀ u, Aft w u → Calls Try.prog 65 #[.agg #[.bool false, .int .i64 r.proto, .int .i64 r.addr, .int .i64 r.bits, .int .i64 r.low, .int .i64 r.high, .int .i64 r.group], .int .i64 p.src] u fun e w' => e = .returned (.bool (haB n p.src r.addr)) ∧ Below u.heap.size u w') := (fun u _ => by have h9 := hasAddr_any r n hn hb0 p.src u; unfold nrA at h9; rw [hr] at h9; exact h9)
  have HIG : Hid (∀ u, Aft w u → Calls Try.prog 66 #[.pointer (some ⟨b, 0, none⟩), .int .i64 p.src, .int .i64 r.group] u fun e w' => e = .returned (.bool (igB s p.src r.group)) ∧ Below u.heap.size u w') := fun u hu => isInGroup_any (HX.out.aft hu) hl p.src r.group
  have E : Hid (rtB s n r p true = (!(false != true || !ifB r p) && (haB n p.src r.addr && (r.group == -1 || igB s p.src r.group)))) := (show rtB s n r p true = _ by unfold rtB; rw [hr]; rfl)
  generalize igB s p.src r.group = IG at *
  clear h hn hb0 hr
  go_enter Try.func41, Try.ntmps41
  go_upto_region 1 with fail
  generalize ((w.alloc (.cells #[.bool false, .int .i64 r.proto, .int .i64 r.addr, .int .i64 r.bits, .int .i64 r.low, .int .i64 r.high, .int .i64 r.group] 44)).alloc (.cells #[.int .i64 p.proto, .int .i64 p.src, .int .i64 p.sp, .int .i64 p.dst, .int .i64 p.dp, .int .i64 p.flags] 46)) = u0 at *
  generalize w.heap.size + 1 = b1 at *
  generalize e0 : w.heap.size = b0 at *
  have k0 := HT0.out.c1 0 _ rfl
  have k1 := HT0.out.c1 1 _ rfl
  have k2 := HT0.out.c1 2 _ rfl
  have k3 := HT0.out.c1 3 _ rfl
  have k4 := HT0.out.c1 4 _ rfl
  have k5 := HT0.out.c1 5 _ rfl
  have k6 := HT0.out.c1 6 _ rfl
  have j0 := HT0.out.c2 0 _ rfl
  have j1 := HT0.out.c2 1 _ rfl
  have j2 := HT0.out.c2 2 _ rfl
  have j3 := HT0.out.c2 3 _ rfl
  have j4 := HT0.out.c2 4 _ rfl
  have j5 := HT0.out.c2 5 _ rfl
  have kl := HT0.out.lt1
  have jl := HT0.out.lt2
  go_wp2
  go_ret
  exact ⟨ret_bool (by rw [E.out]; simp), HT0.out.bel⟩
set_option maxRecDepth 100000 in
set_option maxHeartbeats 4000000 in
theorem ruleLets_true_true {w : World} {b : Nat} {s : FI} {a : FA} (h : FX w b s a) (hl : FIlen s) (r : NR) (hr : r.inn = true) (n : Nat) (hn : (32 : Int) - r.bits = (n : Int)) (hb0 : 0 ≤ r.bits) (p : PK) : Calls Try.prog 41 #[.pointer (some ⟨b, 0, none⟩), .agg #[.bool true, .int .i64 r.proto, .int .i64 r.addr, .int .i64 r.bits, .int .i64 r.low, .int .i64 r.high, .int .i64 r.group], .agg #[.int .i64 p.proto, .int .i64 p.src, .int .i64 p.sp, .int .i64 p.dst, .int .i64 p.dp, .int .i64 p.flags], .bool true] w fun e w' => e = .returned (.bool (rtB s n r p true)) ∧ Below w.heap.size w w' := by
  have HX : Hid (FX w b s a) := h
  have HT0 : Hid (TB w ((w.alloc (.cells #[.bool true, .int .i64 r.proto, .int .i64 r.addr, .int .i64 r.bits, .int .i64 r.low, .int .i64 r.high, .int .i64 r.group] 44)).alloc (.cells #[.int .i64 p.proto, .int .i64 p.src, .int .i64 p.sp, .int .i64 p.dst, .int .i64 p.dp, .int .i64 p.flags] 46)) w.heap.size (w.heap.size + 1) #[.bool true, .int .i64 r.proto, .int .i64 r.addr, .int .i64 r.bits, .int .i64 r.low, .int .i64 r.high, .int .i64 r.group] 44 #[.int .i64 p.proto, .int .i64 p.src, .int .i64 p.sp, .int .i64 p.dst, .int .i64 p.dp, .int .i64 p.flags] 46) := TB.new w _ _ _ _
  have HIF : Hid (∀ u, Aft w u → Calls Try.prog 64 #[.agg #[.bool true, .int .i64 r.proto, .int .i64 r.addr, .int .i64 r.bits, .int .i64 r.low, .int .i64 r.high, .int .i64 r.group], .agg #[.int .i64 p.proto, .int .i64 p.src, .int .i64 p.sp, .int .i64 p.dst, .int .i64 p.dp, .int .i64 p.flags]] u fun e w' => e = .returned (.bool (ifB r p)) ∧ Below u.heap.size u w') := (fun u _ => by have h9 := isFor_any r p u; unfold nrA pkA pkC at h9; rw [hr] at h9; exact h9)
  have HHA : Hid (∀ u, Aft w u → Calls Try.prog 65 #[.agg #[.bool true, .int .i64 r.proto, .int .i64 r.addr, .int .i64 r.bits, .int .i64 r.low, .int .i64 r.high, .int .i64 r.group], .int .i64 p.src] u fun e w' => e = .returned (.bool (haB n p.src r.addr)) ∧ Below u.heap.size u w') := (fun u _ => by have h9 := hasAddr_any r n hn hb0 p.src u; unfold nrA at h9; rw [hr] at h9; exact h9)
  have HIG : Hid (∀ u, Aft w u → Calls Try.prog 66 #[.pointer (some ⟨b, 0, none⟩), .int .i64 p.src, .int .i64 r.group] u fun e w' => e = .returned (.bool (igB s p.src r.group)) ∧ Below u.heap.size u w') := fun u hu => isInGroup_any (HX.out.aft hu) hl p.src r.group
  have E : Hid (rtB s n r p true = (!(true != true || !ifB r p) && (haB n p.src r.addr && (r.group == -1 || igB s p.src r.group)))) := (show rtB s n r p true = _ by unfold rtB; rw [hr]; rfl)
  generalize igB s p.src r.group = IG at *
  clear h hn hb0 hr
  cases h2 : ifB r p
  · rw [h2] at E HIF
    go_enter Try.func41, Try.ntmps41
    go_upto_region 1 with fail
    generalize ((w.alloc (.cells #[.bool true, .int .i64 r.proto, .int .i64 r.addr, .int .i64 r.bits, .int .i64 r.low, .int .i64 r.high, .int .i64 r.group] 44)).alloc (.cells #[.int .i64 p.proto, .int .i64 p.src, .int .i64 p.sp, .int .i64 p.dst, .int .i64 p.dp, .int .i64 p.flags] 46)) = u0 at *
    generalize w.heap.size + 1 = b1 at *
    generalize e0 : w.heap.size = b0 at *
    have k0 := HT0.out.c1 0 _ rfl
    have k1 := HT0.out.c1 1 _ rfl
    have k2 := HT0.out.c1 2 _ rfl
    have k3 := HT0.out.c1 3 _ rfl
    have k4 := HT0.out.c1 4 _ rfl
    have k5 := HT0.out.c1 5 _ rfl
    have k6 := HT0.out.c1 6 _ rfl
    have j0 := HT0.out.c2 0 _ rfl
    have j1 := HT0.out.c2 1 _ rfl
    have j2 := HT0.out.c2 2 _ rfl
    have j3 := HT0.out.c2 3 _ rfl
    have j4 := HT0.out.c2 4 _ rfl
    have j5 := HT0.out.c2 5 _ rfl
    have kl := HT0.out.lt1
    have jl := HT0.out.lt2
    go_wp2_with fail
    refine Calls.mono (HIF.out _ HT0.out.aft) ?_
    rintro e u1 ⟨rfl, hu⟩
    have HT1 : Hid (TB w u1 b0 b1 #[.bool true, .int .i64 r.proto, .int .i64 r.addr, .int .i64 r.bits, .int .i64 r.low, .int .i64 r.high, .int .i64 r.group] 44 #[.int .i64 p.proto, .int .i64 p.src, .int .i64 p.sp, .int .i64 p.dst, .int .i64 p.dp, .int .i64 p.flags] 46) := HT0.out.step hu
    clear hu
    clear k0 k1 k2 k3 k4 k5 k6 j0 j1 j2 j3 j4 j5 kl jl
    have k0 := HT1.out.c1 0 _ rfl
    have k1 := HT1.out.c1 1 _ rfl
    have k2 := HT1.out.c1 2 _ rfl
    have k3 := HT1.out.c1 3 _ rfl
    have k4 := HT1.out.c1 4 _ rfl
    have k5 := HT1.out.c1 5 _ rfl
    have k6 := HT1.out.c1 6 _ rfl
    have j0 := HT1.out.c2 0 _ rfl
    have j1 := HT1.out.c2 1 _ rfl
    have j2 := HT1.out.c2 2 _ rfl
    have j3 := HT1.out.c2 3 _ rfl
    have j4 := HT1.out.c2 4 _ rfl
    have j5 := HT1.out.c2 5 _ rfl
    have kl := HT1.out.lt1
    have jl := HT1.out.lt2
    go_wp2
    go_ret
    exact ⟨ret_bool (by rw [E.out]; simp), HT1.out.bel⟩
  · rw [h2] at E HIF
    cases h3 : haB n p.src r.addr
    · rw [h3] at E HHA
      go_enter Try.func41, Try.ntmps41
      go_upto_region 1 with fail
      generalize ((w.alloc (.cells #[.bool true, .int .i64 r.proto, .int .i64 r.addr, .int .i64 r.bits, .int .i64 r.low, .int .i64 r.high, .int .i64 r.group] 44)).alloc (.cells #[.int .i64 p.proto, .int .i64 p.src, .int .i64 p.sp, .int .i64 p.dst, .int .i64 p.dp, .int .i64 p.flags] 46)) = u0 at *
      generalize w.heap.size + 1 = b1 at *
      generalize e0 : w.heap.size = b0 at *
      have k0 := HT0.out.c1 0 _ rfl
      have k1 := HT0.out.c1 1 _ rfl
      have k2 := HT0.out.c1 2 _ rfl
      have k3 := HT0.out.c1 3 _ rfl
      have k4 := HT0.out.c1 4 _ rfl
      have k5 := HT0.out.c1 5 _ rfl
      have k6 := HT0.out.c1 6 _ rfl
      have j0 := HT0.out.c2 0 _ rfl
      have j1 := HT0.out.c2 1 _ rfl
      have j2 := HT0.out.c2 2 _ rfl
      have j3 := HT0.out.c2 3 _ rfl
      have j4 := HT0.out.c2 4 _ rfl
      have j5 := HT0.out.c2 5 _ rfl
      have kl := HT0.out.lt1
      have jl := HT0.out.lt2
      go_wp2_with fail
      refine Calls.mono (HIF.out _ HT0.out.aft) ?_
      rintro e u1 ⟨rfl, hu⟩
      have HT1 : Hid (TB w u1 b0 b1 #[.bool true, .int .i64 r.proto, .int .i64 r.addr, .int .i64 r.bits, .int .i64 r.low, .int .i64 r.high, .int .i64 r.group] 44 #[.int .i64 p.proto, .int .i64 p.src, .int .i64 p.sp, .int .i64 p.dst, .int .i64 p.dp, .int .i64 p.flags] 46) := HT0.out.step hu
      clear hu
      clear k0 k1 k2 k3 k4 k5 k6 j0 j1 j2 j3 j4 j5 kl jl
      have k0 := HT1.out.c1 0 _ rfl
      have k1 := HT1.out.c1 1 _ rfl
      have k2 := HT1.out.c1 2 _ rfl
      have k3 := HT1.out.c1 3 _ rfl
      have k4 := HT1.out.c1 4 _ rfl
      have k5 := HT1.out.c1 5 _ rfl
      have k6 := HT1.out.c1 6 _ rfl
      have j0 := HT1.out.c2 0 _ rfl
      have j1 := HT1.out.c2 1 _ rfl
      have j2 := HT1.out.c2 2 _ rfl
      have j3 := HT1.out.c2 3 _ rfl
      have j4 := HT1.out.c2 4 _ rfl
      have j5 := HT1.out.c2 5 _ rfl
      have kl := HT1.out.lt1
      have jl := HT1.out.lt2
      go_wp2_with fail
      refine Calls.mono (HHA.out _ HT1.out.aft) ?_
      rintro e u2 ⟨rfl, hu⟩
      have HT2 : Hid (TB w u2 b0 b1 #[.bool true, .int .i64 r.proto, .int .i64 r.addr, .int .i64 r.bits, .int .i64 r.low, .int .i64 r.high, .int .i64 r.group] 44 #[.int .i64 p.proto, .int .i64 p.src, .int .i64 p.sp, .int .i64 p.dst, .int .i64 p.dp, .int .i64 p.flags] 46) := HT1.out.step hu
      clear hu
      clear k0 k1 k2 k3 k4 k5 k6 j0 j1 j2 j3 j4 j5 kl jl
      have k0 := HT2.out.c1 0 _ rfl
      have k1 := HT2.out.c1 1 _ rfl
      have k2 := HT2.out.c1 2 _ rfl
      have k3 := HT2.out.c1 3 _ rfl
      have k4 := HT2.out.c1 4 _ rfl
      have k5 := HT2.out.c1 5 _ rfl
      have k6 := HT2.out.c1 6 _ rfl
      have j0 := HT2.out.c2 0 _ rfl
      have j1 := HT2.out.c2 1 _ rfl
      have j2 := HT2.out.c2 2 _ rfl
      have j3 := HT2.out.c2 3 _ rfl
      have j4 := HT2.out.c2 4 _ rfl
      have j5 := HT2.out.c2 5 _ rfl
      have kl := HT2.out.lt1
      have jl := HT2.out.lt2
      go_wp2
      go_ret
      exact ⟨ret_bool (by rw [E.out]; simp), HT2.out.bel⟩
    · rw [h3] at E HHA
      cases h4 : (r.group == -1)
      · rw [h4] at E
        go_enter Try.func41, Try.ntmps41
        go_upto_region 1 with fail
        generalize ((w.alloc (.cells #[.bool true, .int .i64 r.proto, .int .i64 r.addr, .int .i64 r.bits, .int .i64 r.low, .int .i64 r.high, .int .i64 r.group] 44)).alloc (.cells #[.int .i64 p.proto, .int .i64 p.src, .int .i64 p.sp, .int .i64 p.dst, .int .i64 p.dp, .int .i64 p.flags] 46)) = u0 at *
        generalize w.heap.size + 1 = b1 at *
        generalize e0 : w.heap.size = b0 at *
        have k0 := HT0.out.c1 0 _ rfl
        have k1 := HT0.out.c1 1 _ rfl
        have k2 := HT0.out.c1 2 _ rfl
        have k3 := HT0.out.c1 3 _ rfl
        have k4 := HT0.out.c1 4 _ rfl
        have k5 := HT0.out.c1 5 _ rfl
        have k6 := HT0.out.c1 6 _ rfl
        have j0 := HT0.out.c2 0 _ rfl
        have j1 := HT0.out.c2 1 _ rfl
        have j2 := HT0.out.c2 2 _ rfl
        have j3 := HT0.out.c2 3 _ rfl
        have j4 := HT0.out.c2 4 _ rfl
        have j5 := HT0.out.c2 5 _ rfl
        have kl := HT0.out.lt1
        have jl := HT0.out.lt2
        go_wp2_with fail
        refine Calls.mono (HIF.out _ HT0.out.aft) ?_
        rintro e u1 ⟨rfl, hu⟩
        have HT1 : Hid (TB w u1 b0 b1 #[.bool true, .int .i64 r.proto, .int .i64 r.addr, .int .i64 r.bits, .int .i64 r.low, .int .i64 r.high, .int .i64 r.group] 44 #[.int .i64 p.proto, .int .i64 p.src, .int .i64 p.sp, .int .i64 p.dst, .int .i64 p.dp, .int .i64 p.flags] 46) := HT0.out.step hu
        clear hu
        clear k0 k1 k2 k3 k4 k5 k6 j0 j1 j2 j3 j4 j5 kl jl
        have k0 := HT1.out.c1 0 _ rfl
        have k1 := HT1.out.c1 1 _ rfl
        have k2 := HT1.out.c1 2 _ rfl
        have k3 := HT1.out.c1 3 _ rfl
        have k4 := HT1.out.c1 4 _ rfl
        have k5 := HT1.out.c1 5 _ rfl
        have k6 := HT1.out.c1 6 _ rfl
        have j0 := HT1.out.c2 0 _ rfl
        have j1 := HT1.out.c2 1 _ rfl
        have j2 := HT1.out.c2 2 _ rfl
        have j3 := HT1.out.c2 3 _ rfl
        have j4 := HT1.out.c2 4 _ rfl
        have j5 := HT1.out.c2 5 _ rfl
        have kl := HT1.out.lt1
        have jl := HT1.out.lt2
        go_wp2_with fail
        refine Calls.mono (HHA.out _ HT1.out.aft) ?_
        rintro e u2 ⟨rfl, hu⟩
        have HT2 : Hid (TB w u2 b0 b1 #[.bool true, .int .i64 r.proto, .int .i64 r.addr, .int .i64 r.bits, .int .i64 r.low, .int .i64 r.high, .int .i64 r.group] 44 #[.int .i64 p.proto, .int .i64 p.src, .int .i64 p.sp, .int .i64 p.dst, .int .i64 p.dp, .int .i64 p.flags] 46) := HT1.out.step hu
        clear hu
        clear k0 k1 k2 k3 k4 k5 k6 j0 j1 j2 j3 j4 j5 kl jl
        have k0 := HT2.out.c1 0 _ rfl
        have k1 := HT2.out.c1 1 _ rfl
        have k2 := HT2.out.c1 2 _ rfl
        have k3 := HT2.out.c1 3 _ rfl
        have k4 := HT2.out.c1 4 _ rfl
        have k5 := HT2.out.c1 5 _ rfl
        have k6 := HT2.out.c1 6 _ rfl
        have j0 := HT2.out.c2 0 _ rfl
        have j1 := HT2.out.c2 1 _ rfl
        have j2 := HT2.out.c2 2 _ rfl
        have j3 := HT2.out.c2 3 _ rfl
        have j4 := HT2.out.c2 4 _ rfl
        have j5 := HT2.out.c2 5 _ rfl
        have kl := HT2.out.lt1
        have jl := HT2.out.lt2
        go_wp2_with fail
        refine Calls.mono (HIG.out _ HT2.out.aft) ?_
        rintro e u3 ⟨rfl, hu⟩
        have HT3 : Hid (TB w u3 b0 b1 #[.bool true, .int .i64 r.proto, .int .i64 r.addr, .int .i64 r.bits, .int .i64 r.low, .int .i64 r.high, .int .i64 r.group] 44 #[.int .i64 p.proto, .int .i64 p.src, .int .i64 p.sp, .int .i64 p.dst, .int .i64 p.dp, .int .i64 p.flags] 46) := HT2.out.step hu
        clear hu
        clear k0 k1 k2 k3 k4 k5 k6 j0 j1 j2 j3 j4 j5 kl jl
        have k0 := HT3.out.c1 0 _ rfl
        have k1 := HT3.out.c1 1 _ rfl
        have k2 := HT3.out.c1 2 _ rfl
        have k3 := HT3.out.c1 3 _ rfl
        have k4 := HT3.out.c1 4 _ rfl
        have k5 := HT3.out.c1 5 _ rfl
        have k6 := HT3.out.c1 6 _ rfl
        have j0 := HT3.out.c2 0 _ rfl
        have j1 := HT3.out.c2 1 _ rfl
        have j2 := HT3.out.c2 2 _ rfl
        have j3 := HT3.out.c2 3 _ rfl
        have j4 := HT3.out.c2 4 _ rfl
        have j5 := HT3.out.c2 5 _ rfl
        have kl := HT3.out.lt1
        have jl := HT3.out.lt2
        go_wp2
        go_ret
        exact ⟨ret_bool (by rw [E.out]; simp), HT3.out.bel⟩
      · rw [h4] at E
        go_enter Try.func41, Try.ntmps41
        go_upto_region 1 with fail
        generalize ((w.alloc (.cells #[.bool true, .int .i64 r.proto, .int .i64 r.addr, .int .i64 r.bits, .int .i64 r.low, .int .i64 r.high, .int .i64 r.group] 44)).alloc (.cells #[.int .i64 p.proto, .int .i64 p.src, .int .i64 p.sp, .int .i64 p.dst, .int .i64 p.dp, .int .i64 p.flags] 46)) = u0 at *
        generalize w.heap.size + 1 = b1 at *
        generalize e0 : w.heap.size = b0 at *
        have k0 := HT0.out.c1 0 _ rfl
        have k1 := HT0.out.c1 1 _ rfl
        have k2 := HT0.out.c1 2 _ rfl
        have k3 := HT0.out.c1 3 _ rfl
        have k4 := HT0.out.c1 4 _ rfl
        have k5 := HT0.out.c1 5 _ rfl
        have k6 := HT0.out.c1 6 _ rfl
        have j0 := HT0.out.c2 0 _ rfl
        have j1 := HT0.out.c2 1 _ rfl
        have j2 := HT0.out.c2 2 _ rfl
        have j3 := HT0.out.c2 3 _ rfl
        have j4 := HT0.out.c2 4 _ rfl
        have j5 := HT0.out.c2 5 _ rfl
        have kl := HT0.out.lt1
        have jl := HT0.out.lt2
        go_wp2_with fail
        refine Calls.mono (HIF.out _ HT0.out.aft) ?_
        rintro e u1 ⟨rfl, hu⟩
        have HT1 : Hid (TB w u1 b0 b1 #[.bool true, .int .i64 r.proto, .int .i64 r.addr, .int .i64 r.bits, .int .i64 r.low, .int .i64 r.high, .int .i64 r.group] 44 #[.int .i64 p.proto, .int .i64 p.src, .int .i64 p.sp, .int .i64 p.dst, .int .i64 p.dp, .int .i64 p.flags] 46) := HT0.out.step hu
        clear hu
        clear k0 k1 k2 k3 k4 k5 k6 j0 j1 j2 j3 j4 j5 kl jl
        have k0 := HT1.out.c1 0 _ rfl
        have k1 := HT1.out.c1 1 _ rfl
        have k2 := HT1.out.c1 2 _ rfl
        have k3 := HT1.out.c1 3 _ rfl
        have k4 := HT1.out.c1 4 _ rfl
        have k5 := HT1.out.c1 5 _ rfl
        have k6 := HT1.out.c1 6 _ rfl
        have j0 := HT1.out.c2 0 _ rfl
        have j1 := HT1.out.c2 1 _ rfl
        have j2 := HT1.out.c2 2 _ rfl
        have j3 := HT1.out.c2 3 _ rfl
        have j4 := HT1.out.c2 4 _ rfl
        have j5 := HT1.out.c2 5 _ rfl
        have kl := HT1.out.lt1
        have jl := HT1.out.lt2
        go_wp2_with fail
        refine Calls.mono (HHA.out _ HT1.out.aft) ?_
        rintro e u2 ⟨rfl, hu⟩
        have HT2 : Hid (TB w u2 b0 b1 #[.bool true, .int .i64 r.proto, .int .i64 r.addr, .int .i64 r.bits, .int .i64 r.low, .int .i64 r.high, .int .i64 r.group] 44 #[.int .i64 p.proto, .int .i64 p.src, .int .i64 p.sp, .int .i64 p.dst, .int .i64 p.dp, .int .i64 p.flags] 46) := HT1.out.step hu
        clear hu
        clear k0 k1 k2 k3 k4 k5 k6 j0 j1 j2 j3 j4 j5 kl jl
        have k0 := HT2.out.c1 0 _ rfl
        have k1 := HT2.out.c1 1 _ rfl
        have k2 := HT2.out.c1 2 _ rfl
        have k3 := HT2.out.c1 3 _ rfl
        have k4 := HT2.out.c1 4 _ rfl
        have k5 := HT2.out.c1 5 _ rfl
        have k6 := HT2.out.c1 6 _ rfl
        have j0 := HT2.out.c2 0 _ rfl
        have j1 := HT2.out.c2 1 _ rfl
        have j2 := HT2.out.c2 2 _ rfl
        have j3 := HT2.out.c2 3 _ rfl
        have j4 := HT2.out.c2 4 _ rfl
        have j5 := HT2.out.c2 5 _ rfl
        have kl := HT2.out.lt1
        have jl := HT2.out.lt2
        go_wp2
        go_ret
        exact ⟨ret_bool (by rw [E.out]; simp), HT2.out.bel⟩
theorem ruleLets_any {w : World} {b : Nat} {s : FI} {a : FA} (h : FX w b s a) (hl : FIlen s) (r : NR) (n : Nat) (hn : (32 : Int) - r.bits = (n : Int)) (hb0 : 0 ≤ r.bits) (p : PK) (inn : Bool) : Calls Try.prog 41 #[.pointer (some ⟨b, 0, none⟩), nrA r, pkA p, .bool inn] w fun e w' => e = .returned (.bool (rtB s n r p inn)) ∧ Below w.heap.size w w' := by
  unfold nrA pkA pkC
  cases inn <;> cases hr : r.inn
  · exact ruleLets_false_false h hl r hr n hn hb0 p
  · exact ruleLets_false_true h hl r hr n hn hb0 p
  · exact ruleLets_true_false h hl r hr n hn hb0 p
  · exact ruleLets_true_true h hl r hr n hn hb0 p

/-- The boxes of a filter, a rule and a packet. -/
structure R3 (w u : World) (b0 b1 b2 : Nat) (s : FI) (a : FA) (r : NR) (p : PK) : Prop where
  bel : Below w.heap.size w u
  x : FX u b0 s a
  r : u.heap[b1]? = some (.cells #[.bool r.inn, .int .i64 r.proto, .int .i64 r.addr, .int .i64 r.bits, .int .i64 r.low, .int .i64 r.high, .int .i64 r.group] 44 (0, 0))
  p : u.heap[b2]? = some (.cells #[.int .i64 p.proto, .int .i64 p.src, .int .i64 p.sp, .int .i64 p.dst, .int .i64 p.dp, .int .i64 p.flags] 46 (0, 0))
theorem R3.lr {w u : World} {b0 b1 b2 : Nat} {s : FI} {a : FA} {r : NR} {p : PK} (h : R3 w u b0 b1 b2 s a r p) : b1 < u.heap.size := (Array.getElem?_eq_some_iff.1 h.r).1
theorem R3.lp {w u : World} {b0 b1 b2 : Nat} {s : FI} {a : FA} {r : NR} {p : PK} (h : R3 w u b0 b1 b2 s a r p) : b2 < u.heap.size := (Array.getElem?_eq_some_iff.1 h.p).1
theorem R3.step {w u u' : World} {b0 b1 b2 : Nat} {s : FI} {a : FA} {r : NR} {p : PK} (h : R3 w u b0 b1 b2 s a r p) (hb : Below u.heap.size u u') : R3 w u' b0 b1 b2 s a r p := ⟨h.bel.trans (hb.mono h.bel.size), h.x.below hb, (hb.block _ h.lr).trans h.r, (hb.block _ h.lp).trans h.p⟩
theorem R3.drew {w u : World} {b0 b1 b2 : Nat} {s : FI} {a : FA} {r : NR} {p : PK} (h : R3 w u b0 b1 b2 s a r p) : R3 w u.drew b0 b1 b2 s a r p := ⟨bdn h.bel 1, h.x.below (Below.refl _ _).drew, h.r, h.p⟩
theorem R3.aft {w u : World} {b0 b1 b2 : Nat} {s : FI} {a : FA} {r : NR} {p : PK} (h : R3 w u b0 b1 b2 s a r p) : Aft w u := ⟨h.bel⟩
theorem R3.new {w : World} {s : FI} {a : FA} (r : NR) (p : PK) (h : FIRows w s a) : R3 w (((w.alloc (.cells (flC s a) 35)).alloc (.cells #[.bool r.inn, .int .i64 r.proto, .int .i64 r.addr, .int .i64 r.bits, .int .i64 r.low, .int .i64 r.high, .int .i64 r.group] 44)).alloc (.cells #[.int .i64 p.proto, .int .i64 p.src, .int .i64 p.sp, .int .i64 p.dst, .int .i64 p.dp, .int .i64 p.flags] 46)) w.heap.size (w.heap.size + 1) (w.heap.size + 1 + 1) s a r p := by
  have e1 : (w.alloc (.cells (flC s a) 35)).heap.size = w.heap.size + 1 := by simp
  have e2 : ((w.alloc (.cells (flC s a) 35)).alloc (.cells #[.bool r.inn, .int .i64 r.proto, .int .i64 r.addr, .int .i64 r.bits, .int .i64 r.low, .int .i64 r.high, .int .i64 r.group] 44)).heap.size = w.heap.size + 1 + 1 := by simp
  refine ⟨((bx1 _ _).alloc (by simp) _).alloc (by simp; omega) _, ⟨?_, ((h.below (bx1 _ _)).below (bx1 _ _)).below (bx1 _ _)⟩, ?_, ?_⟩
  · exact ((bx1 _ _).block _ (by rw [e2]; omega)).trans (((bx1 _ _).block _ (by rw [e1]; omega)).trans (heap_new _ _))
  · have := heap_new (w.alloc (.cells (flC s a) 35)) (.cells #[.bool r.inn, .int .i64 r.proto, .int .i64 r.addr, .int .i64 r.bits, .int .i64 r.low, .int .i64 r.high, .int .i64 r.group] 44)
    rw [e1] at this
    exact ((bx1 _ _).block _ (by rw [e2]; omega)).trans this
  · have := heap_new ((w.alloc (.cells (flC s a) 35)).alloc (.cells #[.bool r.inn, .int .i64 r.proto, .int .i64 r.addr, .int .i64 r.bits, .int .i64 r.low, .int .i64 r.high, .int .i64 r.group] 44)) (.cells #[.int .i64 p.proto, .int .i64 p.src, .int .i64 p.sp, .int .i64 p.dst, .int .i64 p.dp, .int .i64 p.flags] 46)
    rw [e2] at this
    exact this
theorem ruB_bits {n : Nat} {r : NR} (h : ruB n r = true) : 0 ≤ r.bits ∧ r.bits ≤ 32 := by
  unfold ruB at h
  simp at h
  exact ⟨h.2.1.1.1.2, h.2.1.1.2⟩
def bn (r : NR) : Nat := ((32 : Int) - r.bits).toNat
def riB (s : FI) (r : NR) (p : PK) (inn : Bool) : Bool := frB s && ruB s.gs.length r && pkB p && rtB s (bn r) r p inn
set_option maxRecDepth 100000 in
set_option maxHeartbeats 4000000 in
theorem implRL_any {w : World} {s : FI} {a : FA} (h : FIRows w s a) (hl : FIlen s) (r : NR) (p : PK) (inn : Bool) : Calls Try.prog 13 #[flA s a, nrA r, pkA p, .bool inn] w fun e w' => e = .returned (.bool (riB s r p inn)) ∧ Below w.heap.size w w' := by
  have HR0 : Hid (R3 w (((w.alloc (.cells (flC s a) 35)).alloc (.cells #[.bool r.inn, .int .i64 r.proto, .int .i64 r.addr, .int .i64 r.bits, .int .i64 r.low, .int .i64 r.high, .int .i64 r.group] 44)).alloc (.cells #[.int .i64 p.proto, .int .i64 p.src, .int .i64 p.sp, .int .i64 p.dst, .int .i64 p.dp, .int .i64 p.flags] 46)) w.heap.size (w.heap.size + 1) (w.heap.size + 1 + 1) s a r p) := R3.new r p h
  obtain ⟨ahs, khs, ags, kgs, afs, kfs, acs, kcs, e⟩ := h.sl
  generalize a.qhs = qhs at e
  generalize a.qgs = qgs at e
  subst e
  clear h
  unfold flC at HR0
  unfold flA flC nrA pkA pkC
  simp only at HR0 ⊢
  have HFR : Hid (∀ u, FX u w.heap.size s ⟨.slice ahs s.hs.length khs, .slice ags s.gs.length kgs, .slice afs s.fs.length kfs, .slice acs s.cs.length kcs, qhs, qgs⟩ → Aft w u → Calls Try.prog 31 #[.pointer (some ⟨w.heap.size, 0, none⟩)] u fun e w' => e = .returned (.bool (frB s)) ∧ Below u.heap.size u w') := fun u hx _ => flRight_any hx hl
  have HRU : Hid (∀ u, FX u w.heap.size s ⟨.slice ahs s.hs.length khs, .slice ags s.gs.length kgs, .slice afs s.fs.length kfs, .slice acs s.cs.length kcs, qhs, qgs⟩ → Aft w u → Calls Try.prog 39 #[.pointer (some ⟨w.heap.size, 0, none⟩), .agg #[.bool r.inn, .int .i64 r.proto, .int .i64 r.addr, .int .i64 r.bits, .int .i64 r.low, .int .i64 r.high, .int .i64 r.group]] u fun e w' => e = .returned (.bool (ruB s.gs.length r)) ∧ Below u.heap.size u w') := fun u hx _ => ruleRight_any hx hl.lgs.len r
  have HPK : Hid (∀ u, FX u w.heap.size s ⟨.slice ahs s.hs.length khs, .slice ags s.gs.length kgs, .slice afs s.fs.length kfs, .slice acs s.cs.length kcs, qhs, qgs⟩ → Aft w u → Calls Try.prog 40 #[.agg #[.int .i64 p.proto, .int .i64 p.src, .int .i64 p.sp, .int .i64 p.dst, .int .i64 p.dp, .int .i64 p.flags]] u fun e w' => e = .returned (.bool (pkB p)) ∧ Below u.heap.size u w') := fun u _ _ => pkRight_any p u
  have E : Hid (riB s r p inn = (frB s && ruB s.gs.length r && pkB p && rtB s (bn r) r p inn)) := rfl
  cases h1 : frB s
  · rw [h1] at E HFR
    go_enter Try.func13, Try.ntmps13
    go_upto_region 1 with fail
    generalize (((w.alloc (.cells #[.slice ahs s.hs.length khs, .slice ags s.gs.length kgs, .slice afs s.fs.length kfs, .int .i64 s.pub, .int .i64 s.fst, .int .i64 s.lst, .slice acs s.cs.length kcs, .int .i64 s.time] 35)).alloc (.cells #[.bool r.inn, .int .i64 r.proto, .int .i64 r.addr, .int .i64 r.bits, .int .i64 r.low, .int .i64 r.high, .int .i64 r.group] 44)).alloc (.cells #[.int .i64 p.proto, .int .i64 p.src, .int .i64 p.sp, .int .i64 p.dst, .int .i64 p.dp, .int .i64 p.flags] 46)) = u0 at *
    generalize w.heap.size + 1 + 1 = b2 at *
    generalize w.heap.size + 1 = b1 at *
    generalize e0 : w.heap.size = b0 at *
    have k0 := celN HR0.out.r 0 _ rfl
    have k1 := celN HR0.out.r 1 _ rfl
    have k2 := celN HR0.out.r 2 _ rfl
    have k3 := celN HR0.out.r 3 _ rfl
    have k4 := celN HR0.out.r 4 _ rfl
    have k5 := celN HR0.out.r 5 _ rfl
    have k6 := celN HR0.out.r 6 _ rfl
    have j0 := celN HR0.out.p 0 _ rfl
    have j1 := celN HR0.out.p 1 _ rfl
    have j2 := celN HR0.out.p 2 _ rfl
    have j3 := celN HR0.out.p 3 _ rfl
    have j4 := celN HR0.out.p 4 _ rfl
    have j5 := celN HR0.out.p 5 _ rfl
    have kl := HR0.out.lr
    have jl := HR0.out.lp
    go_wp2_with fail
    refine Calls.mono (HFR.out _ HR0.out.x HR0.out.aft) ?_
    rintro e u1 ⟨rfl, hu⟩
    have HR1 : Hid (R3 w u1 b0 b1 b2 s ⟨.slice ahs s.hs.length khs, .slice ags s.gs.length kgs, .slice afs s.fs.length kfs, .slice acs s.cs.length kcs, qhs, qgs⟩ r p) := HR0.out.step hu
    clear hu
    clear k0 k1 k2 k3 k4 k5 k6 j0 j1 j2 j3 j4 j5 kl jl
    have k0 := celN HR1.out.r 0 _ rfl
    have k1 := celN HR1.out.r 1 _ rfl
    have k2 := celN HR1.out.r 2 _ rfl
    have k3 := celN HR1.out.r 3 _ rfl
    have k4 := celN HR1.out.r 4 _ rfl
    have k5 := celN HR1.out.r 5 _ rfl
    have k6 := celN HR1.out.r 6 _ rfl
    have j0 := celN HR1.out.p 0 _ rfl
    have j1 := celN HR1.out.p 1 _ rfl
    have j2 := celN HR1.out.p 2 _ rfl
    have j3 := celN HR1.out.p 3 _ rfl
    have j4 := celN HR1.out.p 4 _ rfl
    have j5 := celN HR1.out.p 5 _ rfl
    have kl := HR1.out.lr
    have jl := HR1.out.lp
    go_wp2
    go_ret
    exact ⟨ret_bool (by rw [E.out]; simp), HR1.out.bel⟩
  · rw [h1] at E HFR
    cases h2 : ruB s.gs.length r
    · rw [h2] at E HRU
      go_enter Try.func13, Try.ntmps13
      go_upto_region 1 with fail
      generalize (((w.alloc (.cells #[.slice ahs s.hs.length khs, .slice ags s.gs.length kgs, .slice afs s.fs.length kfs, .int .i64 s.pub, .int .i64 s.fst, .int .i64 s.lst, .slice acs s.cs.length kcs, .int .i64 s.time] 35)).alloc (.cells #[.bool r.inn, .int .i64 r.proto, .int .i64 r.addr, .int .i64 r.bits, .int .i64 r.low, .int .i64 r.high, .int .i64 r.group] 44)).alloc (.cells #[.int .i64 p.proto, .int .i64 p.src, .int .i64 p.sp, .int .i64 p.dst, .int .i64 p.dp, .int .i64 p.flags] 46)) = u0 at *
      generalize w.heap.size + 1 + 1 = b2 at *
      generalize w.heap.size + 1 = b1 at *
      generalize e0 : w.heap.size = b0 at *
      have k0 := celN HR0.out.r 0 _ rfl
      have k1 := celN HR0.out.r 1 _ rfl
      have k2 := celN HR0.out.r 2 _ rfl
      have k3 := celN HR0.out.r 3 _ rfl
      have k4 := celN HR0.out.r 4 _ rfl
      have k5 := celN HR0.out.r 5 _ rfl
      have k6 := celN HR0.out.r 6 _ rfl
      have j0 := celN HR0.out.p 0 _ rfl
      have j1 := celN HR0.out.p 1 _ rfl
      have j2 := celN HR0.out.p 2 _ rfl
      have j3 := celN HR0.out.p 3 _ rfl
      have j4 := celN HR0.out.p 4 _ rfl
      have j5 := celN HR0.out.p 5 _ rfl
      have kl := HR0.out.lr
      have jl := HR0.out.lp
      go_wp2_with fail
      refine Calls.mono (HFR.out _ HR0.out.x HR0.out.aft) ?_
      rintro e u1 ⟨rfl, hu⟩
      have HR1 : Hid (R3 w u1 b0 b1 b2 s ⟨.slice ahs s.hs.length khs, .slice ags s.gs.length kgs, .slice afs s.fs.length kfs, .slice acs s.cs.length kcs, qhs, qgs⟩ r p) := HR0.out.step hu
      clear hu
      clear k0 k1 k2 k3 k4 k5 k6 j0 j1 j2 j3 j4 j5 kl jl
      have k0 := celN HR1.out.r 0 _ rfl
      have k1 := celN HR1.out.r 1 _ rfl
      have k2 := celN HR1.out.r 2 _ rfl
      have k3 := celN HR1.out.r 3 _ rfl
      have k4 := celN HR1.out.r 4 _ rfl
      have k5 := celN HR1.out.r 5 _ rfl
      have k6 := celN HR1.out.r 6 _ rfl
      have j0 := celN HR1.out.p 0 _ rfl
      have j1 := celN HR1.out.p 1 _ rfl
      have j2 := celN HR1.out.p 2 _ rfl
      have j3 := celN HR1.out.p 3 _ rfl
      have j4 := celN HR1.out.p 4 _ rfl
      have j5 := celN HR1.out.p 5 _ rfl
      have kl := HR1.out.lr
      have jl := HR1.out.lp
      go_wp2_with fail
      refine Calls.mono (HRU.out _ HR1.out.x HR1.out.aft) ?_
      rintro e u2 ⟨rfl, hu⟩
      have HR2 : Hid (R3 w u2 b0 b1 b2 s ⟨.slice ahs s.hs.length khs, .slice ags s.gs.length kgs, .slice afs s.fs.length kfs, .slice acs s.cs.length kcs, qhs, qgs⟩ r p) := HR1.out.step hu
      clear hu
      clear k0 k1 k2 k3 k4 k5 k6 j0 j1 j2 j3 j4 j5 kl jl
      have k0 := celN HR2.out.r 0 _ rfl
      have k1 := celN HR2.out.r 1 _ rfl
      have k2 := celN HR2.out.r 2 _ rfl
      have k3 := celN HR2.out.r 3 _ rfl
      have k4 := celN HR2.out.r 4 _ rfl
      have k5 := celN HR2.out.r 5 _ rfl
      have k6 := celN HR2.out.r 6 _ rfl
      have j0 := celN HR2.out.p 0 _ rfl
      have j1 := celN HR2.out.p 1 _ rfl
      have j2 := celN HR2.out.p 2 _ rfl
      have j3 := celN HR2.out.p 3 _ rfl
      have j4 := celN HR2.out.p 4 _ rfl
      have j5 := celN HR2.out.p 5 _ rfl
      have kl := HR2.out.lr
      have jl := HR2.out.lp
      go_wp2
      go_ret
      exact ⟨ret_bool (by rw [E.out]; simp), HR2.out.bel⟩
    · rw [h2] at E HRU
      cases h3 : pkB p
      · rw [h3] at E HPK
        go_enter Try.func13, Try.ntmps13
        go_upto_region 1 with fail
        generalize (((w.alloc (.cells #[.slice ahs s.hs.length khs, .slice ags s.gs.length kgs, .slice afs s.fs.length kfs, .int .i64 s.pub, .int .i64 s.fst, .int .i64 s.lst, .slice acs s.cs.length kcs, .int .i64 s.time] 35)).alloc (.cells #[.bool r.inn, .int .i64 r.proto, .int .i64 r.addr, .int .i64 r.bits, .int .i64 r.low, .int .i64 r.high, .int .i64 r.group] 44)).alloc (.cells #[.int .i64 p.proto, .int .i64 p.src, .int .i64 p.sp, .int .i64 p.dst, .int .i64 p.dp, .int .i64 p.flags] 46)) = u0 at *
        generalize w.heap.size + 1 + 1 = b2 at *
        generalize w.heap.size + 1 = b1 at *
        generalize e0 : w.heap.size = b0 at *
        have k0 := celN HR0.out.r 0 _ rfl
        have k1 := celN HR0.out.r 1 _ rfl
        have k2 := celN HR0.out.r 2 _ rfl
        have k3 := celN HR0.out.r 3 _ rfl
        have k4 := celN HR0.out.r 4 _ rfl
        have k5 := celN HR0.out.r 5 _ rfl
        have k6 := celN HR0.out.r 6 _ rfl
        have j0 := celN HR0.out.p 0 _ rfl
        have j1 := celN HR0.out.p 1 _ rfl
        have j2 := celN HR0.out.p 2 _ rfl
        have j3 := celN HR0.out.p 3 _ rfl
        have j4 := celN HR0.out.p 4 _ rfl
        have j5 := celN HR0.out.p 5 _ rfl
        have kl := HR0.out.lr
        have jl := HR0.out.lp
        go_wp2_with fail
        refine Calls.mono (HFR.out _ HR0.out.x HR0.out.aft) ?_
        rintro e u1 ⟨rfl, hu⟩
        have HR1 : Hid (R3 w u1 b0 b1 b2 s ⟨.slice ahs s.hs.length khs, .slice ags s.gs.length kgs, .slice afs s.fs.length kfs, .slice acs s.cs.length kcs, qhs, qgs⟩ r p) := HR0.out.step hu
        clear hu
        clear k0 k1 k2 k3 k4 k5 k6 j0 j1 j2 j3 j4 j5 kl jl
        have k0 := celN HR1.out.r 0 _ rfl
        have k1 := celN HR1.out.r 1 _ rfl
        have k2 := celN HR1.out.r 2 _ rfl
        have k3 := celN HR1.out.r 3 _ rfl
        have k4 := celN HR1.out.r 4 _ rfl
        have k5 := celN HR1.out.r 5 _ rfl
        have k6 := celN HR1.out.r 6 _ rfl
        have j0 := celN HR1.out.p 0 _ rfl
        have j1 := celN HR1.out.p 1 _ rfl
        have j2 := celN HR1.out.p 2 _ rfl
        have j3 := celN HR1.out.p 3 _ rfl
        have j4 := celN HR1.out.p 4 _ rfl
        have j5 := celN HR1.out.p 5 _ rfl
        have kl := HR1.out.lr
        have jl := HR1.out.lp
        go_wp2_with fail
        refine Calls.mono (HRU.out _ HR1.out.x HR1.out.aft) ?_
        rintro e u2 ⟨rfl, hu⟩
        have HR2 : Hid (R3 w u2 b0 b1 b2 s ⟨.slice ahs s.hs.length khs, .slice ags s.gs.length kgs, .slice afs s.fs.length kfs, .slice acs s.cs.length kcs, qhs, qgs⟩ r p) := HR1.out.step hu
        clear hu
        clear k0 k1 k2 k3 k4 k5 k6 j0 j1 j2 j3 j4 j5 kl jl
        have k0 := celN HR2.out.r 0 _ rfl
        have k1 := celN HR2.out.r 1 _ rfl
        have k2 := celN HR2.out.r 2 _ rfl
        have k3 := celN HR2.out.r 3 _ rfl
        have k4 := celN HR2.out.r 4 _ rfl
        have k5 := celN HR2.out.r 5 _ rfl
        have k6 := celN HR2.out.r 6 _ rfl
        have j0 := celN HR2.out.p 0 _ rfl
        have j1 := celN HR2.out.p 1 _ rfl
        have j2 := celN HR2.out.p 2 _ rfl
        have j3 := celN HR2.out.p 3 _ rfl
        have j4 := celN HR2.out.p 4 _ rfl
        have j5 := celN HR2.out.p 5 _ rfl
        have kl := HR2.out.lr
        have jl := HR2.out.lp
        go_wp2_with fail
        refine Calls.mono (HPK.out _ HR2.out.x HR2.out.aft) ?_
        rintro e u3 ⟨rfl, hu⟩
        have HR3 : Hid (R3 w u3 b0 b1 b2 s ⟨.slice ahs s.hs.length khs, .slice ags s.gs.length kgs, .slice afs s.fs.length kfs, .slice acs s.cs.length kcs, qhs, qgs⟩ r p) := HR2.out.step hu
        clear hu
        clear k0 k1 k2 k3 k4 k5 k6 j0 j1 j2 j3 j4 j5 kl jl
        have k0 := celN HR3.out.r 0 _ rfl
        have k1 := celN HR3.out.r 1 _ rfl
        have k2 := celN HR3.out.r 2 _ rfl
        have k3 := celN HR3.out.r 3 _ rfl
        have k4 := celN HR3.out.r 4 _ rfl
        have k5 := celN HR3.out.r 5 _ rfl
        have k6 := celN HR3.out.r 6 _ rfl
        have j0 := celN HR3.out.p 0 _ rfl
        have j1 := celN HR3.out.p 1 _ rfl
        have j2 := celN HR3.out.p 2 _ rfl
        have j3 := celN HR3.out.p 3 _ rfl
        have j4 := celN HR3.out.p 4 _ rfl
        have j5 := celN HR3.out.p 5 _ rfl
        have kl := HR3.out.lr
        have jl := HR3.out.lp
        go_wp2
        go_ret
        exact ⟨ret_bool (by rw [E.out]; simp), HR3.out.bel⟩
      · rw [h3] at E HPK
        obtain ⟨hb0, hb1⟩ := ruB_bits h2
        have HRL : Hid (∀ u, FX u w.heap.size s ⟨.slice ahs s.hs.length khs, .slice ags s.gs.length kgs, .slice afs s.fs.length kfs, .slice acs s.cs.length kcs, qhs, qgs⟩ → Aft w u → Calls Try.prog 41 #[.pointer (some ⟨w.heap.size, 0, none⟩), .agg #[.bool r.inn, .int .i64 r.proto, .int .i64 r.addr, .int .i64 r.bits, .int .i64 r.low, .int .i64 r.high, .int .i64 r.group], .agg #[.int .i64 p.proto, .int .i64 p.src, .int .i64 p.sp, .int .i64 p.dst, .int .i64 p.dp, .int .i64 p.flags], .bool inn] u fun e w' => e = .returned (.bool (rtB s (bn r) r p inn)) ∧ Below u.heap.size u w') := (fun u hx _ => ruleLets_any hx hl r (bn r) (by unfold bn; omega) hb0 p inn)
        clear hb0 hb1 h2
        generalize rtB s (bn r) r p inn = RL at *
        go_enter Try.func13, Try.ntmps13
        go_upto_region 1 with fail
        generalize (((w.alloc (.cells #[.slice ahs s.hs.length khs, .slice ags s.gs.length kgs, .slice afs s.fs.length kfs, .int .i64 s.pub, .int .i64 s.fst, .int .i64 s.lst, .slice acs s.cs.length kcs, .int .i64 s.time] 35)).alloc (.cells #[.bool r.inn, .int .i64 r.proto, .int .i64 r.addr, .int .i64 r.bits, .int .i64 r.low, .int .i64 r.high, .int .i64 r.group] 44)).alloc (.cells #[.int .i64 p.proto, .int .i64 p.src, .int .i64 p.sp, .int .i64 p.dst, .int .i64 p.dp, .int .i64 p.flags] 46)) = u0 at *
        generalize w.heap.size + 1 + 1 = b2 at *
        generalize w.heap.size + 1 = b1 at *
        generalize e0 : w.heap.size = b0 at *
        have k0 := celN HR0.out.r 0 _ rfl
        have k1 := celN HR0.out.r 1 _ rfl
        have k2 := celN HR0.out.r 2 _ rfl
        have k3 := celN HR0.out.r 3 _ rfl
        have k4 := celN HR0.out.r 4 _ rfl
        have k5 := celN HR0.out.r 5 _ rfl
        have k6 := celN HR0.out.r 6 _ rfl
        have j0 := celN HR0.out.p 0 _ rfl
        have j1 := celN HR0.out.p 1 _ rfl
        have j2 := celN HR0.out.p 2 _ rfl
        have j3 := celN HR0.out.p 3 _ rfl
        have j4 := celN HR0.out.p 4 _ rfl
        have j5 := celN HR0.out.p 5 _ rfl
        have kl := HR0.out.lr
        have jl := HR0.out.lp
        go_wp2_with fail
        refine Calls.mono (HFR.out _ HR0.out.x HR0.out.aft) ?_
        rintro e u1 ⟨rfl, hu⟩
        have HR1 : Hid (R3 w u1 b0 b1 b2 s ⟨.slice ahs s.hs.length khs, .slice ags s.gs.length kgs, .slice afs s.fs.length kfs, .slice acs s.cs.length kcs, qhs, qgs⟩ r p) := HR0.out.step hu
        clear hu
        clear k0 k1 k2 k3 k4 k5 k6 j0 j1 j2 j3 j4 j5 kl jl
        have k0 := celN HR1.out.r 0 _ rfl
        have k1 := celN HR1.out.r 1 _ rfl
        have k2 := celN HR1.out.r 2 _ rfl
        have k3 := celN HR1.out.r 3 _ rfl
        have k4 := celN HR1.out.r 4 _ rfl
        have k5 := celN HR1.out.r 5 _ rfl
        have k6 := celN HR1.out.r 6 _ rfl
        have j0 := celN HR1.out.p 0 _ rfl
        have j1 := celN HR1.out.p 1 _ rfl
        have j2 := celN HR1.out.p 2 _ rfl
        have j3 := celN HR1.out.p 3 _ rfl
        have j4 := celN HR1.out.p 4 _ rfl
        have j5 := celN HR1.out.p 5 _ rfl
        have kl := HR1.out.lr
        have jl := HR1.out.lp
        go_wp2_with fail
        refine Calls.mono (HRU.out _ HR1.out.x HR1.out.aft) ?_
        rintro e u2 ⟨rfl, hu⟩
        have HR2 : Hid (R3 w u2 b0 b1 b2 s ⟨.slice ahs s.hs.length khs, .slice ags s.gs.length kgs, .slice afs s.fs.length kfs, .slice acs s.cs.length kcs, qhs, qgs⟩ r p) := HR1.out.step hu
        clear hu
        clear k0 k1 k2 k3 k4 k5 k6 j0 j1 j2 j3 j4 j5 kl jl
        have k0 := celN HR2.out.r 0 _ rfl
        have k1 := celN HR2.out.r 1 _ rfl
        have k2 := celN HR2.out.r 2 _ rfl
        have k3 := celN HR2.out.r 3 _ rfl
        have k4 := celN HR2.out.r 4 _ rfl
        have k5 := celN HR2.out.r 5 _ rfl
        have k6 := celN HR2.out.r 6 _ rfl
        have j0 := celN HR2.out.p 0 _ rfl
        have j1 := celN HR2.out.p 1 _ rfl
        have j2 := celN HR2.out.p 2 _ rfl
        have j3 := celN HR2.out.p 3 _ rfl
        have j4 := celN HR2.out.p 4 _ rfl
        have j5 := celN HR2.out.p 5 _ rfl
        have kl := HR2.out.lr
        have jl := HR2.out.lp
        go_wp2_with fail
        refine Calls.mono (HPK.out _ HR2.out.x HR2.out.aft) ?_
        rintro e u3 ⟨rfl, hu⟩
        have HR3 : Hid (R3 w u3 b0 b1 b2 s ⟨.slice ahs s.hs.length khs, .slice ags s.gs.length kgs, .slice afs s.fs.length kfs, .slice acs s.cs.length kcs, qhs, qgs⟩ r p) := HR2.out.step hu
        clear hu
        clear k0 k1 k2 k3 k4 k5 k6 j0 j1 j2 j3 j4 j5 kl jl
        have k0 := celN HR3.out.r 0 _ rfl
        have k1 := celN HR3.out.r 1 _ rfl
        have k2 := celN HR3.out.r 2 _ rfl
        have k3 := celN HR3.out.r 3 _ rfl
        have k4 := celN HR3.out.r 4 _ rfl
        have k5 := celN HR3.out.r 5 _ rfl
        have k6 := celN HR3.out.r 6 _ rfl
        have j0 := celN HR3.out.p 0 _ rfl
        have j1 := celN HR3.out.p 1 _ rfl
        have j2 := celN HR3.out.p 2 _ rfl
        have j3 := celN HR3.out.p 3 _ rfl
        have j4 := celN HR3.out.p 4 _ rfl
        have j5 := celN HR3.out.p 5 _ rfl
        have kl := HR3.out.lr
        have jl := HR3.out.lp
        go_wp2_with fail
        refine Calls.mono (HRL.out _ HR3.out.x HR3.out.aft) ?_
        rintro e u4 ⟨rfl, hu⟩
        have HR4 : Hid (R3 w u4 b0 b1 b2 s ⟨.slice ahs s.hs.length khs, .slice ags s.gs.length kgs, .slice afs s.fs.length kfs, .slice acs s.cs.length kcs, qhs, qgs⟩ r p) := HR3.out.step hu
        clear hu
        clear k0 k1 k2 k3 k4 k5 k6 j0 j1 j2 j3 j4 j5 kl jl
        have k0 := celN HR4.out.r 0 _ rfl
        have k1 := celN HR4.out.r 1 _ rfl
        have k2 := celN HR4.out.r 2 _ rfl
        have k3 := celN HR4.out.r 3 _ rfl
        have k4 := celN HR4.out.r 4 _ rfl
        have k5 := celN HR4.out.r 5 _ rfl
        have k6 := celN HR4.out.r 6 _ rfl
        have j0 := celN HR4.out.p 0 _ rfl
        have j1 := celN HR4.out.p 1 _ rfl
        have j2 := celN HR4.out.p 2 _ rfl
        have j3 := celN HR4.out.p 3 _ rfl
        have j4 := celN HR4.out.p 4 _ rfl
        have j5 := celN HR4.out.p 5 _ rfl
        have kl := HR4.out.lr
        have jl := HR4.out.lp
        go_wp2
        go_ret
        exact ⟨ret_bool (by rw [E.out]; simp), HR4.out.bel⟩

def pS (p : PK) : Bool := !(!prB p.proto || !isW p.src || !isW p.dst || !poB p.sp || !poB p.dp || decide (p.flags < 0) || decide (15 < p.flags)) && (p.proto == 6 || p.flags == 0)
set_option maxRecDepth 100000 in
set_option maxHeartbeats 4000000 in
theorem packetS_any (p : PK) (w : World) : Calls Try.prog 37 #[pkA p] w fun e w' => e = .returned (.bool (pS p)) ∧ Below w.heap.size w w' := by
  unfold pkA pkC
  have HL0 : Hid (LG w (w.alloc (.cells #[.int .i64 p.proto, .int .i64 p.src, .int .i64 p.sp, .int .i64 p.dst, .int .i64 p.dp, .int .i64 p.flags] 46)) w.heap.size #[.int .i64 p.proto, .int .i64 p.src, .int .i64 p.sp, .int .i64 p.dst, .int .i64 p.dp, .int .i64 p.flags] 46) := LG.new w _ _
  have E : Hid (pS p = (!(!prB p.proto || !isW p.src || !isW p.dst || !poB p.sp || !poB p.dp || decide (p.flags < 0) || decide (15 < p.flags)) && (p.proto == 6 || p.flags == 0))) := rfl
  cases hp0 : prB p.proto
  · rw [hp0] at E
    go_enter Try.func37, Try.ntmps37
    go_upto_region 1 with fail
    generalize (w.alloc (.cells #[.int .i64 p.proto, .int .i64 p.src, .int .i64 p.sp, .int .i64 p.dst, .int .i64 p.dp, .int .i64 p.flags] 46)) = u0 at *
    generalize w.heap.size = b0 at *
    have k0 := HL0.out.cel 0 _ rfl
    have k1 := HL0.out.cel 1 _ rfl
    have k2 := HL0.out.cel 2 _ rfl
    have k3 := HL0.out.cel 3 _ rfl
    have k4 := HL0.out.cel 4 _ rfl
    have k5 := HL0.out.cel 5 _ rfl
    have kl := HL0.out.lt
    go_wp2_with (first | (go_at_call 20; refine Calls.mono (protoS_any _ _) ?_; rintro e v2 ⟨rfl, hw1⟩; rw [hw1]; clear hw1) | (go_at_call 18; refine Calls.mono (specIsWord_any _ _) ?_; rintro e v2 ⟨rfl, hw1⟩; rw [hw1]; clear hw1) | (go_at_call 21; refine Calls.mono (portS_any _ _) ?_; rintro e v2 ⟨rfl, hw1⟩; rw [hw1]; clear hw1))
    go_ret
    exact ⟨ret_bool (by rw [E.out]; simp), HL0.out.bel⟩
  · rw [hp0] at E
    cases hp1 : isW p.src
    · rw [hp1] at E
      go_enter Try.func37, Try.ntmps37
      go_upto_region 1 with fail
      generalize (w.alloc (.cells #[.int .i64 p.proto, .int .i64 p.src, .int .i64 p.sp, .int .i64 p.dst, .int .i64 p.dp, .int .i64 p.flags] 46)) = u0 at *
      generalize w.heap.size = b0 at *
      have k0 := HL0.out.cel 0 _ rfl
      have k1 := HL0.out.cel 1 _ rfl
      have k2 := HL0.out.cel 2 _ rfl
      have k3 := HL0.out.cel 3 _ rfl
      have k4 := HL0.out.cel 4 _ rfl
      have k5 := HL0.out.cel 5 _ rfl
      have kl := HL0.out.lt
      go_wp2_with (first | (go_at_call 20; refine Calls.mono (protoS_any _ _) ?_; rintro e v2 ⟨rfl, hw1⟩; rw [hw1]; clear hw1) | (go_at_call 18; refine Calls.mono (specIsWord_any _ _) ?_; rintro e v2 ⟨rfl, hw1⟩; rw [hw1]; clear hw1) | (go_at_call 21; refine Calls.mono (portS_any _ _) ?_; rintro e v2 ⟨rfl, hw1⟩; rw [hw1]; clear hw1))
      go_ret
      exact ⟨ret_bool (by rw [E.out]; simp), HL0.out.bel⟩
    · rw [hp1] at E
      cases hp2 : isW p.dst
      · rw [hp2] at E
        go_enter Try.func37, Try.ntmps37
        go_upto_region 1 with fail
        generalize (w.alloc (.cells #[.int .i64 p.proto, .int .i64 p.src, .int .i64 p.sp, .int .i64 p.dst, .int .i64 p.dp, .int .i64 p.flags] 46)) = u0 at *
        generalize w.heap.size = b0 at *
        have k0 := HL0.out.cel 0 _ rfl
        have k1 := HL0.out.cel 1 _ rfl
        have k2 := HL0.out.cel 2 _ rfl
        have k3 := HL0.out.cel 3 _ rfl
        have k4 := HL0.out.cel 4 _ rfl
        have k5 := HL0.out.cel 5 _ rfl
        have kl := HL0.out.lt
        go_wp2_with (first | (go_at_call 20; refine Calls.mono (protoS_any _ _) ?_; rintro e v2 ⟨rfl, hw1⟩; rw [hw1]; clear hw1) | (go_at_call 18; refine Calls.mono (specIsWord_any _ _) ?_; rintro e v2 ⟨rfl, hw1⟩; rw [hw1]; clear hw1) | (go_at_call 21; refine Calls.mono (portS_any _ _) ?_; rintro e v2 ⟨rfl, hw1⟩; rw [hw1]; clear hw1))
        go_ret
        exact ⟨ret_bool (by rw [E.out]; simp), HL0.out.bel⟩
      · rw [hp2] at E
        cases hp3 : poB p.sp
        · rw [hp3] at E
          go_enter Try.func37, Try.ntmps37
          go_upto_region 1 with fail
          generalize (w.alloc (.cells #[.int .i64 p.proto, .int .i64 p.src, .int .i64 p.sp, .int .i64 p.dst, .int .i64 p.dp, .int .i64 p.flags] 46)) = u0 at *
          generalize w.heap.size = b0 at *
          have k0 := HL0.out.cel 0 _ rfl
          have k1 := HL0.out.cel 1 _ rfl
          have k2 := HL0.out.cel 2 _ rfl
          have k3 := HL0.out.cel 3 _ rfl
          have k4 := HL0.out.cel 4 _ rfl
          have k5 := HL0.out.cel 5 _ rfl
          have kl := HL0.out.lt
          go_wp2_with (first | (go_at_call 20; refine Calls.mono (protoS_any _ _) ?_; rintro e v2 ⟨rfl, hw1⟩; rw [hw1]; clear hw1) | (go_at_call 18; refine Calls.mono (specIsWord_any _ _) ?_; rintro e v2 ⟨rfl, hw1⟩; rw [hw1]; clear hw1) | (go_at_call 21; refine Calls.mono (portS_any _ _) ?_; rintro e v2 ⟨rfl, hw1⟩; rw [hw1]; clear hw1))
          go_ret
          exact ⟨ret_bool (by rw [E.out]; simp), HL0.out.bel⟩
        · rw [hp3] at E
          cases hp4 : poB p.dp
          · rw [hp4] at E
            go_enter Try.func37, Try.ntmps37
            go_upto_region 1 with fail
            generalize (w.alloc (.cells #[.int .i64 p.proto, .int .i64 p.src, .int .i64 p.sp, .int .i64 p.dst, .int .i64 p.dp, .int .i64 p.flags] 46)) = u0 at *
            generalize w.heap.size = b0 at *
            have k0 := HL0.out.cel 0 _ rfl
            have k1 := HL0.out.cel 1 _ rfl
            have k2 := HL0.out.cel 2 _ rfl
            have k3 := HL0.out.cel 3 _ rfl
            have k4 := HL0.out.cel 4 _ rfl
            have k5 := HL0.out.cel 5 _ rfl
            have kl := HL0.out.lt
            go_wp2_with (first | (go_at_call 20; refine Calls.mono (protoS_any _ _) ?_; rintro e v2 ⟨rfl, hw1⟩; rw [hw1]; clear hw1) | (go_at_call 18; refine Calls.mono (specIsWord_any _ _) ?_; rintro e v2 ⟨rfl, hw1⟩; rw [hw1]; clear hw1) | (go_at_call 21; refine Calls.mono (portS_any _ _) ?_; rintro e v2 ⟨rfl, hw1⟩; rw [hw1]; clear hw1))
            go_ret
            exact ⟨ret_bool (by rw [E.out]; simp), HL0.out.bel⟩
          · rw [hp4] at E
            cases hp5 : decide (p.flags < 0)
            · rw [hp5] at E
              cases hp6 : decide (15 < p.flags)
              · rw [hp6] at E
                cases he : (p.proto == 6)
                · rw [he] at E
                  go_enter Try.func37, Try.ntmps37
                  go_upto_region 1 with fail
                  generalize (w.alloc (.cells #[.int .i64 p.proto, .int .i64 p.src, .int .i64 p.sp, .int .i64 p.dst, .int .i64 p.dp, .int .i64 p.flags] 46)) = u0 at *
                  generalize w.heap.size = b0 at *
                  have k0 := HL0.out.cel 0 _ rfl
                  have k1 := HL0.out.cel 1 _ rfl
                  have k2 := HL0.out.cel 2 _ rfl
                  have k3 := HL0.out.cel 3 _ rfl
                  have k4 := HL0.out.cel 4 _ rfl
                  have k5 := HL0.out.cel 5 _ rfl
                  have kl := HL0.out.lt
                  go_wp2_with (first | (go_at_call 20; refine Calls.mono (protoS_any _ _) ?_; rintro e v2 ⟨rfl, hw1⟩; rw [hw1]; clear hw1) | (go_at_call 18; refine Calls.mono (specIsWord_any _ _) ?_; rintro e v2 ⟨rfl, hw1⟩; rw [hw1]; clear hw1) | (go_at_call 21; refine Calls.mono (portS_any _ _) ?_; rintro e v2 ⟨rfl, hw1⟩; rw [hw1]; clear hw1))
                  go_ret
                  exact ⟨ret_bool (by rw [E.out]; simp), HL0.out.bel⟩
                · rw [he] at E
                  go_enter Try.func37, Try.ntmps37
                  go_upto_region 1 with fail
                  generalize (w.alloc (.cells #[.int .i64 p.proto, .int .i64 p.src, .int .i64 p.sp, .int .i64 p.dst, .int .i64 p.dp, .int .i64 p.flags] 46)) = u0 at *
                  generalize w.heap.size = b0 at *
                  have k0 := HL0.out.cel 0 _ rfl
                  have k1 := HL0.out.cel 1 _ rfl
                  have k2 := HL0.out.cel 2 _ rfl
                  have k3 := HL0.out.cel 3 _ rfl
                  have k4 := HL0.out.cel 4 _ rfl
                  have k5 := HL0.out.cel 5 _ rfl
                  have kl := HL0.out.lt
                  go_wp2_with (first | (go_at_call 20; refine Calls.mono (protoS_any _ _) ?_; rintro e v2 ⟨rfl, hw1⟩; rw [hw1]; clear hw1) | (go_at_call 18; refine Calls.mono (specIsWord_any _ _) ?_; rintro e v2 ⟨rfl, hw1⟩; rw [hw1]; clear hw1) | (go_at_call 21; refine Calls.mono (portS_any _ _) ?_; rintro e v2 ⟨rfl, hw1⟩; rw [hw1]; clear hw1))
                  go_ret
                  exact ⟨ret_bool (by rw [E.out]; simp), HL0.out.bel⟩
              · rw [hp6] at E
                go_enter Try.func37, Try.ntmps37
                go_upto_region 1 with fail
                generalize (w.alloc (.cells #[.int .i64 p.proto, .int .i64 p.src, .int .i64 p.sp, .int .i64 p.dst, .int .i64 p.dp, .int .i64 p.flags] 46)) = u0 at *
                generalize w.heap.size = b0 at *
                have k0 := HL0.out.cel 0 _ rfl
                have k1 := HL0.out.cel 1 _ rfl
                have k2 := HL0.out.cel 2 _ rfl
                have k3 := HL0.out.cel 3 _ rfl
                have k4 := HL0.out.cel 4 _ rfl
                have k5 := HL0.out.cel 5 _ rfl
                have kl := HL0.out.lt
                go_wp2_with (first | (go_at_call 20; refine Calls.mono (protoS_any _ _) ?_; rintro e v2 ⟨rfl, hw1⟩; rw [hw1]; clear hw1) | (go_at_call 18; refine Calls.mono (specIsWord_any _ _) ?_; rintro e v2 ⟨rfl, hw1⟩; rw [hw1]; clear hw1) | (go_at_call 21; refine Calls.mono (portS_any _ _) ?_; rintro e v2 ⟨rfl, hw1⟩; rw [hw1]; clear hw1))
                go_ret
                exact ⟨ret_bool (by rw [E.out]; simp), HL0.out.bel⟩
            · rw [hp5] at E
              go_enter Try.func37, Try.ntmps37
              go_upto_region 1 with fail
              generalize (w.alloc (.cells #[.int .i64 p.proto, .int .i64 p.src, .int .i64 p.sp, .int .i64 p.dst, .int .i64 p.dp, .int .i64 p.flags] 46)) = u0 at *
              generalize w.heap.size = b0 at *
              have k0 := HL0.out.cel 0 _ rfl
              have k1 := HL0.out.cel 1 _ rfl
              have k2 := HL0.out.cel 2 _ rfl
              have k3 := HL0.out.cel 3 _ rfl
              have k4 := HL0.out.cel 4 _ rfl
              have k5 := HL0.out.cel 5 _ rfl
              have kl := HL0.out.lt
              go_wp2_with (first | (go_at_call 20; refine Calls.mono (protoS_any _ _) ?_; rintro e v2 ⟨rfl, hw1⟩; rw [hw1]; clear hw1) | (go_at_call 18; refine Calls.mono (specIsWord_any _ _) ?_; rintro e v2 ⟨rfl, hw1⟩; rw [hw1]; clear hw1) | (go_at_call 21; refine Calls.mono (portS_any _ _) ?_; rintro e v2 ⟨rfl, hw1⟩; rw [hw1]; clear hw1))
              go_ret
              exact ⟨ret_bool (by rw [E.out]; simp), HL0.out.bel⟩
set_option maxRecDepth 100000 in
set_option maxHeartbeats 4000000 in
theorem inInts_any {w : World} {v : Value} {zs : List Int} (h : Irow w v zs) (hl : zs.length ≤ 1048576) (x : Int) : Calls Try.prog 58 #[v, .int .i64 x] w fun r w' => r = .returned (.bool (zs.any (fun z => x == z))) ∧ w' = w := by
  obtain ⟨ao, cap, rfl⟩ := h.sl
  have HR : Hid (Irow w (.slice ao zs.length cap) zs) := h
  have HY : Hid (∀ k (hk : k < zs.length), (zs[k] == x) = true → zs.any (fun z => x == z) = true) := fun k hk h => List.any_eq_true.2 ⟨zs[k], List.getElem_mem hk, by simp at h ⊢; exact h.symm⟩
  have HN : Hid ((∀ k (hk : k < zs.length), (zs[k] == x) = false) → zs.any (fun z => x == z) = false) := fun h => List.any_eq_false.2 fun z hz => by
    obtain ⟨k, hk, rfl⟩ := List.getElem_of_mem hz
    have := h k hk
    simp at this ⊢
    exact fun e => this e.symm
  generalize zs.any (fun z => x == z) = g at *
  clear h
  go_enter Try.func58, Try.ntmps58
  go_wp2
  go_loopw [5] (fun i wr => ∃ k : Nat, k ≤ zs.length ∧ i = .int .i64 k ∧ (∀ j (hj : j < zs.length), j < k → (zs[j] == x) = false) ∧ wr = w) (fun i _ => zs.length - (intOf i).toNat)
  case atStart => exact ⟨0, Nat.zero_le _, rfl, fun j _ hj => absurd hj (Nat.not_lt_zero _), rfl⟩
  case round =>
    obtain ⟨k, hk, rfl, hal, rfl⟩ := hrel
    have HA : Hid (∀ j (hj : j < zs.length), j < k → (zs[j] == x) = false) := hal
    clear hal
    by_cases hlt : k < zs.length
    · obtain ⟨g', o, cap2, hv, _, hg, hc⟩ := HR.out.resolve_left (fun h => by rw [h.1] at hlt; simp at hlt)
      injection hv with hv1 hv2 hv3
      subst hv1 hv3
      have d0 := hc k hlt
      have HX : Hid ((zs[k] == x) = true → g = true) := fun h => HY.out k hlt h
      have HX2 : Hid ((zs[k] == x) = false → ∀ j (hj : j < zs.length), j < k + 1 → (zs[j] == x) = false) := fun h j hl hj => by
        rcases Nat.lt_succ_iff_lt_or_eq.1 hj with h2 | h2
        · exact HA.out j hl h2
        · subst h2; exact h
      generalize zs[k] = y at *
      have hk0 : (0 : Int) ≤ (k : Int) := by omega
      have hk1 : (k : Int) < (zs.length : Int) := by omega
      clear hc hv2
      cases hq : (y == x)
      · have HG2 : Hid _ := HX2.out hq
        go_wp2
        exact ⟨⟨k + 1, hlt, by go_num, HG2.out, trivial⟩, by simp [intOf]; omega⟩
      · have hg2 := HX.out hq
        subst hg2
        go_wp2
        go_ret
        exact ⟨rfl, rfl⟩
    · obtain rfl : k = zs.length := by omega
      have hg := HN.out (fun j hj => HA.out j hj hj)
      subst hg
      go_wp2
      go_ret
      exact ⟨rfl, rfl⟩

def lsB (s : FI) (n : Nat) (r : NR) (p : PK) (inn : Bool) : Bool := !(r.inn != inn || r.proto != 0 && r.proto != p.proto || p.proto != 1 && (decide (p.dp < r.low) || decide (r.high < p.dp))) && (!(decide (0 < r.bits) && (if inn = true then p.src else p.dst) / 2 ^ n != r.addr / 2 ^ n) && (decide (r.group < 0) || igB s (if inn = true then p.src else p.dst) r.group))

set_option maxRecDepth 100000 in
set_option maxHeartbeats 4000000 in
theorem letsS_false_true {w : World} {s : FI} {a : FA} (h : FIRows w s a) (hl : FIlen s) (r : NR) (hr : r.inn = true) (n : Nat) (hn : (32 : Int) - r.bits = (n : Int)) (hb0 : 0 ≤ r.bits) (p : PK) : Calls Try.prog 38 #[flA s a, nrA r, pkA p, .bool false] w fun e w' => e = .returned (.bool (lsB s n r p false)) ∧ Below w.heap.size w w' := by
  have HR0 : Hid (R3 w (((w.alloc (.cells (flC s a) 35)).alloc (.cells #[.bool r.inn, .int .i64 r.proto, .int .i64 r.addr, .int .i64 r.bits, .int .i64 r.low, .int .i64 r.high, .int .i64 r.group] 44)).alloc (.cells #[.int .i64 p.proto, .int .i64 p.src, .int .i64 p.sp, .int .i64 p.dst, .int .i64 p.dp, .int .i64 p.flags] 46)) w.heap.size (w.heap.size + 1) (w.heap.size + 1 + 1) s a r p) := R3.new r p h
  have HRR : Hid (FIRows w s a) := h
  have HLN : Hid (FIlen s) := hl
  have HH : Hid (∀ u, Aft w u → Calls Try.prog 22 #[flA s a, .int .i64 p.dst] u fun e w' => e = .returned (.int .i64 (hAt (s.hs.map (·.addr)) p.dst)) ∧ Below u.heap.size u w') := fun u hu => hostS_any (HRR.out.below hu.out) HLN.out.lhs.len p.dst
  have E : Hid (lsB s n r p false = (!(true != false || r.proto != 0 && r.proto != p.proto || p.proto != 1 && (decide (p.dp < r.low) || decide (r.high < p.dp))) && (!(decide (0 < r.bits) && p.dst / 2 ^ n != r.addr / 2 ^ n) && (decide (r.group < 0) || igB s p.dst r.group)))) := (show lsB s n r p false = _ by unfold lsB; rw [hr]; rfl)
  have HRI : Hid (r.inn = true) := hr
  have hs0 : (0 : Int) ≤ (n : Int) := by omega
  have hs1 : (n : Int) ≤ 64 := by omega
  obtain ⟨ahs, khs, e1⟩ := h.rhs.sl
  obtain ⟨ags, kgs, e2⟩ := h.rgs.sl
  obtain ⟨afs, kfs, e3⟩ := h.rfs.sl
  obtain ⟨acs, kcs, e4⟩ := h.rcs.sl
  rw [h.nhs.len] at e1
  rw [h.ngs.len] at e2
  have hfc : flC s a = #[.slice ahs s.hs.length khs, .slice ags s.gs.length kgs, .slice afs s.fs.length kfs, .int .i64 s.pub, .int .i64 s.fst, .int .i64 s.lst, .slice acs s.cs.length kcs, .int .i64 s.time] := by unfold flC; rw [e1, e2, e3, e4]
  have HRW : Hid (NHrow w (.slice ahs s.hs.length khs) a.qhs) := (show NHrow w _ a.qhs by rw [← e1]; exact h.rhs)
  have HI : Hid (HOin w a.qhs s.hs) := h.nhs
  have HQ : Hid (a.qhs.length = s.hs.length) := h.nhs.len
  have E1 : Hid (a.vhs = .slice ahs s.hs.length khs) := e1
  have E2 : Hid (a.vgs = .slice ags s.gs.length kgs) := e2
  have E3 : Hid (a.vfs = .slice afs s.fs.length kfs) := e3
  have E4 : Hid (a.vcs = .slice acs s.cs.length kcs) := e4
  unfold flA at HH ⊢
  rw [hfc] at HR0 HH ⊢
  unfold nrA pkA pkC
  clear h hl hr e1 e2 e3 e4 hfc HRR
  go_enter Try.func38, Try.ntmps38
  go_upto_region 1 with fail
  generalize (((w.alloc (.cells #[.slice ahs s.hs.length khs, .slice ags s.gs.length kgs, .slice afs s.fs.length kfs, .int .i64 s.pub, .int .i64 s.fst, .int .i64 s.lst, .slice acs s.cs.length kcs, .int .i64 s.time] 35)).alloc (.cells #[.bool r.inn, .int .i64 r.proto, .int .i64 r.addr, .int .i64 r.bits, .int .i64 r.low, .int .i64 r.high, .int .i64 r.group] 44)).alloc (.cells #[.int .i64 p.proto, .int .i64 p.src, .int .i64 p.sp, .int .i64 p.dst, .int .i64 p.dp, .int .i64 p.flags] 46)) = u0 at *
  generalize w.heap.size + 1 + 1 = b2 at *
  generalize w.heap.size + 1 = b1 at *
  generalize w.heap.size = b0 at *
  have k0 := celN HR0.out.r 0 _ rfl
  have k1 := celN HR0.out.r 1 _ rfl
  have k2 := celN HR0.out.r 2 _ rfl
  have k3 := celN HR0.out.r 3 _ rfl
  have k4 := celN HR0.out.r 4 _ rfl
  have k5 := celN HR0.out.r 5 _ rfl
  have k6 := celN HR0.out.r 6 _ rfl
  rw [HRI.out] at k0
  have j0 := celN HR0.out.p 0 _ rfl
  have j1 := celN HR0.out.p 1 _ rfl
  have j2 := celN HR0.out.p 2 _ rfl
  have j3 := celN HR0.out.p 3 _ rfl
  have j4 := celN HR0.out.p 4 _ rfl
  have j5 := celN HR0.out.p 5 _ rfl
  have kl := HR0.out.lr
  have jl := HR0.out.lp
  have x0 := HR0.out.x.c0
  have x1 := HR0.out.x.c1
  have x2 := HR0.out.x.c2
  have x3 := HR0.out.x.c3
  have x4 := HR0.out.x.c4
  have x5 := HR0.out.x.c5
  have x6 := HR0.out.x.c6
  have x7 := HR0.out.x.c7
  rw [E1.out] at x0
  rw [E2.out] at x1
  rw [E3.out] at x2
  rw [E4.out] at x6
  have xl := HR0.out.x.lt
  go_wp2
  go_ret
  exact ⟨ret_bool (by rw [E.out]; simp), HR0.out.bel⟩

set_option maxRecDepth 100000 in
set_option maxHeartbeats 4000000 in
theorem letsS_true_false {w : World} {s : FI} {a : FA} (h : FIRows w s a) (hl : FIlen s) (r : NR) (hr : r.inn = false) (n : Nat) (hn : (32 : Int) - r.bits = (n : Int)) (hb0 : 0 ≤ r.bits) (p : PK) : Calls Try.prog 38 #[flA s a, nrA r, pkA p, .bool true] w fun e w' => e = .returned (.bool (lsB s n r p true)) ∧ Below w.heap.size w w' := by
  have HR0 : Hid (R3 w (((w.alloc (.cells (flC s a) 35)).alloc (.cells #[.bool r.inn, .int .i64 r.proto, .int .i64 r.addr, .int .i64 r.bits, .int .i64 r.low, .int .i64 r.high, .int .i64 r.group] 44)).alloc (.cells #[.int .i64 p.proto, .int .i64 p.src, .int .i64 p.sp, .int .i64 p.dst, .int .i64 p.dp, .int .i64 p.flags] 46)) w.heap.size (w.heap.size + 1) (w.heap.size + 1 + 1) s a r p) := R3.new r p h
  have HRR : Hid (FIRows w s a) := h
  have HLN : Hid (FIlen s) := hl
  have HH : Hid (∀ u, Aft w u → Calls Try.prog 22 #[flA s a, .int .i64 p.src] u fun e w' => e = .returned (.int .i64 (hAt (s.hs.map (·.addr)) p.src)) ∧ Below u.heap.size u w') := fun u hu => hostS_any (HRR.out.below hu.out) HLN.out.lhs.len p.src
  have E : Hid (lsB s n r p true = (!(false != true || r.proto != 0 && r.proto != p.proto || p.proto != 1 && (decide (p.dp < r.low) || decide (r.high < p.dp))) && (!(decide (0 < r.bits) && p.src / 2 ^ n != r.addr / 2 ^ n) && (decide (r.group < 0) || igB s p.src r.group)))) := (show lsB s n r p true = _ by unfold lsB; rw [hr]; rfl)
  have HRI : Hid (r.inn = false) := hr
  have hs0 : (0 : Int) ≤ (n : Int) := by omega
  have hs1 : (n : Int) ≤ 64 := by omega
  obtain ⟨ahs, khs, e1⟩ := h.rhs.sl
  obtain ⟨ags, kgs, e2⟩ := h.rgs.sl
  obtain ⟨afs, kfs, e3⟩ := h.rfs.sl
  obtain ⟨acs, kcs, e4⟩ := h.rcs.sl
  rw [h.nhs.len] at e1
  rw [h.ngs.len] at e2
  have hfc : flC s a = #[.slice ahs s.hs.length khs, .slice ags s.gs.length kgs, .slice afs s.fs.length kfs, .int .i64 s.pub, .int .i64 s.fst, .int .i64 s.lst, .slice acs s.cs.length kcs, .int .i64 s.time] := by unfold flC; rw [e1, e2, e3, e4]
  have HRW : Hid (NHrow w (.slice ahs s.hs.length khs) a.qhs) := (show NHrow w _ a.qhs by rw [← e1]; exact h.rhs)
  have HI : Hid (HOin w a.qhs s.hs) := h.nhs
  have HQ : Hid (a.qhs.length = s.hs.length) := h.nhs.len
  have E1 : Hid (a.vhs = .slice ahs s.hs.length khs) := e1
  have E2 : Hid (a.vgs = .slice ags s.gs.length kgs) := e2
  have E3 : Hid (a.vfs = .slice afs s.fs.length kfs) := e3
  have E4 : Hid (a.vcs = .slice acs s.cs.length kcs) := e4
  unfold flA at HH ⊢
  rw [hfc] at HR0 HH ⊢
  unfold nrA pkA pkC
  clear h hl hr e1 e2 e3 e4 hfc HRR
  go_enter Try.func38, Try.ntmps38
  go_upto_region 1 with fail
  generalize (((w.alloc (.cells #[.slice ahs s.hs.length khs, .slice ags s.gs.length kgs, .slice afs s.fs.length kfs, .int .i64 s.pub, .int .i64 s.fst, .int .i64 s.lst, .slice acs s.cs.length kcs, .int .i64 s.time] 35)).alloc (.cells #[.bool r.inn, .int .i64 r.proto, .int .i64 r.addr, .int .i64 r.bits, .int .i64 r.low, .int .i64 r.high, .int .i64 r.group] 44)).alloc (.cells #[.int .i64 p.proto, .int .i64 p.src, .int .i64 p.sp, .int .i64 p.dst, .int .i64 p.dp, .int .i64 p.flags] 46)) = u0 at *
  generalize w.heap.size + 1 + 1 = b2 at *
  generalize w.heap.size + 1 = b1 at *
  generalize w.heap.size = b0 at *
  have k0 := celN HR0.out.r 0 _ rfl
  have k1 := celN HR0.out.r 1 _ rfl
  have k2 := celN HR0.out.r 2 _ rfl
  have k3 := celN HR0.out.r 3 _ rfl
  have k4 := celN HR0.out.r 4 _ rfl
  have k5 := celN HR0.out.r 5 _ rfl
  have k6 := celN HR0.out.r 6 _ rfl
  rw [HRI.out] at k0
  have j0 := celN HR0.out.p 0 _ rfl
  have j1 := celN HR0.out.p 1 _ rfl
  have j2 := celN HR0.out.p 2 _ rfl
  have j3 := celN HR0.out.p 3 _ rfl
  have j4 := celN HR0.out.p 4 _ rfl
  have j5 := celN HR0.out.p 5 _ rfl
  have kl := HR0.out.lr
  have jl := HR0.out.lp
  have x0 := HR0.out.x.c0
  have x1 := HR0.out.x.c1
  have x2 := HR0.out.x.c2
  have x3 := HR0.out.x.c3
  have x4 := HR0.out.x.c4
  have x5 := HR0.out.x.c5
  have x6 := HR0.out.x.c6
  have x7 := HR0.out.x.c7
  rw [E1.out] at x0
  rw [E2.out] at x1
  rw [E3.out] at x2
  rw [E4.out] at x6
  have xl := HR0.out.x.lt
  go_wp2
  go_ret
  exact ⟨ret_bool (by rw [E.out]; simp), HR0.out.bel⟩
end Go.Proofs.Ytpggbbdfbnocfaa
