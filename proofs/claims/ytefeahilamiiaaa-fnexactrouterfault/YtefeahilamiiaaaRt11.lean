import Derived.Test.YtefeahilamiiaaaRt10
namespace Go.Proofs.Ytefeahilamiiaaa
open Go.ChangeShapes Go.WideShapes Go.ChangeAt Go.RowKit

theorem rf_ls {r : RT} (h : 64 < r.ls.length) : rfC r = 1 := rfC_no (by simp only [rtB, lanesB, decide_eq_false (show ¬ r.ls.length ≤ 64 by omega), Bool.false_and, Bool.and_false])
theorem rf_c0 {r : RT} (h : r.cs.length < 1) : rfC r = 1 := rfC_no (by simp only [rtB, cpusB, decide_eq_false (show ¬ 1 ≤ r.cs.length by omega), Bool.false_and])
theorem rf_c8 {r : RT} (h : 8 < r.cs.length) : rfC r = 1 := rfC_no (by simp only [rtB, cpusB, decide_eq_false (show ¬ r.cs.length ≤ 8 by omega), Bool.false_and, Bool.and_false])
theorem rf_ms {r : RT} (h : 1000 < r.ms.length) : rfC r = 1 := rfC_no (by simp only [rtB, mapsB, decide_eq_false (show ¬ r.ms.length ≤ 1000 by omega), Bool.false_and, Bool.and_false])
theorem rf_l {r : RT} (h : allB (lk r.cs.length r.ls) r.ls.length = false) : rfC r = 1 := rfC_no (by simp only [rtB, lanesB, h, Bool.false_and, Bool.and_false])
theorem rf_c {r : RT} (h : allB (ck r.cs) r.cs.length = false) : rfC r = 1 := rfC_no (by simp only [rtB, cpusB, h, Bool.false_and, Bool.and_false])
theorem rf_m {r : RT} (h : allB (mk r.cs.length r.ms) r.ms.length = false) : rfC r = 1 := rfC_no (by simp only [rtB, mapsB, h, Bool.and_false])
theorem rf_y {r : RT} (h1 : r.ls.length ≤ 64) (h2 : 1 ≤ r.cs.length) (h3 : r.cs.length ≤ 8) (h4 : r.ms.length ≤ 1000) (h5 : allB (lk r.cs.length r.ls) r.ls.length = true) (h6 : allB (ck r.cs) r.cs.length = true) (h7 : allB (mk r.cs.length r.ms) r.ms.length = true) : rfC r = 0 := rfC_yes (by simp only [rtB, cpusB, lanesB, mapsB, decide_eq_true h1, decide_eq_true h2, decide_eq_true h3, decide_eq_true h4, h5, h6, h7, Bool.and_true])
theorem mOk_no {n : Nat} {z : RM} (h : z.dev < 0 ∨ 255 < z.dev ∨ z.idx < 0 ∨ 255 < z.idx ∨ z.cpu < 0 ∨ (n : Int) ≤ z.cpu) : mOk n z = false := by
  cases hq : mOk n z
  · rfl
  · have h2 := mOk_b hq
    unfold mOk okC at hq
    simp at hq
    omega
theorem mOk_in {n : Nat} {z : RM} (h1 : ¬ z.dev < 0) (h2 : ¬ 255 < z.dev) (h3 : ¬ z.idx < 0) (h4 : ¬ 255 < z.idx) (h5 : ¬ z.cpu < 0) (h6 : ¬ (n : Int) ≤ z.cpu) : mOk n z = okV z.vec := by
  unfold mOk okD okC
  rw [decide_eq_true (show 0 ≤ z.dev by omega), decide_eq_true (show z.dev < 256 by omega), decide_eq_true (show 0 ≤ z.idx by omega), decide_eq_true (show z.idx < 256 by omega), decide_eq_true (show 0 ≤ z.cpu by omega), decide_eq_true (show z.cpu < (n : Int) by omega)]
  rfl
set_option maxRecDepth 100000 in
set_option maxHeartbeats 4000000 in
theorem specRF_any {w : World} {r : RT} {a : RA} (h : RRows w r a) (hl : RLen r) : Calls Try.prog 6 #[rtA a] w fun e w' => e = .returned (.int .i64 (rfC r)) ∧ Below w.heap.size w w' := by
  have HL : Hid (RLen r) := hl
  have HX : Hid (RBx (w.alloc (.cells #[a.vl, a.vc, a.vm] 33)) w.heap.size r a) := RBx.new h
  have HB : Hid (Below w.heap.size w (w.alloc (.cells #[a.vl, a.vc, a.vm] 33))) := (Below.refl _ _).alloc (Nat.le_refl _) _
  obtain ⟨al, kl, el⟩ := h.ln.sl
  obtain ⟨ac, kc, ec⟩ := HX.out.slc
  obtain ⟨am, km, em⟩ := h.rm.sl
  obtain ⟨q1, q2, q3, q4, q5⟩ := hl
  unfold rtA
  obtain ⟨vl, vc, vm, qs⟩ := a
  simp only at el ec em
  subst el ec em
  clear h
  simp only at HX HB ⊢
  by_cases h1 : 64 < r.ls.length
  · have hn : Hid _ := rf_ls h1
    have g1 : (64 : Int) < (r.ls.length : Int) := by omega
    go_enter Try.func6, Try.ntmps6
    go_wp2
    go_ret
    exact ⟨ret_int hn.out.symm, HB.out⟩
  have g1 : ¬ (64 : Int) < (r.ls.length : Int) := by omega
  by_cases h2 : r.cs.length < 1
  · have hn : Hid _ := rf_c0 h2
    have g2 : (r.cs.length : Int) < 1 := by omega
    go_enter Try.func6, Try.ntmps6
    go_wp2
    go_ret
    exact ⟨ret_int hn.out.symm, HB.out⟩
  have g2 : ¬ (r.cs.length : Int) < 1 := by omega
  by_cases h3 : 8 < r.cs.length
  · have hn : Hid _ := rf_c8 h3
    have g3 : 8 < (r.cs.length : Int) := by omega
    go_enter Try.func6, Try.ntmps6
    go_wp2
    go_ret
    exact ⟨ret_int hn.out.symm, HB.out⟩
  have g3 : ¬ 8 < (r.cs.length : Int) := by omega
  by_cases h4 : 1000 < r.ms.length
  · have hn : Hid _ := rf_ms h4
    have g4 : 1000 < (r.ms.length : Int) := by omega
    go_enter Try.func6, Try.ntmps6
    go_wp2
    go_ret
    exact ⟨ret_int hn.out.symm, HB.out⟩
  have g4 : ¬ 1000 < (r.ms.length : Int) := by omega
  go_enter Try.func6, Try.ntmps6
  go_wp2
  go_loopw [4] (fun i wr => ∃ k : Nat, k ≤ r.ls.length ∧ i = .int .i64 k ∧ allB (lk r.cs.length r.ls) k = true ∧ RBx wr w.heap.size r ⟨.slice al r.ls.length kl, .slice ac r.cs.length kc, .slice am r.ms.length km, qs⟩ ∧ Below w.heap.size w wr) (fun i _ => r.ls.length - (intOf i).toNat)
  case atStart => exact ⟨0, Nat.zero_le _, rfl, rfl, HX.out, HB.out⟩
  case round =>
    obtain ⟨k, hk, rfl, hok, hx, hb⟩ := hrel
    have HOK : Hid (allB (lk r.cs.length r.ls) k = true) := hok
    have HB1 : Hid (Below w.heap.size w wr) := hb
    have HX1 : Hid (RBx wr w.heap.size r ⟨.slice al r.ls.length kl, .slice ac r.cs.length kc, .slice am r.ms.length km, qs⟩) := hx
    have hr := hx.row.ln
    obtain ⟨c0, c1, c2⟩ := hx.cel
    simp only at c0 c1 c2 hr
    clear hok hx HX HB hb
    by_cases hlt : k < r.ls.length
    · obtain ⟨g, o, cap2, hv, _, hg, hc⟩ := hr.resolve_left (fun h => by rw [h.1] at hlt; simp at hlt)
      injection hv with hv1 hv2 hv3
      subst hv1 hv3
      clear hv2
      obtain ⟨d0, d1, d2, d3, d4⟩ := hc k hlt
      have hpk : lk r.cs.length r.ls k = (okC r.cs.length r.ls[k].cpu && okV r.ls[k].vec) := by unfold lk; rw [gdl hlt]
      have hk0 : (0 : Int) ≤ (k : Int) := by omega
      have hk1 : (k : Int) < (r.ls.length : Int) := by omega
      generalize r.ls[k] = z at *
      have HV : Hid _ := fun u => l08Vector_any z.vec u
      have HPK : Hid _ := hpk
      clear hc hr hpk
      by_cases t1 : z.cpu < 0
      · have hbad : Hid _ := rf_l (allB_bad hlt (HPK.out.trans (by simp [okC]; omega)))
        go_wp2
        go_ret
        exact ⟨ret_int hbad.out.symm, HB1.out⟩
      · by_cases t2 : (r.cs.length : Int) ≤ z.cpu
        · have hbad : Hid _ := rf_l (allB_bad hlt (HPK.out.trans (by simp [okC]; omega)))
          go_wp2
          go_ret
          exact ⟨ret_int hbad.out.symm, HB1.out⟩
        · have hoc : okC r.cs.length z.cpu = true := by simp [okC]; omega
          rw [hoc, Bool.true_and] at HPK
          clear hoc
          cases hq : okV z.vec
          · rw [hq] at HPK HV
            have hbad : Hid _ := rf_l (allB_bad hlt HPK.out)
            clear hq
            go_wp2_with (go_at_call 18; refine (HV.out _).mono ?_; rintro e u2 ⟨rfl, hu2⟩; rw [hu2]; clear hu2)
            go_ret
            exact ⟨ret_int hbad.out.symm, HB1.out⟩
          · rw [hq] at HPK HV
            clear hq
            go_wp2_with (go_at_call 18; refine (HV.out _).mono ?_; rintro e u2 ⟨rfl, hu2⟩; rw [hu2]; clear hu2)
            go_roundw
            case rel => exact ⟨k + 1, hlt, by go_num, by rw [allB_succ, HOK.out, HPK.out]; rfl, HX1.out, HB1.out⟩
            case measure => simp [intOf]; omega
    · obtain rfl : k = r.ls.length := by omega
      clear hr
      have H5 : Hid (allB (lk r.cs.length r.ls) r.ls.length = true) := HOK.out
      go_wp2
      clear c0 c1 c2
      go_loopw [5] (fun i wr => ∃ k : Nat, k ≤ r.cs.length ∧ i = .int .i64 k ∧ allB (ck r.cs) k = true ∧ RBx wr w.heap.size r ⟨.slice al r.ls.length kl, .slice ac r.cs.length kc, .slice am r.ms.length km, qs⟩ ∧ Below w.heap.size w wr) (fun i _ => r.cs.length - (intOf i).toNat)
      case atStart => exact ⟨0, Nat.zero_le _, rfl, rfl, HX1.out, HB1.out⟩
      case round =>
        obtain ⟨k, hk, rfl, hok, hx, hb⟩ := hrel
        have HOK2 : Hid (allB (ck r.cs) k = true) := hok
        have HB2 : Hid (Below w.heap.size w wr) := hb
        have HX2 : Hid (RBx wr w.heap.size r ⟨.slice al r.ls.length kl, .slice ac r.cs.length kc, .slice am r.ms.length km, qs⟩) := hx
        have hr := hx.row.cq
        have hp := hx.row.cp
        have hlq := hx.row.cp.len
        obtain ⟨c0, c1, c2⟩ := hx.cel
        simp only at c0 c1 c2 hr hp hlq
        clear hok hx HX1 HB1 hb HOK
        by_cases hlt : k < r.cs.length
        · have hltq : k < qs.length := by rw [hlq]; exact hlt
          obtain ⟨g, o, cap2, hv, _, hg, hc⟩ := hr.resolve_left (fun h => by rw [h.1] at hltq; simp at hltq)
          injection hv with hv1 hv2 hv3
          subst hv1 hv3
          clear hv2
          obtain ⟨d0, d1, d2⟩ := hc k hltq
          obtain ⟨e0, e1, e2⟩ := hp.el k hltq hlt
          have hpk : ck r.cs k = cpB r.cs[k] := by unfold ck; rw [gdc hlt]
          have hpl := HL.out.p k hlt
          have hk0 : (0 : Int) ≤ (k : Int) := by omega
          have hk1 : (k : Int) < (r.cs.length : Int) := by omega
          rw [e0] at d0
          clear e0
          generalize r.cs[k] = z at *
          generalize qs[k] = y at *
          obtain ⟨yl, yp, ys⟩ := y
          simp only at d1 d2 e1 e2
          obtain ⟨ap, kp, rfl⟩ := e1.sl
          obtain ⟨aq, kq, rfl⟩ := e2.sl
          have HCP : Hid _ := l08Cpu_any e1 e2 hpl
          unfold cpA at HCP
          have HPK : Hid _ := hpk
          clear hc hr hpk hp hlq e1 e2
          cases hq : cpB z
          · rw [hq] at HPK HCP
            have hbad : Hid _ := rf_c (allB_bad hlt HPK.out)
            clear hq
            go_wp2_with (go_at_call 19; refine Calls.mono HCP.out ?_; rintro e u2 ⟨rfl, hu2⟩; have HB3 : Hid (Below w.heap.size w u2) := HB2.out.trans (hu2.mono HB2.out.size); clear hu2)
            go_ret
            exact ⟨ret_int hbad.out.symm, HB3.out⟩
          · rw [hq] at HPK HCP
            clear hq
            go_wp2_with (go_at_call 19; refine Calls.mono HCP.out ?_; rintro e u2 ⟨rfl, hu2⟩; have HB3 : Hid (Below w.heap.size w u2) := HB2.out.trans (hu2.mono HB2.out.size); have HX3 : Hid (RBx u2 w.heap.size r ⟨.slice al r.ls.length kl, .slice (some ⟨g, o, none⟩) r.cs.length kc, .slice am r.ms.length km, qs⟩) := HX2.out.below hu2; clear hu2)
            go_roundw
            case rel => exact ⟨k + 1, hlt, by go_num, by rw [allB_succ, HOK2.out, HPK.out]; rfl, HX3.out, HB3.out⟩
            case measure => simp [intOf]; omega
        · obtain rfl : k = r.cs.length := by omega
          clear hr hp hlq
          have H6 : Hid (allB (ck r.cs) r.cs.length = true) := HOK2.out
          go_wp2
          clear c0 c1 c2
          go_loopw [6] (fun i wr => ∃ k : Nat, k ≤ r.ms.length ∧ i = .int .i64 k ∧ allB (mk r.cs.length r.ms) k = true ∧ RBx wr w.heap.size r ⟨.slice al r.ls.length kl, .slice ac r.cs.length kc, .slice am r.ms.length km, qs⟩ ∧ Below w.heap.size w wr) (fun i _ => r.ms.length - (intOf i).toNat)
          case atStart => exact ⟨0, Nat.zero_le _, rfl, rfl, HX2.out, HB2.out⟩
          case round =>
            obtain ⟨k, hk, rfl, hok, hx, hb⟩ := hrel
            have HOK3 : Hid (allB (mk r.cs.length r.ms) k = true) := hok
            have HB3 : Hid (Below w.heap.size w wr) := hb
            have HX3 : Hid (RBx wr w.heap.size r ⟨.slice al r.ls.length kl, .slice ac r.cs.length kc, .slice am r.ms.length km, qs⟩) := hx
            have hr := hx.row.rm
            obtain ⟨c0, c1, c2⟩ := hx.cel
            simp only at c0 c1 c2 hr
            clear hok hx HX2 HB2 hb HOK2
            by_cases hlt : k < r.ms.length
            · obtain ⟨g, o, cap2, hv, _, hg, hc⟩ := hr.resolve_left (fun h => by rw [h.1] at hlt; simp at hlt)
              injection hv with hv1 hv2 hv3
              subst hv1 hv3
              clear hv2
              obtain ⟨d0, d1, d2, d3⟩ := hc k hlt
              have hpk : mk r.cs.length r.ms k = (mOk r.cs.length r.ms[k] && (decide (k = 0) || mLt (r.ms.getD (k - 1) rm0) r.ms[k])) := by unfold mk; rw [gdm hlt]
              have hk0 : (0 : Int) ≤ (k : Int) := by omega
              have hk1 : (k : Int) < (r.ms.length : Int) := by omega
              generalize r.ms[k] = z at *
              have hbn : Below wr.heap.size wr (wr.alloc (.cells #[.int .i64 z.dev, .int .i64 z.idx, .int .i64 z.cpu, .int .i64 z.vec] 61)) := (Below.refl _ _).alloc (Nat.le_refl _) _
              have HB4 : Hid (Below w.heap.size w (wr.alloc (.cells #[.int .i64 z.dev, .int .i64 z.idx, .int .i64 z.cpu, .int .i64 z.vec] 61))) := HB3.out.alloc HB3.out.size _
              have HX4 : Hid (RBx (wr.alloc (.cells #[.int .i64 z.dev, .int .i64 z.idx, .int .i64 z.cpu, .int .i64 z.vec] 61)) w.heap.size r ⟨.slice al r.ls.length kl, .slice ac r.cs.length kc, .slice (some ⟨g, o, none⟩) r.ms.length km, qs⟩) := HX3.out.below hbn
              have HNB : Hid ((wr.alloc (.cells #[.int .i64 z.dev, .int .i64 z.idx, .int .i64 z.cpu, .int .i64 z.vec] 61)).heap[wr.heap.size]? = some (.cells #[.int .i64 z.dev, .int .i64 z.idx, .int .i64 z.cpu, .int .i64 z.vec] 61 (0, 0))) := heap_new _ _
              have HC3 : Hid (RMat (wr.alloc (.cells #[.int .i64 z.dev, .int .i64 z.idx, .int .i64 z.cpu, .int .i64 z.vec] 61)) g o r.ms) := hc.below hbn hg
              have HPK : Hid _ := hpk
              clear hpk hc hbn hr
              go_upto_region 18 with fail
              clear d0 d1 d2 d3 c0 c1 c2
              generalize wr.alloc (.cells #[.int .i64 z.dev, .int .i64 z.idx, .int .i64 z.cpu, .int .i64 z.vec] 61) = W at *
              have f0 : W.cell? ⟨wr.heap.size, 0, none⟩ = some (.int .i64 z.dev) := by simp [World.cell?, HNB.out]
              have f1 : W.cell? ⟨wr.heap.size, 1, none⟩ = some (.int .i64 z.idx) := by simp [World.cell?, HNB.out]
              have f2 : W.cell? ⟨wr.heap.size, 2, none⟩ = some (.int .i64 z.cpu) := by simp [World.cell?, HNB.out]
              have f3 : W.cell? ⟨wr.heap.size, 3, none⟩ = some (.int .i64 z.vec) := by simp [World.cell?, HNB.out]
              obtain ⟨c0, c1, c2⟩ := HX4.out.cel
              simp only at c0 c1 c2
              have HV : Hid _ := fun u => l08Vector_any z.vec u
              by_cases t0 : z.dev < 0
              · have hm : mOk r.cs.length z = false := mOk_no (by omega)
                have hbad : Hid _ := rf_m (allB_bad hlt (HPK.out.trans (by rw [hm]; rfl)))
                clear hm
                go_wp2
                go_ret
                exact ⟨ret_int hbad.out.symm, HB4.out⟩
              · have t0b := t0
                by_cases t1 : 255 < z.dev
                · have hm : mOk r.cs.length z = false := mOk_no (by omega)
                  have hbad : Hid _ := rf_m (allB_bad hlt (HPK.out.trans (by rw [hm]; rfl)))
                  clear hm
                  go_wp2
                  go_ret
                  exact ⟨ret_int hbad.out.symm, HB4.out⟩
                · have t1b := t1
                  by_cases t2 : z.idx < 0
                  · have hm : mOk r.cs.length z = false := mOk_no (by omega)
                    have hbad : Hid _ := rf_m (allB_bad hlt (HPK.out.trans (by rw [hm]; rfl)))
                    clear hm
                    go_wp2
                    go_ret
                    exact ⟨ret_int hbad.out.symm, HB4.out⟩
                  · have t2b := t2
                    by_cases t3 : 255 < z.idx
                    · have hm : mOk r.cs.length z = false := mOk_no (by omega)
                      have hbad : Hid _ := rf_m (allB_bad hlt (HPK.out.trans (by rw [hm]; rfl)))
                      clear hm
                      go_wp2
                      go_ret
                      exact ⟨ret_int hbad.out.symm, HB4.out⟩
                    · have t3b := t3
                      by_cases t4 : z.cpu < 0
                      · have hm : mOk r.cs.length z = false := mOk_no (by omega)
                        have hbad : Hid _ := rf_m (allB_bad hlt (HPK.out.trans (by rw [hm]; rfl)))
                        clear hm
                        go_wp2
                        go_ret
                        exact ⟨ret_int hbad.out.symm, HB4.out⟩
                      · have t4b := t4
                        by_cases t5 : (r.cs.length : Int) ≤ z.cpu
                        · have hm : mOk r.cs.length z = false := mOk_no (by omega)
                          have hbad : Hid _ := rf_m (allB_bad hlt (HPK.out.trans (by rw [hm]; rfl)))
                          clear hm
                          go_wp2
                          go_ret
                          exact ⟨ret_int hbad.out.symm, HB4.out⟩
                        · have t5b := t5
                          have hm : mOk r.cs.length z = okV z.vec := mOk_in (by omega) (by omega) (by omega) (by omega) (by omega) (by omega)
                          cases hq : okV z.vec
                          · rw [hq] at HV hm
                            have hbad : Hid _ := rf_m (allB_bad hlt (HPK.out.trans (by rw [hm]; rfl)))
                            clear hm hq
                            go_wp2_with (go_at_call 18; refine (HV.out _).mono ?_; rintro e u2 ⟨rfl, hu2⟩; rw [hu2]; clear hu2)
                            go_ret
                            exact ⟨ret_int hbad.out.symm, HB4.out⟩
                          · rw [hq] at HV hm
                            have HMO : Hid _ := hm
                            rw [hm, Bool.true_and] at HPK
                            clear hm hq
                            go_upto_region 20 with (go_at_call 18; refine (HV.out _).mono ?_; rintro e u2 ⟨rfl, hu2⟩; rw [hu2]; clear hu2)
                            by_cases h0 : k = 0
                            · subst h0
                              go_quiet (fail)
                              go_wp2
                              go_roundw
                              case rel => exact ⟨1, hlt, by go_num, by rw [allB_succ, HPK.out]; rfl, HX4.out.below ⟨rfl, rfl, rfl, Nat.le_refl _, fun _ _ => rfl⟩, bdn HB4.out _⟩
                              case measure => simp [intOf]; omega
                            · obtain ⟨j, rfl⟩ : ∃ j, k = j + 1 := ⟨k - 1, by omega⟩
                              obtain ⟨p0, p1, p2, p3⟩ := HC3.out j (by omega)
                              have HMY : Hid (mOk r.cs.length r.ms[j] = true) := (show mOk r.cs.length r.ms[j] = true by
                                have := allB_iff.1 HOK3.out j (by omega)
                                unfold mk at this
                                rw [gdm (show j < r.ms.length by omega), Bool.and_eq_true] at this
                                exact this.1)
                              rw [Nat.add_sub_cancel, gdm (show j < r.ms.length by omega)] at HPK
                              generalize r.ms[j] = y at *
                              obtain ⟨y1, y2, y3, y4⟩ := mOk_b HMY.out
                              obtain ⟨z1, z2, z3, z4⟩ := mOk_b HMO.out
                              have hj0 : (0 : Int) < ((j + 1 : Nat) : Int) := by omega
                              have hj1 : ((j + 1 : Nat) : Int) - 1 = (j : Int) := by omega
                              have hj2 : (j : Int) < (r.ms.length : Int) := by omega
                              have hj3 : (0 : Int) ≤ (j : Int) := by omega
                              have hjn : j < r.ms.length := by omega
                              have w1 : IntKind.i64.wrap (y.dev * 256) = y.dev * 256 := by rw [IntKind.wrap_i64]; omega
                              have w2 : IntKind.i64.wrap (z.dev * 256) = z.dev * 256 := by rw [IntKind.wrap_i64]; omega
                              have w3 : IntKind.i64.wrap (y.dev * 256 + y.idx) = y.dev * 256 + y.idx := by rw [IntKind.wrap_i64]; omega
                              have w4 : IntKind.i64.wrap (z.dev * 256 + z.idx) = z.dev * 256 + z.idx := by rw [IntKind.wrap_i64]; omega
                              by_cases hq : z.dev * 256 + z.idx ≤ y.dev * 256 + y.idx
                              · have hbad : Hid _ := rf_m (allB_bad hlt (HPK.out.trans (by simp [mLt]; omega)))
                                go_quiet (fail)
                                go_wp2
                                go_ret
                                exact ⟨ret_int hbad.out.symm, bdn HB4.out _⟩
                              · have hgd : Hid (mk r.cs.length r.ms (j + 1) = true) := HPK.out.trans (by simp [mLt]; omega)
                                go_quiet (fail)
                                go_wp2
                                go_roundw
                                case rel => exact ⟨j + 1 + 1, hlt, by go_num, by rw [allB_succ, HOK3.out, hgd.out]; rfl, HX4.out.below ⟨rfl, rfl, rfl, Nat.le_refl _, fun _ _ => rfl⟩, bdn HB4.out _⟩
                                case measure => simp [intOf]; omega
            · obtain rfl : k = r.ms.length := by omega
              clear hr
              go_wp2
              go_ret
              exact ⟨ret_int (rf_y (by omega) (by omega) (by omega) (by omega) H5.out H6.out HOK3.out).symm, HB3.out⟩
end Go.Proofs.Ytefeahilamiiaaa
