import Derived.Test.YtefeahilamiiaaaRt5
namespace Go.Proofs.Ytefeahilamiiaaa
open Go.ChangeShapes Go.WideShapes Go.ChangeAt Go.RowKit

set_option maxRecDepth 100000 in
set_option maxHeartbeats 4000000 in
theorem l08Cpu_any {w : World} {c : CP} {p s : Value} (hp : Irow w p c.ps) (hs : Irow w s c.ss) (hl : c.ps.length ≤ 1048576) : Calls Try.prog 19 #[cpA c.lim p s] w fun e w' => e = .returned (.bool (cpB c)) ∧ Below w.heap.size w w' := by
  obtain ⟨ap, kp, rfl⟩ := hp.sl
  obtain ⟨aq, ks, rfl⟩ := hs.sl
  have HP : Hid (Irow w (.slice ap c.ps.length kp) c.ps) := hp
  have HS : Hid (Irow w (.slice aq c.ss.length ks) c.ss) := hs
  have HX : Hid (BoxC (w.alloc (.cells #[.int .i64 c.lim, .slice ap c.ps.length kp, .slice aq c.ss.length ks] 59)) w.heap.size c.lim (.slice ap c.ps.length kp) (.slice aq c.ss.length ks)) := heap_new _ _
  have HB : Hid (Below w.heap.size w (w.alloc (.cells #[.int .i64 c.lim, .slice ap c.ps.length kp, .slice aq c.ss.length ks] 59))) := (Below.refl _ _).alloc (Nat.le_refl _) _
  clear hp hs
  unfold cpA
  cases h1 : okL c.lim
  · have hb : c.lim < 0 ∨ 16 < c.lim := by
      unfold okL at h1
      simp at h1
      omega
    have hn : Hid _ := cpB_no1 h1
    clear h1 HX
    rcases hb with hb | hb
    · go_enter Try.func19, Try.ntmps19
      go_wp2
      go_ret
      exact ⟨ret_bool hn.out.symm, HB.out⟩
    · have hb2 : ¬ c.lim < 0 := by omega
      go_enter Try.func19, Try.ntmps19
      go_wp2
      go_ret
      exact ⟨ret_bool hn.out.symm, HB.out⟩
  · have hb : ¬ c.lim < 0 ∧ ¬ 16 < c.lim := by
      unfold okL at h1
      simp at h1
      omega
    obtain ⟨hb1, hb2⟩ := hb
    have H1 : Hid _ := h1
    clear h1
    have HRI : Hid _ := l08Rising_any (HP.out.below HB.out) hl
    cases h2 : risB c.ps
    · rw [h2] at HRI
      have hn : Hid _ := cpB_no2 h2
      clear h2
      go_enter Try.func19, Try.ntmps19
      go_wp2_with (go_at_call 39; refine Calls.mono HRI.out ?_; rintro e u1 ⟨rfl, hu1⟩; have HB2 : Hid (Below w.heap.size w u1) := HB.out.trans (hu1.mono HB.out.size); clear hu1)
      go_ret
      exact ⟨ret_bool hn.out.symm, HB2.out⟩
    · rw [h2] at HRI
      have H2 : Hid _ := h2
      clear h2
      by_cases h3 : 16 < c.ss.length
      · have hn : Hid _ := cpB_no3 h3
        have h3b : (16 : Int) < (c.ss.length : Int) := by omega
        go_enter Try.func19, Try.ntmps19
        go_wp2_with (go_at_call 39; refine Calls.mono HRI.out ?_; rintro e u1 ⟨rfl, hu1⟩; have HB2 : Hid (Below w.heap.size w u1) := HB.out.trans (hu1.mono HB.out.size); obtain ⟨c0, c1, c2⟩ := (HX.out.below hu1 HX.out.lt).cel; clear hu1)
        go_ret
        exact ⟨ret_bool hn.out.symm, HB2.out⟩
      · have h3b : ¬ (16 : Int) < (c.ss.length : Int) := by omega
        go_enter Try.func19, Try.ntmps19
        go_wp2_with (go_at_call 39; refine Calls.mono HRI.out ?_; rintro e u1 ⟨rfl, hu1⟩; have HB2 : Hid (Below w.heap.size w u1) := HB.out.trans (hu1.mono HB.out.size); have HX2 : Hid (BoxC u1 w.heap.size c.lim (.slice ap c.ps.length kp) (.slice aq c.ss.length ks)) := HX.out.below hu1 HX.out.lt; obtain ⟨c0, c1, c2⟩ := HX2.out.cel; clear hu1 HB HX)
        clear c0 c1 c2
        go_loopw [3] (fun i wr => ∃ k : Nat, k ≤ c.ps.length ∧ i = .int .i64 k ∧ allB (fun j => okV (c.ps.getD j 0)) k = true ∧ BoxC wr w.heap.size c.lim (.slice ap c.ps.length kp) (.slice aq c.ss.length ks) ∧ Below w.heap.size w wr) (fun i _ => c.ps.length - (intOf i).toNat)
        case atStart => exact ⟨0, Nat.zero_le _, rfl, rfl, HX2.out, HB2.out⟩
        case round =>
          obtain ⟨k, hk, rfl, hok, hx, hb⟩ := hrel
          have HOK : Hid (allB (fun j => okV (c.ps.getD j 0)) k = true) := hok
          have HB : Hid (Below w.heap.size w wr) := hb
          have HX : Hid (BoxC wr w.heap.size c.lim (.slice ap c.ps.length kp) (.slice aq c.ss.length ks)) := hx
          obtain ⟨c0, c1, c2⟩ := hx.cel
          have hxl := hx.lt
          clear hok hx HX2 HB2 HRI
          by_cases hlt : k < c.ps.length
          · obtain ⟨g, o, cap2, hv, _, hg, hc⟩ := HP.out.resolve_left (fun h => by rw [h.1] at hlt; simp at hlt)
            injection hv with hv1 hv2 hv3
            subst hv1 hv3
            have d0 := hc.below hb hg k hlt
            have hpk : okV (c.ps.getD k 0) = okV c.ps[k] := by rw [gd hlt]
            have hk0 : (0 : Int) ≤ (k : Int) := by omega
            have hk1 : (k : Int) < (c.ps.length : Int) := by omega
            have HV : Hid _ := fun u => l08Vector_any c.ps[k] u
            cases hq : okV c.ps[k]
            · rw [hq] at hpk HV
              generalize c.ps[k] = z at *
              have hbad : Hid _ := allB_bad (p := fun j => okV (c.ps.getD j 0)) (m := c.ps.length) hlt hpk
              clear hc hpk hq
              go_wp2_with (go_at_call 18; refine (HV.out _).mono ?_; rintro e u2 ⟨rfl, hu2⟩; rw [hu2]; clear hu2)
              go_ret
              exact ⟨ret_bool (cpB_no4 hbad.out).symm, HB.out⟩
            · rw [hq] at hpk HV
              generalize c.ps[k] = z at *
              have hgd : Hid _ := hpk
              clear hc hpk hq
              go_wp2_with (go_at_call 18; refine (HV.out _).mono ?_; rintro e u2 ⟨rfl, hu2⟩; rw [hu2]; clear hu2)
              go_roundw
              case rel => exact ⟨k + 1, hlt, by go_num, by rw [allB_succ, HOK.out, hgd.out]; rfl, HX.out, HB.out⟩
              case measure => simp [intOf]; omega
          · obtain rfl : k = c.ps.length := by omega
            have H4 : Hid _ := HOK.out
            go_wp2
            clear c0 c1 c2 hxl hb
            go_loopw [4] (fun i wr => ∃ k : Nat, k ≤ c.ss.length ∧ i = .int .i64 k ∧ allB (sk c.ss) k = true ∧ BoxC wr w.heap.size c.lim (.slice ap c.ps.length kp) (.slice aq c.ss.length ks) ∧ Below w.heap.size w wr) (fun i _ => c.ss.length - (intOf i).toNat)
            case atStart => exact ⟨0, Nat.zero_le _, rfl, rfl, HX.out, HB.out⟩
            case round =>
              obtain ⟨k, hk, rfl, hok, hx, hb⟩ := hrel
              have HOK2 : Hid (allB (sk c.ss) k = true) := hok
              have HB3 : Hid (Below w.heap.size w wr) := hb
              have HX3 : Hid (BoxC wr w.heap.size c.lim (.slice ap c.ps.length kp) (.slice aq c.ss.length ks)) := hx
              obtain ⟨c0, c1, c2⟩ := hx.cel
              have hxl := hx.lt
              clear hok hx HX HB HOK
              by_cases hlt : k < c.ss.length
              · obtain ⟨g, o, cap2, hv, _, hg, hc⟩ := HS.out.resolve_left (fun h => by rw [h.1] at hlt; simp at hlt)
                injection hv with hv1 hv2 hv3
                subst hv1 hv3
                have d0 := hc.below hb hg k hlt
                have hpk : sk c.ss k = (okV c.ss[k] && (decide (k = 0) || decide (c.ss.getD (k - 1) 0 / 4 < c.ss[k] / 4))) := by unfold sk; rw [gd hlt]
                have hk0 : (0 : Int) ≤ (k : Int) := by omega
                have hk1 : (k : Int) < (c.ss.length : Int) := by omega
                have HV : Hid _ := fun u => l08Vector_any c.ss[k] u
                cases hq : okV c.ss[k]
                · rw [hq] at hpk HV
                  generalize c.ss[k] = z at *
                  have hbad : Hid _ := allB_bad (m := c.ss.length) hlt (hpk.trans (by simp))
                  clear hc hpk hq
                  go_wp2_with fail
                  go_quiet ((go_at_call 18; exact Calls.quiet_of_same (HV.out _)))
                  go_wp2
                  go_ret
                  exact ⟨ret_bool (cpB_no5 hbad.out).symm, bdn HB3.out _⟩
                · rw [hq] at hpk HV
                  by_cases h0 : k = 0
                  · subst h0
                    rw [Nat.add_zero] at d0
                    generalize c.ss[0] = z at *
                    have hgd : Hid _ := hpk
                    clear hc hpk hq
                    go_wp2_with fail
                    go_quiet ((go_at_call 18; exact Calls.quiet_of_same (HV.out _)))
                    go_wp2
                    go_roundw
                    case rel => exact ⟨1, hlt, by go_num, by rw [allB_succ, hgd.out]; rfl, HX3.out, bdn HB3.out _⟩
                    case measure => simp [intOf]; omega
                  · obtain ⟨j, rfl⟩ : ∃ j, k = j + 1 := ⟨k - 1, by omega⟩
                    have d1 := hc.below hb hg j (by omega)
                    rw [Nat.add_sub_cancel, gd (show j < c.ss.length by omega)] at hpk
                    have hj0 : (0 : Int) < ((j + 1 : Nat) : Int) := by omega
                    have hj1 : ((j + 1 : Nat) : Int) - 1 = (j : Int) := by omega
                    have hj2 : (j : Int) < (c.ss.length : Int) := by omega
                    have hj3 : (0 : Int) ≤ (j : Int) := by omega
                    have HSV : Hid (okV c.ss[j] = true) := (show okV c.ss[j] = true by
                      have := allB_iff.1 HOK2.out j (by omega)
                      unfold sk at this
                      rw [gd (show j < c.ss.length by omega), Bool.and_eq_true] at this
                      exact this.1)
                    generalize c.ss[j + 1] = z at *
                    generalize c.ss[j] = y at *
                    have hgd : Hid _ := hpk
                    obtain ⟨z0, z1⟩ := okV_b hq
                    have hys := HSV.out
                    obtain ⟨y0, y1⟩ := okV_b hys
                    clear hys
                    clear hc hpk hq
                    have e1 : z.tdiv 4 = z / 4 := Int.tdiv_eq_ediv_of_nonneg z0
                    have e2 : y.tdiv 4 = y / 4 := Int.tdiv_eq_ediv_of_nonneg y0
                    by_cases hyz : z / 4 ≤ y / 4
                    · go_wp2_with fail
                      go_quiet ((go_at_call 18; exact Calls.quiet_of_same (HV.out _)))
                      go_wp2
                      go_ret
                      exact ⟨ret_bool (cpB_no5 (allB_bad hlt (hgd.out.trans (by simp; omega)))).symm, bdn HB3.out _⟩
                    · go_wp2_with fail
                      go_quiet ((go_at_call 18; exact Calls.quiet_of_same (HV.out _)))
                      go_wp2
                      go_roundw
                      case rel => exact ⟨j + 1 + 1, hlt, by go_num, by rw [allB_succ, HOK2.out, hgd.out]; simp; omega, HX3.out, bdn HB3.out _⟩
                      case measure => simp [intOf]; omega
              · obtain rfl : k = c.ss.length := by omega
                go_wp2
                go_ret
                exact ⟨ret_bool (cpB_yes H1.out H2.out H4.out HOK2.out).symm, HB3.out⟩
end Go.Proofs.Ytefeahilamiiaaa
