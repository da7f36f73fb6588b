import Derived.Test.YtegcbghhcidcaaaDoorCk3
namespace Go.Proofs.YtegcbghhcidcaaaDoor
open Go.ChangeShapes Go.WideShapes Go.ChangeAt Go.RowKit

set_option maxRecDepth 100000 in
set_option maxHeartbeats 8000000 in
theorem specClockFault_any {w : World} {c : CK} {v : Value} (hr : TMrow w v c.ts) (hl : c.ts.length ≤ 1048576) : Calls Tryd.prog 5 #[ckA c v] w fun e w' => e = .returned (.int .i64 (fcB c)) ∧ Below w.heap.size w w' := by
  obtain ⟨ao, cap, rfl⟩ := hr.sl
  have HR : Hid (TMrow w (.slice ao c.ts.length cap) c.ts) := hr
  clear hr
  obtain ⟨ho, gu, nu, de, pa, fz, ts⟩ := c
  unfold ckA
  simp only at *
  by_cases h1 : ho < 0
  · rw [show fcB ⟨ho, gu, nu, de, pa, fz, ts⟩ = 1 by unfold fcB; rw [ckB_1 (by unfold tmB; rw [decide_eq_false (show ¬ (0 : Int) ≤ ho by omega)]; rfl)]; rfl]
    go_enter Tryd.func5, Tryd.ntmps5
    go_wp2_with (go_at_call 11; refine Calls.mono (l09Rate_any _ _ _) ?_; rintro e u1 ⟨rfl, hu1⟩; rw [hu1]; clear hu1)
    go_ret
    exact ⟨rfl, bx1 _ _⟩
  by_cases h2 : 1099511627776 < ho
  · rw [show fcB ⟨ho, gu, nu, de, pa, fz, ts⟩ = 1 by unfold fcB; rw [ckB_1 (by unfold tmB; rw [decide_eq_false (show ¬ ho ≤ 1099511627776 by omega)]; simp)]; rfl]
    have h1' : decide (ho < 0) = false := decide_eq_false h1
    go_enter Tryd.func5, Tryd.ntmps5
    go_wp2_with (go_at_call 11; refine Calls.mono (l09Rate_any _ _ _) ?_; rintro e u1 ⟨rfl, hu1⟩; rw [hu1]; clear hu1)
    go_ret
    exact ⟨rfl, bx1 _ _⟩
  by_cases h3 : gu < 0
  · rw [show fcB ⟨ho, gu, nu, de, pa, fz, ts⟩ = 1 by unfold fcB; rw [ckB_2 (by unfold tmB; rw [decide_eq_false (show ¬ (0 : Int) ≤ gu by omega)]; rfl)]; rfl]
    have h1' : decide (ho < 0) = false := decide_eq_false h1
    have h2' : decide (1099511627776 < ho) = false := decide_eq_false h2
    go_enter Tryd.func5, Tryd.ntmps5
    go_wp2_with (go_at_call 11; refine Calls.mono (l09Rate_any _ _ _) ?_; rintro e u1 ⟨rfl, hu1⟩; rw [hu1]; clear hu1)
    go_ret
    exact ⟨rfl, bx1 _ _⟩
  by_cases h4 : 1099511627776 < gu
  · rw [show fcB ⟨ho, gu, nu, de, pa, fz, ts⟩ = 1 by unfold fcB; rw [ckB_2 (by unfold tmB; rw [decide_eq_false (show ¬ gu ≤ 1099511627776 by omega)]; simp)]; rfl]
    have h1' : decide (ho < 0) = false := decide_eq_false h1
    have h2' : decide (1099511627776 < ho) = false := decide_eq_false h2
    have h3' : decide (gu < 0) = false := decide_eq_false h3
    go_enter Tryd.func5, Tryd.ntmps5
    go_wp2_with (go_at_call 11; refine Calls.mono (l09Rate_any _ _ _) ?_; rintro e u1 ⟨rfl, hu1⟩; rw [hu1]; clear hu1)
    go_ret
    exact ⟨rfl, bx1 _ _⟩
  have t1 : tmB ho = true := by unfold tmB; rw [decide_eq_true (show (0 : Int) ≤ ho by omega), decide_eq_true (show ho ≤ 1099511627776 by omega)]; rfl
  have t2 : tmB gu = true := by unfold tmB; rw [decide_eq_true (show (0 : Int) ≤ gu by omega), decide_eq_true (show gu ≤ 1099511627776 by omega)]; rfl
  have H1 : Hid (tmB ho = true) := t1
  have H2 : Hid (tmB gu = true) := t2
  clear t1 t2
  have h1' : decide (ho < 0) = false := decide_eq_false h1
  have h2' : decide (1099511627776 < ho) = false := decide_eq_false h2
  have h3' : decide (gu < 0) = false := decide_eq_false h3
  have h4' : decide (1099511627776 < gu) = false := decide_eq_false h4
  clear h1 h2 h3 h4
  cases h5 : rtB nu de
  · rw [show fcB ⟨ho, gu, nu, de, pa, fz, ts⟩ = 1 by unfold fcB; rw [ckB_3 h5]; rfl]
    go_enter Tryd.func5, Tryd.ntmps5
    go_wp2_with (go_at_call 11; refine Calls.mono (l09Rate_any _ _ _) ?_; rintro e u1 ⟨rfl, hu1⟩; rw [hu1]; clear hu1)
    go_ret
    exact ⟨rfl, bx1 _ _⟩
  have H3 : Hid (rtB nu de = true) := h5
  by_cases h6 : pa < 0
  · rw [show fcB ⟨ho, gu, nu, de, pa, fz, ts⟩ = 1 by unfold fcB; rw [ckB_5 (by simp only; omega)]; rfl]
    go_enter Tryd.func5, Tryd.ntmps5
    go_wp2_with (go_at_call 11; refine Calls.mono (l09Rate_any _ _ _) ?_; rintro e u1 ⟨rfl, hu1⟩; rw [hu1]; clear hu1)
    go_ret
    exact ⟨rfl, bx1 _ _⟩
  by_cases h7 : de ≤ pa
  · rw [show fcB ⟨ho, gu, nu, de, pa, fz, ts⟩ = 1 by unfold fcB; rw [ckB_6 (by simp only; omega)]; rfl]
    have h6' : decide (pa < 0) = false := decide_eq_false h6
    go_enter Tryd.func5, Tryd.ntmps5
    go_wp2_with (go_at_call 11; refine Calls.mono (l09Rate_any _ _ _) ?_; rintro e u1 ⟨rfl, hu1⟩; rw [hu1]; clear hu1)
    go_ret
    exact ⟨rfl, bx1 _ _⟩
  by_cases h8 : (20 : Int) < (ts.length : Int)
  · rw [show fcB ⟨ho, gu, nu, de, pa, fz, ts⟩ = 1 by unfold fcB; rw [ckB_4 (by simp only; omega)]; rfl]
    have h6' : decide (pa < 0) = false := decide_eq_false h6
    have h7' : decide (de ≤ pa) = false := decide_eq_false h7
    go_enter Tryd.func5, Tryd.ntmps5
    go_wp2_with (go_at_call 11; refine Calls.mono (l09Rate_any _ _ _) ?_; rintro e u1 ⟨rfl, hu1⟩; rw [hu1]; clear hu1)
    go_ret
    exact ⟨rfl, bx1 _ _⟩
  have H4 : Hid (ts.length ≤ 20) := (show ts.length ≤ 20 by omega)
  have H5 : Hid (0 ≤ pa) := (show 0 ≤ pa by omega)
  have H6 : Hid (pa < de) := (show pa < de by omega)
  have h6' : decide (pa < 0) = false := decide_eq_false h6
  have h7' : decide (de ≤ pa) = false := decide_eq_false h7
  have h8' : decide ((20 : Int) < (ts.length : Int)) = false := decide_eq_false h8
  clear h6 h7 h8
  have HX0 : Hid (BoxK (w.alloc (.cells #[.int .i64 ho, .int .i64 gu, .int .i64 nu, .int .i64 de, .int .i64 pa, .bool fz, .slice ao ts.length cap] 25)) w.heap.size 25 ⟨ho, gu, nu, de, pa, fz, ts⟩ (.slice ao ts.length cap)) := heap_new _ _
  have HB0 : Hid (Below w.heap.size w (w.alloc (.cells #[.int .i64 ho, .int .i64 gu, .int .i64 nu, .int .i64 de, .int .i64 pa, .bool fz, .slice ao ts.length cap] 25))) := bx1 _ _
  go_enter Tryd.func5, Tryd.ntmps5
  go_wp2_with (go_at_call 11; refine Calls.mono (l09Rate_any _ _ _) ?_; rintro e u1 ⟨rfl, hu1⟩; rw [hu1]; clear hu1)
  generalize (w.alloc (.cells #[.int .i64 ho, .int .i64 gu, .int .i64 nu, .int .i64 de, .int .i64 pa, .bool fz, .slice ao ts.length cap] 25)) = u0 at *
  clear h1' h2' h3' h4' h5 h6' h7' h8'
  go_loopw [3] (fun i wr => ∃ k : Nat, k ≤ ts.length ∧ i = .int .i64 k ∧ allB (tkB ts) k = true ∧ Below w.heap.size w wr ∧ BoxK wr w.heap.size 25 ⟨ho, gu, nu, de, pa, fz, ts⟩ (.slice ao ts.length cap)) (fun i _ => ts.length - (intOf i).toNat)
  case atStart => exact ⟨0, Nat.zero_le _, rfl, rfl, HB0.out, HX0.out⟩
  case round =>
    obtain ⟨k, hk, rfl, hok, hb, hx⟩ := hrel
    have HOK : Hid (allB (tkB ts) k = true) := hok
    have HB : Hid (Below w.heap.size w wr) := hb
    have HX : Hid (BoxK wr w.heap.size 25 ⟨ho, gu, nu, de, pa, fz, ts⟩ (.slice ao ts.length cap)) := hx
    obtain ⟨c0, c1, c2, c3, c4, c5, c6, cf⟩ := hx.cel
    have lt := hx.lt
    clear hok hx c0 c1 c2 c3 c4 c5 cf
    by_cases hlt : k < ts.length
    · obtain ⟨g, o, cap2, hv, _, hg, hc⟩ := HR.out.resolve_left (fun h => by rw [h.1] at hlt; simp at hlt)
      injection hv with hv1 hv2 hv3
      subst hv1 hv3
      clear hv2
      obtain ⟨d0, d1, d2⟩ := hc.below hb hg k hlt
      have hgr : g < wr.heap.size := Nat.lt_of_lt_of_le hg hb.size
      have htk : Hid (tkB ts k = tiB ts[k]) := (show tkB ts k = tiB ts[k] by unfold tkB; rw [tmAt_lt hlt])
      have hk0 : (0 : Int) ≤ (k : Int) := by omega
      have hk1 : (k : Int) < (ts.length : Int) := by omega
      have HFT : Hid _ := fun u => l09Timer_any u ts[k]
      unfold tiA at HFT
      clear hc hb
      generalize ts[k].due = x0 at *
      generalize ts[k].period = x1 at *
      generalize ts[k].policy = x2 at *
      cases hq : tiB ts[k]
      · rw [hq] at HFT
        have HF : Hid (ckB ⟨ho, gu, nu, de, pa, fz, ts⟩ = false) := ckB_7 (allB_bad hlt (htk.out.trans hq))
        clear hq htk
        go_wp2_with fail
        refine Calls.mono (HFT.out _) ?_
        rintro e u1 ⟨rfl, hb1⟩
        have HB1 : Hid (Below w.heap.size w u1) := HB.out.trans (hb1.mono HB.out.size)
        clear hb1
        go_wp2_with fail
        go_ret
        exact ⟨ret_int (by unfold fcB; rw [HF.out]; rfl), HB1.out⟩
      · rw [hq] at HFT
        have HK : Hid (tkB ts k = true) := htk.out.trans hq
        clear hq htk
        go_wp2_with fail
        refine Calls.mono (HFT.out _) ?_
        rintro e u1 ⟨rfl, hb1⟩
        have HB1 : Hid (Below w.heap.size w u1) := HB.out.trans (hb1.mono HB.out.size)
        have HX1 : Hid (BoxK u1 w.heap.size 25 ⟨ho, gu, nu, de, pa, fz, ts⟩ (.slice (some ⟨g, o, none⟩) ts.length cap)) := HX.out.below hb1
        clear hb1
        go_wp2_with fail
        go_roundw
        case rel => exact ⟨k + 1, hlt, by go_num, by rw [allB_succ, HOK.out, HK.out]; rfl, HB1.out, HX1.out⟩
        case measure => simp [intOf]; omega
    · obtain rfl : k = ts.length := by omega
      go_wp2
      go_ret
      exact ⟨ret_int (by unfold fcB; rw [ckB_y H1.out H2.out H3.out H4.out H5.out H6.out HOK.out]; rfl), HB.out⟩
end Go.Proofs.YtegcbghhcidcaaaDoor
