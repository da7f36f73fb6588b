import Derived.Test.YtefeahilamiiaaaRt7
namespace Go.Proofs.Ytefeahilamiiaaa
open Go.ChangeShapes Go.WideShapes Go.ChangeAt Go.RowKit

set_option maxRecDepth 100000 in
set_option maxHeartbeats 4000000 in
theorem szCpu_any (c q : Int) (ap aq : Option Addr) (n m kp kq : Nat) (l : Int) (w : World) (h0 : 0 ≤ l) (h1 : l ≤ 1048576) (hn : n ≤ maxLen) (hm : m ≤ maxLen) (hq : q = if l < (n : Int) + m then -1 else l - ((n : Int) + m)) : Calls Try.prog 38 #[cpA c (.slice ap n kp) (.slice aq m kq), .int .i64 l] w fun e w' => e = .returned (.int .i64 q) ∧ Below w.heap.size w w' := by
  have HB : Hid (Below w.heap.size w (w.alloc (.cells #[.int .i64 c, .slice ap n kp, .slice aq m kq] 81))) := (Below.refl _ _).alloc (Nat.le_refl _) _
  have HZ1 : Hid _ := fun w' => szIS_any ap n kp l w' h0 h1 hn
  unfold cpA
  by_cases t1 : l < (n : Int)
  · rw [if_pos t1] at HZ1
    rw [if_pos (by omega)] at hq
    have HQ : Hid _ := hq
    clear hq h0 h1 hn hm
    go_enter Try.func38, Try.ntmps38
    go_wp2_with (go_at_call 62; refine Calls.mono (HZ1.out _) ?_; rintro e u1 ⟨rfl, hu1⟩; rw [hu1]; clear hu1)
    go_ret
    exact ⟨ret_int HQ.out.symm, HB.out⟩
  · rw [if_neg t1] at HZ1
    obtain ⟨l2, hl2⟩ : ∃ l2 : Int, l2 = l - n := ⟨_, rfl⟩
    rw [← hl2] at HZ1
    have g2 : ¬ l2 < 0 := by omega
    have HZ2 : Hid _ := fun w' => szIS_any aq m kq l2 w' (by omega) (by omega) hm
    by_cases t2 : l2 < (m : Int)
    · rw [if_pos t2] at HZ2
      rw [if_pos (by omega)] at hq
      have HQ : Hid _ := hq
      clear hq h0 h1 hn hm hl2
      go_enter Try.func38, Try.ntmps38
      go_wp2_with (first | (go_at_call 62; refine Calls.mono (HZ1.out _) ?_; rintro e u1 ⟨rfl, hu1⟩; rw [hu1]; clear hu1 HZ1) | (go_at_call 62; refine Calls.mono (HZ2.out _) ?_; rintro e u2 ⟨rfl, hu2⟩; rw [hu2]; clear hu2))
      go_ret
      exact ⟨ret_int HQ.out.symm, HB.out⟩
    · rw [if_neg t2] at HZ2
      obtain ⟨l3, hl3⟩ : ∃ l3 : Int, l3 = l2 - m := ⟨_, rfl⟩
      rw [← hl3] at HZ2
      have g3 : ¬ l3 < 0 := by omega
      rw [if_neg (by omega)] at hq
      have HQ : Hid (l3 = q) := (show l3 = q by omega)
      clear hq h0 h1 hn hm hl2 hl3
      go_enter Try.func38, Try.ntmps38
      go_wp2_with (first | (go_at_call 62; refine Calls.mono (HZ1.out _) ?_; rintro e u1 ⟨rfl, hu1⟩; rw [hu1]; clear hu1 HZ1) | (go_at_call 62; refine Calls.mono (HZ2.out _) ?_; rintro e u2 ⟨rfl, hu2⟩; rw [hu2]; clear hu2))
      go_ret
      exact ⟨ret_int HQ.out, HB.out⟩
/-- How many vectors there are. -/
def totC : List CP → Int
  | [] => 0
  | c :: cs => (c.ps.length : Int) + c.ss.length + totC cs
theorem totC_nn (cs : List CP) : 0 ≤ totC cs := by
  induction cs with
  | nil => exact Int.le_refl _
  | cons c cs ih => unfold totC; omega
theorem totC_el (cs : List CP) (k : Nat) (hk : k < cs.length) : (cs[k].ps.length : Int) + cs[k].ss.length ≤ totC cs := by
  induction cs generalizing k with
  | nil => simp at hk
  | cons c cs ih =>
    have := totC_nn cs
    cases k with
    | zero => show (c.ps.length : Int) + c.ss.length ≤ _; unfold totC; omega
    | succ k =>
      have hk2 : k < cs.length := by simpa using hk
      have h2 := ih k hk2
      show (cs[k].ps.length : Int) + cs[k].ss.length ≤ _
      unfold totC
      omega
theorem totC_drop (cs : List CP) (k : Nat) (hk : k < cs.length) : totC (cs.drop k) = (cs[k].ps.length : Int) + cs[k].ss.length + totC (cs.drop (k + 1)) := by
  rw [List.drop_eq_getElem_cons hk]
  rfl
set_option maxRecDepth 100000 in
set_option maxHeartbeats 4000000 in
theorem szCpuS_any {w : World} {v : Value} {qs : List CQ} {cs : List CP} (h : CQrow w v qs) (hp : CPin w qs cs) (l : Int) (h0 : 0 ≤ l) (h1 : l ≤ 1048576) (hm : cs.length ≤ maxLen) (hs : ∀ k (hk : k < cs.length), cs[k].ps.length ≤ maxLen ∧ cs[k].ss.length ≤ maxLen) (q : Int) (hq : q = if l < (cs.length : Int) + totC cs then -1 else l - ((cs.length : Int) + totC cs)) : Calls Try.prog 16 #[v, .int .i64 l] w fun e w' => e = .returned (.int .i64 q) ∧ Below w.heap.size w w' := by
  obtain ⟨ao, cap, rfl⟩ := h.sl
  have hlq := hp.len
  have HR : Hid (CQrow w (.slice ao cs.length cap) qs) := (show CQrow w (.slice ao cs.length cap) qs by rw [← hlq]; exact h)
  have HP : Hid (CPin w qs cs) := hp
  have HLQ : Hid (qs.length = cs.length) := hlq
  have HS : Hid (∀ k (hk : k < cs.length), cs[k].ps.length ≤ maxLen ∧ cs[k].ss.length ≤ maxLen) := hs
  rw [hlq]
  have hnn := totC_nn cs
  have hmx : maxLen ≤ 9223372036854775807 := by decide
  clear h hp hlq hs
  by_cases t1 : l < (cs.length : Int)
  · rw [if_pos (by omega)] at hq
    have HQ : Hid _ := hq
    have hw : IntKind.i64.wrap (l - (cs.length : Int)) = l - (cs.length : Int) := by rw [IntKind.wrap_i64]; omega
    have g1 : l - (cs.length : Int) < 0 := by omega
    clear hq hnn hm hmx h0 h1
    go_enter Try.func16, Try.ntmps16
    go_wp2
    go_ret
    exact ⟨ret_int HQ.out.symm, Below.refl _ _⟩
  · obtain ⟨l2, hl2⟩ : ∃ l2 : Int, l2 = l - cs.length := ⟨_, rfl⟩
    have hw : IntKind.i64.wrap (l - (cs.length : Int)) = l2 := by rw [IntKind.wrap_i64]; omega
    have g1 : ¬ l2 < 0 := by omega
    have HQ : Hid (q = if l2 < totC cs then -1 else l2 - totC cs) := (show q = if l2 < totC cs then -1 else l2 - totC cs by
      rw [hq]
      by_cases t : l2 < totC cs
      · rw [if_pos t, if_pos (by omega)]
      · rw [if_neg t, if_neg (by omega)]; omega)
    have hl2m : l2 ≤ 1048576 := by omega
    have hcl : cs.length ≤ 1048576 := by omega
    clear hq hl2
    go_enter Try.func16, Try.ntmps16
    go_wp2
    go_loopw [1, 5] (fun x i wr => ∃ (k : Nat) (y : Int), k ≤ cs.length ∧ i = .int .i64 k ∧ x = .int .i64 y ∧ 0 ≤ y ∧ y ≤ 1048576 ∧ (q = if y < totC (cs.drop k) then -1 else y - totC (cs.drop k)) ∧ Below w.heap.size w wr) (fun _ i _ => cs.length - (intOf i).toNat)
    case atStart => exact ⟨0, l2, Nat.zero_le _, rfl, rfl, by omega, by omega, by rw [List.drop_zero]; exact HQ.out, Below.refl _ _⟩
    case round =>
      obtain ⟨k, y, hk, rfl, rfl, y0, y1, hy, hb⟩ := hrel
      have HB : Hid _ := hb
      by_cases hlt : k < cs.length
      · have hltq : k < qs.length := by rw [HLQ.out]; exact hlt
        obtain ⟨g, o, cap2, hv, _, hg, hc⟩ := HR.out.resolve_left (fun h => by rw [h.1] at hltq; simp at hltq)
        injection hv with hv1 hv2 hv3
        subst hv1 hv3
        clear hv2
        obtain ⟨d0, d1, d2⟩ := hc.below hb hg k hltq
        obtain ⟨e0, e1, e2⟩ := HP.out.el k hltq hlt
        obtain ⟨m1, m2⟩ := HS.out k hlt
        rw [e0] at d0
        have hd := totC_drop cs k hlt
        have hnd := totC_nn (cs.drop (k + 1))
        clear e0
        generalize cs[k] = z at *
        generalize qs[k] = x at *
        obtain ⟨xl, xp, xs⟩ := x
        simp only at d1 d2 e1 e2
        obtain ⟨ap, kp, rfl⟩ := e1.sl
        obtain ⟨aq, kq, rfl⟩ := e2.sl
        have hk0 : (0 : Int) ≤ (k : Int) := by omega
        have hk1 : (k : Int) < (cs.length : Int) := by omega
        have HZ : Hid _ := szCpu_any z.lim _ ap aq z.ps.length z.ss.length kp kq y wr y0 y1 m1 m2 rfl
        unfold cpA at HZ
        clear hc hb e1 e2 m1 m2
        by_cases t : y < (z.ps.length : Int) + z.ss.length
        · rw [if_pos t] at HZ
          have HQ2 : Hid (q = -1) := (show q = -1 by rw [hy, if_pos (by omega)])
          clear hy hd hnd t
          go_wp2_with (go_at_call 38; refine Calls.mono HZ.out ?_; rintro e u1 ⟨rfl, hu1⟩; have HB1 : Hid (Below w.heap.size w u1) := HB.out.trans (hu1.mono HB.out.size); clear hu1)
          go_ret
          exact ⟨ret_int HQ2.out.symm, HB1.out⟩
        · rw [if_neg t] at HZ
          obtain ⟨y2, hy2⟩ : ∃ y2 : Int, y2 = y - ((z.ps.length : Int) + z.ss.length) := ⟨_, rfl⟩
          rw [← hy2] at HZ
          have g4 : ¬ y2 < 0 := by omega
          have HQ2 : Hid (q = if y2 < totC (cs.drop (k + 1)) then -1 else y2 - totC (cs.drop (k + 1))) := (show q = if y2 < totC (cs.drop (k + 1)) then -1 else y2 - totC (cs.drop (k + 1)) by
            by_cases t9 : y2 < totC (cs.drop (k + 1))
            · rw [if_pos t9, hy, if_pos (by omega)]
            · rw [if_neg t9, hy, if_neg (by omega)]; omega)
          have HY : Hid (0 ≤ y2 ∧ y2 ≤ 1048576) := (show 0 ≤ y2 ∧ y2 ≤ 1048576 by omega)
          clear hy hd hnd t hy2
          go_wp2_with (go_at_call 38; refine Calls.mono HZ.out ?_; rintro e u1 ⟨rfl, hu1⟩; have HB1 : Hid (Below w.heap.size w u1) := HB.out.trans (hu1.mono HB.out.size); clear hu1)
          go_roundw
          case rel => exact ⟨k + 1, y2, hlt, by go_num, rfl, HY.out.1, HY.out.2, HQ2.out, HB1.out⟩
          case measure => simp [intOf]; omega
      · obtain rfl : k = cs.length := by omega
        have HQ2 : Hid (q = y) := (show q = y by rw [hy, List.drop_length]; show (if y < 0 then (-1 : Int) else y - 0) = y; rw [if_neg (by omega)]; omega)
        clear hy
        go_wp2
        go_ret
        exact ⟨ret_int HQ2.out.symm, hb⟩
end Go.Proofs.Ytefeahilamiiaaa
