import Derived.Test.YtomfbiiegcmmlaaIg2
namespace Go.Proofs.Ytomfbiiegcmmlaa
open Go.ChangeShapes Go.WideShapes Go.ChangeAt Go.RowKit

set_option maxRecDepth 100000
/-- How much images hold. -/
def totL : List IM → Int
  | [] => 0
  | c :: cs => totI c + totL cs
theorem totL_nn (cs : List IM) : 0 ≤ totL cs := by
  induction cs with
  | nil => exact Int.le_refl _
  | cons c cs ih => have := totI_nn c; unfold totL; omega
theorem totL_el (cs : List IM) (k : Nat) (hk : k < cs.length) : totI cs[k] ≤ totL cs := by
  induction cs generalizing k with
  | nil => simp at hk
  | cons c cs ih =>
    have := totL_nn cs
    have := totI_nn c
    cases k with
    | zero => show totI c ≤ _; unfold totL; omega
    | succ k =>
      have hk2 : k < cs.length := by simpa using hk
      have h2 := ih k hk2
      show totI cs[k] ≤ _
      unfold totL
      omega
theorem totL_drop (cs : List IM) (k : Nat) (hk : k < cs.length) : totL (cs.drop k) = totI cs[k] + totL (cs.drop (k + 1)) := by
  rw [List.drop_eq_getElem_cons hk]
  rfl
set_option maxRecDepth 100000 in
set_option maxHeartbeats 4000000 in
theorem szImageS_any {w : World} {v : Value} {qs : List IG} {cs : List IM} (h : IGrow w v qs) (hp : IGin w qs cs) (l : Int) (h0 : 0 ≤ l) (h1 : l ≤ 1048576) (hm : cs.length ≤ maxLen) (hs : ∀ k (hk : k < cs.length), IMax cs[k]) (q : Int) (hq : q = if l < (cs.length : Int) + totL cs then -1 else l - ((cs.length : Int) + totL cs)) : Calls Try.prog 6 #[v, .int .i64 l] w fun e w' => e = .returned (.int .i64 q) ∧ Below w.heap.size w w' := by
  obtain ⟨ao, cap, rfl⟩ := h.sl
  have hlq := hp.len
  have HR : Hid (IGrow w (.slice ao cs.length cap) qs) := (show IGrow w (.slice ao cs.length cap) qs by rw [← hlq]; exact h)
  have HP : Hid (IGin w qs cs) := hp
  have HLQ : Hid (qs.length = cs.length) := hlq
  have HS : Hid (∀ k (hk : k < cs.length), IMax cs[k]) := hs
  rw [hlq]
  have hnn := totL_nn cs
  have hmx : maxLen ≤ 9223372036854775807 := by decide
  clear h hp hlq hs
  by_cases t1 : l < (cs.length : Int)
  · rw [if_pos (by omega)] at hq
    have HQ : Hid _ := hq
    have hw : IntKind.i64.wrap (l - (cs.length : Int)) = l - (cs.length : Int) := by rw [IntKind.wrap_i64]; omega
    have g1 : l - (cs.length : Int) < 0 := by omega
    clear hq hnn hm hmx h0 h1
    go_enter Try.func6, Try.ntmps6
    go_wp2
    go_ret
    exact ⟨ret_int HQ.out.symm, Below.refl _ _⟩
  · obtain ⟨l2, hl2⟩ : ∃ l2 : Int, l2 = l - cs.length := ⟨_, rfl⟩
    have hw : IntKind.i64.wrap (l - (cs.length : Int)) = l2 := by rw [IntKind.wrap_i64]; omega
    have g1 : ¬ l2 < 0 := by omega
    have HQ : Hid (q = if l2 < totL cs then -1 else l2 - totL cs) := (show q = if l2 < totL cs then -1 else l2 - totL cs by
      rw [hq]
      by_cases t : l2 < totL cs
      · rw [if_pos t, if_pos (by omega)]
      · rw [if_neg t, if_neg (by omega)]; omega)
    have hl2m : l2 ≤ 1048576 := by omega
    have hcl : cs.length ≤ 1048576 := by omega
    clear hq hl2
    go_enter Try.func6, Try.ntmps6
    go_wp2
    go_loopw [1, 5] (fun x i wr => ∃ (k : Nat) (y : Int), k ≤ cs.length ∧ i = .int .i64 k ∧ x = .int .i64 y ∧ 0 ≤ y ∧ y ≤ 1048576 ∧ (q = if y < totL (cs.drop k) then -1 else y - totL (cs.drop k)) ∧ Below w.heap.size w wr) (fun _ i _ => cs.length - (intOf i).toNat)
    case atStart => exact ⟨0, l2, Nat.zero_le _, rfl, rfl, by omega, by omega, by rw [List.drop_zero]; exact HQ.out, Below.refl _ _⟩
    case round =>
      obtain ⟨k, y, hk, rfl, rfl, y0, y1, hy, hb⟩ := hrel
      have HB : Hid _ := hb
      by_cases hlt : k < cs.length
      · have hltq : k < qs.length := by rw [HLQ.out]; exact hlt
        obtain ⟨g, o, cap2, hv, _, hg, hc⟩ := HR.out.resolve_left (fun h => by rw [h.1] at hltq; simp at hltq)
        injection hv with hv1 hv2 hv3
        subst hv1 hv3
        clear hv2
        obtain ⟨d0, d1, d2, d3, d4⟩ := hc.below hb hg k hltq
        obtain ⟨e0, e1, eq, e2⟩ := HP.out.el k hltq hlt
        have m2 := HS.out k hlt
        rw [e0] at d0
        rw [e1] at d1
        have hnz := totI_nn cs[k]
        have hd := totL_drop cs k hlt
        have hnd := totL_nn (cs.drop (k + 1))
        clear e0 e1
        generalize cs[k] = z at *
        generalize qs[k] = x at *
        obtain ⟨xn, xb, xt, xd, xs⟩ := x
        simp only at d2 d3 d4 e2
        obtain ⟨a1, k1, h1⟩ := e2.t.sl
        obtain ⟨a2, k2, h2⟩ := e2.d.sl
        obtain ⟨a3, k3, h3⟩ := e2.sn.sl
        simp only at h1 h2 h3
        subst h1 h2 h3
        have hk0 : (0 : Int) ≤ (k : Int) := by omega
        have hk1 : (k : Int) < (cs.length : Int) := by omega
        have HZ : Hid _ := szImage_any (e2.below hb) m2 y y0 y1 _ rfl
        unfold imA at HZ
        simp only at HZ
        clear hc hb e2 m2
        by_cases t : y < totI z
        · rw [if_pos t] at HZ
          have HQ2 : Hid (q = -1) := (show q = -1 by rw [hy, if_pos (by omega)])
          clear hy hd hnd t hnz
          go_wp2_with (go_at_call 19; refine Calls.mono HZ.out ?_; rintro e u1 ⟨rfl, hu1⟩; have HB1 : Hid (Below w.heap.size w u1) := HB.out.trans (hu1.mono HB.out.size); clear hu1)
          go_ret
          exact ⟨ret_int HQ2.out.symm, HB1.out⟩
        · rw [if_neg t] at HZ
          obtain ⟨y2, hy2⟩ : ∃ y2 : Int, y2 = y - (totI z) := ⟨_, rfl⟩
          rw [← hy2] at HZ
          have g4 : ¬ y2 < 0 := by omega
          have HQ2 : Hid (q = if y2 < totL (cs.drop (k + 1)) then -1 else y2 - totL (cs.drop (k + 1))) := (show q = if y2 < totL (cs.drop (k + 1)) then -1 else y2 - totL (cs.drop (k + 1)) by
            by_cases t9 : y2 < totL (cs.drop (k + 1))
            · rw [if_pos t9, hy, if_pos (by omega)]
            · rw [if_neg t9, hy, if_neg (by omega)]; omega)
          have HY : Hid (0 ≤ y2 ∧ y2 ≤ 1048576) := (show 0 ≤ y2 ∧ y2 ≤ 1048576 by omega)
          clear hy hd hnd t hy2 hnz
          go_wp2_with (go_at_call 19; refine Calls.mono HZ.out ?_; rintro e u1 ⟨rfl, hu1⟩; have HB1 : Hid (Below w.heap.size w u1) := HB.out.trans (hu1.mono HB.out.size); clear hu1)
          go_roundw
          case rel => exact ⟨k + 1, y2, hlt, by go_num, rfl, HY.out.1, HY.out.2, HQ2.out, HB1.out⟩
          case measure => simp [intOf]; omega
      · obtain rfl : k = cs.length := by omega
        have HQ2 : Hid (q = y) := (show q = y by rw [hy, List.drop_length]; show (if y < 0 then (-1 : Int) else y - 0) = y; rw [if_neg (by omega)]; omega)
        clear hy
        go_wp2
        go_ret
        exact ⟨ret_int HQ2.out.symm, hb⟩
end Go.Proofs.Ytomfbiiegcmmlaa
