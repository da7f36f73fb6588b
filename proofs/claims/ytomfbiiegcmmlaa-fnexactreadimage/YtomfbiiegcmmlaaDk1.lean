import Derived.Test.YtomfbiiegcmmlaaDk0
import Derived.Test.YtomfbiiegcmmlaaJn
import Derived.Laws.Concat
namespace Go.Proofs.Ytomfbiiegcmmlaa
open Go.ChangeShapes Go.WideShapes Go.ChangeAt Go.RowKit

set_option maxRecDepth 100000
/-- What a cluster reads as, along a way. -/
def clP (ms : List IM) (n : Nat) : List Nat → ByteArray
  | [] => z16
  | c :: cs => if n < (gI ms c).t.length then
      (if 0 ≤ (gI ms c).t.getD n 0 then (gI ms c).d.getD ((gI ms c).t.getD n 0).toNat z16 else if (gI ms c).t.getD n 0 = -2 then z16 else clP ms n cs)
    else z16
theorem z16_size : z16.size = 16 := by simp [z16, zerL, ByteArray.size]
theorem clP_size {ms : List IM} (h : RL ms) (n : Nat) : ∀ (cs : List Nat), (∀ c ∈ cs, c < ms.length) → (clP ms n cs).size = 16 := by
  intro cs
  induction cs with
  | nil => intro _; exact z16_size
  | cons c cs ih =>
    intro hc
    have hcl := hc c (by simp)
    unfold clP
    rw [gI_at ms c hcl]
    split
    · rename_i hn
      split
      · rename_i h0
        have hr := h.im c hcl
        have ht := of_decide_eq_true (hr.tb 0 (by omega))
        have hen := of_decide_eq_true (ht.2 n hn)
        have e1 : ms[c].t.getD n 0 = (tlV ms[c] 0)[n]'hn := by
          show ms[c].t.getD n 0 = ms[c].t[n]
          simp [List.getD_eq_getElem?_getD, List.getElem?_eq_getElem hn]
        rw [← e1] at hen
        have hl : (ms[c].t.getD n 0).toNat < ms[c].d.length := by omega
        rw [List.getD_eq_getElem?_getD, List.getElem?_eq_getElem hl, Option.getD_some]
        exact hr.dz _ hl
      · split
        · exact z16_size
        · exact ih (fun x hx => hc x (by simp [hx]))
    · exact z16_size
theorem mkBytes16 (w : World) : (Instr.makeSlice 118 (.int .i64 16) (.int .i64 16)).run Try.prog w = .ok (.slice (some ⟨w.heap.size, 0, none⟩) 16 16) (w.alloc (.cells (cells8 (zerL 16)).toArray 5)) := by
  obtain ⟨i0, hi, hz0, hz1, hz2⟩ := info_parts Try.info5
  have hr := run_makeSlice (P := Try.prog) w 118 5 i0 (.int .u8 0) Try.underlying118 hi hz0 .i64 .i64 16 16 (by omega) (by omega) (by rw [hz1]; omega) (by rw [hz2]; omega) (by omega)
  rw [hr, hz1]
  have e : madeCells (Value.int .u8 0).cells (Int.toNat 16 * 1) = (cells8 (zerL 16)).toArray := by
    refine Array.toList_inj.1 ((toList_madeCells_one _ _).trans ?_)
    simp [cells8, zerL]
  rw [e]
  rfl
theorem own16 (w : World) : (w.alloc (.cells (cells8 (zerL 16)).toArray 5)).ownsRow w.heap.size 5 1 (.slice (some ⟨w.heap.size, 0, none⟩) 16 16) 16 (cells8 (zerL 16)) :=
  ⟨rfl, .inr ⟨w.heap.size, 16, _, rfl, Nat.le_refl _, heap_new _ _, Nat.le_refl _, by unfold maxLen; omega, rfl, rfl⟩⟩
set_option maxHeartbeats 4000000 in
theorem l13Cluster_any {w : World} {v : Value} {gs : List IG} {ms : List IM} (h : IGrow w v gs) (hi : IGin w gs ms) (hr : RL ms) (c0 : Nat) (hc0 : c0 < ms.length) (n : Nat) (hn : n ≤ 1000) : Calls Try.prog 43 #[v, .int .i64 c0, .int .i64 n] w fun e w' => e = .returned (.string (clP ms n (pth ms c0))) ∧ Below w.heap.size w w' := by
  obtain ⟨ao, cap, rfl⟩ := h.sl
  have hlq := hi.len
  have HR : Hid (IGrow w (.slice ao ms.length cap) gs) := (show IGrow w (.slice ao ms.length cap) gs by rw [← hlq]; exact h)
  have HC : Hid (IGin w gs ms) := hi
  have HLQ : Hid (gs.length = ms.length) := hlq
  have HRL : Hid (RL ms) := hr
  have hmk := mkBytes16 w
  have HCV : Hid _ := conv_own (w.alloc (.cells (cells8 (zerL 16)).toArray 5)) w.heap.size (.slice (some ⟨w.heap.size, 0, none⟩) 16 16) 16 (zerL 16) (own16 w)
  have HBV : Hid (Below w.heap.size w (w.alloc (.cells (cells8 (zerL 16)).toArray 5))) := (Below.refl _ _).alloc (Nat.le_refl _) _
  have hce := hr.ce c0 hc0
  have hl : ms.length ≤ 1048576 := by have := hr.len; omega
  rw [hlq]
  clear h hi hlq hr
  obtain ⟨R, hR⟩ : ∃ R, clP ms n (pth ms c0) = R := ⟨_, rfl⟩
  rw [hR]
  have HRR : Hid (clP ms n (pth ms c0) = R) := hR
  clear hR
  have hcv := HCV.out
  rw [show (⟨(zerL 16).toArray⟩ : ByteArray) = z16 from rfl] at hcv
  go_enter Try.func43, Try.ntmps43
  go_wp2
  clear hmk hcv HCV
  generalize (w.alloc (.cells (cells8 (zerL 16)).toArray 5)) = V at *
  go_loopw [1] (fun i wr => ∃ c : Nat, c < ms.length ∧ i = .int .i64 c ∧ ceI ms 14 c = true ∧ clP ms n (pth ms c) = R ∧ wr = V) (fun i _ => (pth ms (intOf i).toNat).length)
  case atStart => exact ⟨c0, hc0, rfl, hce, HRR.out, rfl⟩
  case round =>
    obtain ⟨c, hc, rfl, hce, hR, rfl⟩ := hrel
    have hcq : c < gs.length := by rw [HLQ.out]; exact hc
    obtain ⟨g, o, cap2, hv, _, hg, hcc⟩ := HR.out.resolve_left (fun h => by rw [h.1] at hcq; simp at hcq)
    injection hv with hv1 hv2 hv3
    subst hv1 hv3
    obtain ⟨e0, e1, q, e2⟩ := HC.out.el c hcq hc
    obtain ⟨d0, d1, d2, d3, d4⟩ := hcc.below HBV.out hg c hcq
    rw [e1, ← bkO_at ms c hc] at d1
    have e3 := e2.below HBV.out
    obtain ⟨p1, r1, s1⟩ := e2.t.sl
    obtain ⟨p2, r2, s2⟩ := e2.d.sl
    simp only at s1 s2
    have HT : Hid (Irow wr (.slice p1 ms[c].t.length r1) ms[c].t) := (show Irow wr (.slice p1 ms[c].t.length r1) ms[c].t by rw [← s1]; exact e3.t)
    have HD : Hid (Srow wr (.slice p2 ms[c].d.length r2) ms[c].d) := (show Srow wr (.slice p2 ms[c].d.length r2) ms[c].d by rw [← s2]; exact e3.d)
    rw [s1] at d2
    rw [s2] at d3
    have hir := HRL.out.im c hc
    have HG : Hid (gI ms c = ms[c]) := gI_at ms c hc
    have hc0 : (0 : Int) ≤ (c : Int) := by omega
    have hc1 : (c : Int) < (ms.length : Int) := by omega
    have hn0 : (0 : Int) ≤ (n : Int) := by omega
    clear hcc e0 e1 e2 e3 s1 s2 hv2 d0 d4
    have hcons : ∃ cs, pth ms c = c :: cs := ⟨_, rfl⟩
    obtain ⟨cs, hcs⟩ := hcons
    have HCS : Hid (pth ms c = c :: cs) := hcs
    rw [hcs] at hR
    unfold clP at hR
    rw [HG.out] at hR
    clear hcs
    by_cases hnl : n < ms[c].t.length
    · rw [if_pos hnl] at hR
      have hni : (n : Int) < (ms[c].t.length : Int) := by omega
      obtain ⟨g3, o3, cap3, hv, _, hg3, hc3⟩ := HT.out.resolve_left (fun h => by rw [h.1] at hnl; simp at hnl)
      injection hv with hv1 hv2 hv3
      subst hv1 hv3
      have d5 := hc3 n hnl
      have hte : ms[c].t.getD n 0 = ms[c].t[n] := by simp [List.getD_eq_getElem?_getD, List.getElem?_eq_getElem hnl]
      rw [hte] at hR
      have hen := of_decide_eq_true ((of_decide_eq_true (hir.tb 0 (by omega))).2 n hnl)
      have hen2 : -2 ≤ ms[c].t[n] ∧ ms[c].t[n] < (ms[c].d.length : Int) := hen
      clear hen hc3 hv2 hte hir
      generalize ms[c].t[n] = e at *
      by_cases he : 0 ≤ e
      · rw [if_pos he] at hR
        obtain ⟨j, hj⟩ : ∃ j : Nat, e = j := ⟨e.toNat, by omega⟩
        subst hj
        have hjl : j < ms[c].d.length := by omega
        rw [Int.toNat_natCast, List.getD_eq_getElem?_getD, List.getElem?_eq_getElem hjl, Option.getD_some] at hR
        obtain ⟨g4, o4, cap4, hv, _, hg4, hc4⟩ := HD.out.resolve_left (fun h => by rw [h.1] at hjl; simp at hjl)
        injection hv with hv1 hv2 hv3
        subst hv1 hv3
        have d6 := hc4 j hjl
        rw [hR] at d6
        have hj1 : (j : Int) < (ms[c].d.length : Int) := by omega
        clear hc4 hv2 hR
        go_wp2
        go_ret
        exact ⟨rfl, HBV.out⟩
      · rw [if_neg he] at hR
        by_cases hz : e = -2
        · rw [if_pos hz] at hR
          subst hz
          subst hR
          go_wp2
          go_ret
          exact ⟨rfl, HBV.out⟩
        · rw [if_neg hz] at hR
          have hzi : (e == -2) = false := by simpa using hz
          by_cases hb : (bkO ms c).size = 0
          · have hce2 := HCS.out
            rw [pth_end hb] at hce2
            injection hce2 with _ hce3
            subst hce3
            have hR2 : z16 = R := hR
            subst hR2
            have hbe := ba_empty hb
            rw [hbe] at d1
            clear hb hbe
            go_wp2
            go_ret
            exact ⟨rfl, HBV.out⟩
          · obtain ⟨hie, hne⟩ := ba_ne hb
            obtain ⟨k, hq, hk, hcek, hpk⟩ := pth_next hce hb
            have hfi : fdI ms (bkO ms c) = k := by unfold fdI; rw [hq]
            have HFD : Hid _ := l13Find_any (HR.out.below HBV.out) (HC.out.below HBV.out) hl (bkO ms c)
            rw [hfi] at HFD
            have HR2 : Hid (clP ms n (pth ms k) = R) := (show _ = _ by
              have := HCS.out
              rw [hpk] at this
              injection this with _ h2
              rw [h2]
              exact hR)
            have HLN : Hid ((pth ms k).length < (pth ms c).length) := (show _ < _ by rw [hpk]; simp)
            clear hR hq hfi hpk hb
            go_wp2_with (go_at_call 21; refine Calls.mono HFD.out ?_; rintro e u2 ⟨rfl, hu⟩; rw [hu]; clear hu)
            exact ⟨⟨k, hk, rfl, hcek, HR2.out, trivial⟩, by simpa [intOf] using HLN.out⟩
    · rw [if_neg hnl] at hR
      subst hR
      have hni : ¬ (n : Int) < (ms[c].t.length : Int) := by omega
      go_wp2
      go_ret
      exact ⟨rfl, HBV.out⟩
end Go.Proofs.Ytomfbiiegcmmlaa
