import Derived.Test.YtomfbiiegcmmlaaMq9
namespace Go.Proofs.Ytomfbiiegcmmlaa
open Go.ChangeShapes Go.WideShapes Go.ChangeAt Go.RowKit

set_option maxRecDepth 100000
def grp (ss : List SL) (N : Nat) : List SL := (ss.drop (N * 4)).take 4
theorem grp_len {ss : List SL} {N : Nat} (h : (N + 1) * 4 ≤ ss.length) : (grp ss N).length = 4 := by
  unfold grp
  rw [List.length_take, List.length_drop]
  omega
theorem grp_at {ss : List SL} {N : Nat} (h : (N + 1) * 4 ≤ ss.length) (k : Nat) (hk : k < (grp ss N).length) : (grp ss N)[k] = ss[N * 4 + k]'(by rw [grp_len h] at hk; omega) := by
  simp only [grp, List.getElem_take, List.getElem_drop]
theorem SLrow.sub {w : World} {g2 o2 n ks : Nat} {ss : List SL} (hs : SLrow w (.slice (some ⟨g2, o2, none⟩) n ks) ss) {N : Nat} (h : (N + 1) * 4 ≤ ss.length) : n = ss.length ∧ n ≤ ks ∧ SLrow w (.slice (some ⟨g2, o2 + N * 4 * 3, none⟩) 4 (ks - N * 4)) (grp ss N) := by
  obtain ⟨g3, o3, cap3, hv, hcap, hg, hc⟩ := hs.resolve_left (fun h2 => by rw [h2.1] at h; simp at h)
  injection hv with hv1 hv2 hv3
  injection hv1 with hv4
  injection hv4 with hv5 hv6
  subst hv5 hv6 hv3
  refine ⟨hv2, by omega, .inr ⟨g2, o2 + N * 4 * 3, ks - N * 4, by rw [grp_len h], by rw [grp_len h]; omega, hg, fun k hk => ?_⟩⟩
  have hk2 : N * 4 + k < ss.length := by rw [grp_len h] at hk; omega
  rw [grp_at h k hk]
  have := hc (N * 4 + k) hk2
  rw [show o2 + N * 4 * 3 + k * 3 = o2 + (N * 4 + k) * 3 by omega]
  exact this
/-- What is asked of the groups, one behind the other. -/
def hkB (h : MH) (ss : List SL) : Int → List Int → Bool
  | _, [] => true
  | A, x :: xs => decide (A < x) && (hgB ss.length x && (mbB h (grp ss x.toNat) && hkB h ss x xs))
set_option maxHeartbeats 8000000 in
theorem hugeRight_any {w : World} {B : Nat} {h : MH} {a : HA} (hQ : QH w B h a) (hlc : h.cs.length ≤ 1048576) {gg og : Nat} (hgl : gg < w.heap.size) {sv hv : Value} {ss : List SL} {hs : List Int} (c0 : w.cell? ⟨gg, og, none⟩ = some sv) (hsr : SLrow w sv ss) (hn : ss.length ≤ 32) (c2 : w.cell? ⟨gg, og + 2, none⟩ = some hv) (hh : Irow w hv hs) (hhl : hs.length ≤ 1048576) {lv : Value} (hI : Irow w lv (ldL h.cs 1 (allS h))) : Calls Try.prog 92 #[.pointer (some ⟨B, 0, none⟩), .pointer (some ⟨gg, og, none⟩), lv] w fun e w' => e = .returned (.bool (hkB h ss (-1) hs)) ∧ Below w.heap.size w w' := by
  obtain ⟨an, kn, rfl⟩ := hI.sl
  obtain ⟨as1, ks, rfl⟩ := hsr.sl
  obtain ⟨ah, kh, rfl⟩ := hh.sl
  have HHG : Hid (∀ u x, Below w.heap.size w u → Calls Try.prog 115 #[.pointer (some ⟨gg, og, none⟩), .int .i64 x] u fun e w' => e = .returned (.bool (hgB ss.length x)) ∧ Below u.heap.size u w') := fun u x hu => hasGroup_any (((bcell hu).1 gg og hgl).trans c0) hn x
  have HMB : Hid (∀ u (g2 o2 k2 : Nat) (zs : List SL), Below w.heap.size w u → SLrow u (.slice (some ⟨g2, o2, none⟩) 4 k2) zs → zs.length = 4 → Calls Try.prog 116 #[.pointer (some ⟨B, 0, none⟩), .slice (some ⟨g2, o2, none⟩) 4 k2, .slice an (ldL h.cs 1 (allS h)).length kn] u fun e w' => e = .returned (.bool (mbB h zs)) ∧ Below u.heap.size u w') := fun u g2 o2 k2 zs hu h1 h2 => mayBeHuge_any (hQ.below hu) hlc h1 h2 (hI.below hu)
  have HSR : Hid (SLrow w (.slice as1 ss.length ks) ss) := hsr
  have HC0 : Hid (w.cell? ⟨gg, og, none⟩ = some (.slice as1 ss.length ks)) := c0
  have HHR : Hid (Irow w (.slice ah hs.length kh) hs) := hh
  obtain ⟨G, hG⟩ : ∃ G, hkB h ss (-1) hs = G := ⟨_, rfl⟩
  rw [hG]
  have HG : Hid (hkB h ss (-1) (hs.drop 0) = G) := hG
  clear hQ hI hsr hh hG c0
  go_enter Try.func92, Try.ntmps92
  go_wp2
  go_loopw [7, 15] (fun x i wr => ∃ (k : Nat) (A : Int), k ≤ hs.length ∧ i = .int .i64 k ∧ x = .int .i64 A ∧ hkB h ss A (hs.drop k) = G ∧ Below w.heap.size w wr) (fun _ i _ => hs.length - (intOf i).toNat)
  case atStart => exact ⟨0, -1, Nat.zero_le _, rfl, rfl, HG.out, Below.refl _ _⟩
  case round =>
    obtain ⟨k, A, hk, rfl, rfl, hG, hb⟩ := hrel
    have HB : Hid (Below w.heap.size w wr) := hb
    by_cases hlt : k < hs.length
    · obtain ⟨g, o, cap2, hv, _, hg, hc⟩ := HHR.out.resolve_left (fun h => by rw [h.1] at hlt; simp at hlt)
      injection hv with hv1 hv2 hv3
      subst hv1 hv3
      have d0 := hc.below hb hg k hlt
      rw [List.drop_eq_getElem_cons hlt] at hG
      have hG2 : (decide (A < hs[k]) && (hgB ss.length hs[k] && (mbB h (grp ss hs[k].toNat) && hkB h ss hs[k] (hs.drop (k + 1))))) = G := hG
      generalize hs[k] = x at *
      have hk0 : (0 : Int) ≤ (k : Int) := by omega
      have hk1 : (k : Int) < (hs.length : Int) := by omega
      have hgw : g < wr.heap.size := Nat.lt_of_lt_of_le hg hb.size
      clear hc hv2 hb hG
      by_cases hA : A < x
      case neg =>
        rw [decide_eq_false hA, Bool.false_and] at hG2
        subst hG2
        have hAl : x ≤ A := by omega
        go_wp2
        go_ret
        exact ⟨rfl, HB.out⟩
      rw [decide_eq_true hA, Bool.true_and] at hG2
      have hAl : ¬ x ≤ A := by omega
      cases hgr : hgB ss.length x with
      | false =>
        rw [hgr, Bool.false_and] at hG2
        subst hG2
        have HH : Hid _ := HHG.out _ x HB.out
        rw [hgr] at HH
        clear hgr
        go_wp2_with (go_at_call 115; refine Calls.mono HH.out ?_; rintro e v1 ⟨rfl, hu⟩; have HV1 : Hid (Below w.heap.size w v1) := HB.out.trans (hu.mono HB.out.size); clear hu)
        go_ret
        exact ⟨rfl, HV1.out⟩
      | true =>
        rw [hgr, Bool.true_and] at hG2
        have HH : Hid _ := HHG.out _ x HB.out
        rw [hgr] at HH
        have hgg := of_decide_eq_true hgr
        obtain ⟨M, rfl⟩ : ∃ M : Nat, x = (M : Int) := ⟨x.toNat, by omega⟩
        rw [Int.toNat_natCast] at hG2
        have hM : (M + 1) * 4 ≤ ss.length := by omega
        obtain ⟨g2, o2, cap4, hv4, _, _, _⟩ := HSR.out.resolve_left (fun h2 => by rw [h2.1] at hM; simp at hM)
        injection hv4 with hw1 hw2 hw3
        subst hw1 hw3
        obtain ⟨_, hks, hsub⟩ := HSR.out.sub hM
        have HSUB : Hid (SLrow w (.slice (some ⟨g2, o2 + M * 4 * 3, none⟩) 4 (ks - M * 4)) (grp ss M)) := hsub
        have HGR : Hid (∀ u, Below w.heap.size w u → Calls Try.prog 117 #[.pointer (some ⟨gg, og, none⟩), .int .i64 (M : Nat)] u fun e w' => e = .returned (.slice (some ⟨g2, o2 + M * 4 * 3, none⟩) 4 (ks - M * 4)) ∧ w' = u) := fun u hu => group_any (((bcell hu).1 gg og hgl).trans HC0.out) hn hks M hM
        have HMM : Hid (∀ u, Below w.heap.size w u → Calls Try.prog 116 #[.pointer (some ⟨B, 0, none⟩), .slice (some ⟨g2, o2 + M * 4 * 3, none⟩) 4 (ks - M * 4), .slice an (ldL h.cs 1 (allS h)).length kn] u fun e w' => e = .returned (.bool (mbB h (grp ss M))) ∧ Below u.heap.size u w') := fun u hu => HMB.out u _ _ _ _ hu (HSUB.out.below hu) (grp_len hM)
        clear hgr hsub hw2
        generalize mbB h (grp ss M) = mb at *
        have HG2 : Hid _ := hG2
        clear hG2
        cases mb with
        | false =>
          have hg0 : G = false := HG2.out.symm
          subst hg0
          go_wp2_with (first | (go_at_call 115; refine Calls.mono HH.out ?_; rintro e v1 ⟨rfl, hu⟩; have HV1 : Hid (Below w.heap.size w v1) := HB.out.trans (hu.mono HB.out.size); clear hu) | (go_at_call 117; refine Calls.mono (HGR.out _ HV1.out) ?_; rintro e uu ⟨rfl, hu⟩; rw [hu]; clear hu) | (go_at_call 116; refine Calls.mono (HMM.out _ HV1.out) ?_; rintro e v2 ⟨rfl, hu⟩; have HV2 : Hid (Below w.heap.size w v2) := HV1.out.trans (hu.mono HV1.out.size); clear hu))
          go_ret
          exact ⟨rfl, HV2.out⟩
        | true =>
          rw [Bool.true_and] at HG2
          go_wp2_with (first | (go_at_call 115; refine Calls.mono HH.out ?_; rintro e v1 ⟨rfl, hu⟩; have HV1 : Hid (Below w.heap.size w v1) := HB.out.trans (hu.mono HB.out.size); clear hu) | (go_at_call 117; refine Calls.mono (HGR.out _ HV1.out) ?_; rintro e uu ⟨rfl, hu⟩; rw [hu]; clear hu) | (go_at_call 116; refine Calls.mono (HMM.out _ HV1.out) ?_; rintro e v2 ⟨rfl, hu⟩; have HV2 : Hid (Below w.heap.size w v2) := HV1.out.trans (hu.mono HV1.out.size); clear hu))
          exact ⟨⟨k + 1, _, hlt, by simp, rfl, HG2.out, HV2.out⟩, by simp [intOf]; omega⟩
    · obtain rfl : k = hs.length := by omega
      rw [List.drop_length] at hG
      have hg : G = true := hG.symm
      subst hg
      go_wp2
      go_ret
      exact ⟨rfl, HB.out⟩
end Go.Proofs.Ytomfbiiegcmmlaa
