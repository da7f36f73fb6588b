import Derived.Test.YtpggbbdfbnocfaaHO1
import Derived.Test.YtpggbbdfbnocfaaHl
namespace Go.Proofs.Ytpggbbdfbnocfaa
open Go.ChangeShapes Go.WideShapes Go.ChangeAt Go.RowKit

set_option maxRecDepth 100000 in
set_option maxHeartbeats 4000000 in
theorem eqHO_ok {w : World} {p : HO} {v u : Value} (h1 : Irow w v p.gs) (h2 : Irow w u p.gs) (lp : p.gs.length ≤ 1048576) : Calls Try.prog 54 #[hoA p v, hoA p u] w fun e w' => e = .returned (.bool true) ∧ Below w.heap.size w w' := by
  obtain ⟨a1, k1, rfl⟩ := h1.sl
  obtain ⟨a2, k2, rfl⟩ := h2.sl
  have H1 : Hid (Irow w (.slice a1 p.gs.length k1) p.gs) := h1
  have H2 : Hid (Irow w (.slice a2 p.gs.length k2) p.gs) := h2
  have HE0 : Hid (E2 w ((w.alloc (.cells #[.int .i64 p.addr, .slice a1 p.gs.length k1] 86)).alloc (.cells #[.int .i64 p.addr, .slice a2 p.gs.length k2] 86)) 86 #[.int .i64 p.addr, .slice a1 p.gs.length k1] #[.int .i64 p.addr, .slice a2 p.gs.length k2]) := E2.new _ _ _ _
  clear h1 h2
  have n0 : (p.addr != p.addr) = false := by simp
  unfold hoA hoC
  go_enter Try.func54, Try.ntmps54
  go_wp2_with fail
  generalize ((w.alloc (.cells #[.int .i64 p.addr, .slice a1 p.gs.length k1] 86)).alloc (.cells #[.int .i64 p.addr, .slice a2 p.gs.length k2] 86)) = u0 at *
  refine Calls.mono (eqIS_ok (H1.out.below HE0.out.bel) (H2.out.below HE0.out.bel) lp) ?_
  rintro e u1 ⟨rfl, hb1⟩
  have HE1 : Hid (E2 w u1 86 #[.int .i64 p.addr, .slice a1 p.gs.length k1] #[.int .i64 p.addr, .slice a2 p.gs.length k2]) := HE0.out.step hb1
  clear hb1 HE0
  have lt := HE1.out.lt
  have lt0 : w.heap.size < u1.heap.size := by omega
  go_wp2
  go_ret
  exact ⟨rfl, HE1.out.bel⟩
set_option maxRecDepth 100000 in
set_option maxHeartbeats 4000000 in
theorem eqHOS_ok {w : World} {v u : Value} {qs qs2 : List NH} {cs : List HO} (h : NHrow w v qs) (hp : HOin w qs cs) (h' : NHrow w u qs2) (hp' : HOin w qs2 cs) (hl : cs.length ≤ 1048576) (lp : ∀ k (hk : k < cs.length), cs[k].gs.length ≤ 1048576) :
    Calls Try.prog 32 #[v, u] w fun e w' => e = .returned (.bool true) ∧ Below w.heap.size w w' := by
  have hq := hp.len
  have hq' := hp'.len
  by_cases hz : cs.length = 0
  · obtain ⟨a1, c1, rfl⟩ := h.sl
    obtain ⟨a2, c2, rfl⟩ := h'.sl
    have e1 : qs.length = 0 := by omega
    have e2 : qs2.length = 0 := by omega
    clear h h' hl hp hp' lp hq hq'
    rw [e1, e2]
    go_enter Try.func32, Try.ntmps32
    go_wp2
    go_loopw [5] (fun i w5 => i = .int .i64 0 ∧ w5 = w) (fun _ _ => 0)
    case atStart => exact ⟨rfl, rfl⟩
    case round =>
      obtain ⟨rfl, rfl⟩ := hrel
      go_wp2
      go_ret
      exact ⟨rfl, Below.refl _ _⟩
  · obtain ⟨g, o, cap, rfl, _, hg, hc⟩ := h.resolve_left (fun h => by rw [h.1] at hq; simp at hq; omega)
    obtain ⟨g', o', cap', rfl, _, hg', hc'⟩ := h'.resolve_left (fun h => by rw [h.1] at hq'; simp at hq'; omega)
    have HP : Hid (HOin w qs cs) := hp
    have HP' : Hid (HOin w qs2 cs) := hp'
    have HLP : Hid (∀ k (hk : k < cs.length), cs[k].gs.length ≤ 1048576) := lp
    have HQ : Hid (qs.length = cs.length) := hq
    have HQ' : Hid (qs2.length = cs.length) := hq'
    have HC : Hid (NHat w g o qs) := hc
    have HC' : Hid (NHat w g' o' qs2) := hc'
    rw [hq, hq']
    clear h h' hz hp hp' lp hq hq' hc hc'
    go_enter Try.func32, Try.ntmps32
    go_wp2
    go_loopw [5] (fun i w5 => ∃ k : Nat, k ≤ cs.length ∧ i = .int .i64 k ∧ Below w.heap.size w w5) (fun i _ => cs.length - (intOf i).toNat)
    case atStart => exact ⟨0, Nat.zero_le _, rfl, Below.refl _ _⟩
    case round =>
      obtain ⟨k, hk, rfl, hb⟩ := hrel
      by_cases hlt : k < cs.length
      · have hkq : k < qs.length := by rw [HQ.out]; exact hlt
        have hkq' : k < qs2.length := by rw [HQ'.out]; exact hlt
        have HD : Hid (∀ u, Below w.heap.size w u → _) := fun u (hu : Below w.heap.size w u) => HC.out.below hu hg k hkq
        have HD' : Hid (∀ u, Below w.heap.size w u → _) := fun u (hu : Below w.heap.size w u) => HC'.out.below hu hg' k hkq'
        obtain ⟨p0, p1⟩ := HP.out.el k hkq hlt
        obtain ⟨q0, q1⟩ := HP'.out.el k hkq' hlt
        have lp := HLP.out k hlt
        rw [p0] at HD
        rw [q0] at HD'
        unfold hoQ at HD HD'
        simp only at HD HD'
        clear p0 q0
        generalize cs[k] = p at *
        generalize qs[k].groups = y at *
        generalize qs2[k].groups = x at *
        obtain ⟨a1, k1, rfl⟩ := p1.sl
        obtain ⟨a2, k2, rfl⟩ := q1.sl
        have HE : Hid (∀ (w' : World) (hw : Below w.heap.size w w'), _) := fun (w' : World) (hw : Below w.heap.size w w') => eqHO_ok (p := p) (p1.below hw) (q1.below hw) lp
        unfold hoA hoC at HE
        clear p1 q1 lp
        have hk0 : (0 : Int) ≤ (k : Int) := by omega
        have hk1 : (k : Int) < (cs.length : Int) := by omega
        have HGW : Hid (∀ u, Below w.heap.size w u → g < u.heap.size ∧ g' < u.heap.size) := fun u hu => ⟨Nat.lt_of_lt_of_le hg hu.size, Nat.lt_of_lt_of_le hg' hu.size⟩
        have HB : Hid (Below w.heap.size w wr) := hb
        clear hb
        go_upto_region 6 with fail
        refine wp_region_held (S := fun w9 => Below w.heap.size w w9) (by kernel_rfl) ?_
        change wpAnyH _ _ _ _ _ _ _ _ (World.drew _)
        have HS0 : Hid (Below w.heap.size w wr.drew) := HB.out.drew
        generalize wr.drew = v1 at *
        refine wpAnyH_take (i := 0) (v := .slice (some ⟨g, o, none⟩) cs.length cap) rfl (by kernel_rfl) (by kernel_rfl) (by kernel_rfl) (fun _ _ _ h => h) (Or.inl ⟨by kernel_rfl, fun w9 h9 => ?_⟩) HS0.out ?_
        · clear h9; go_simp
        refine wpAnyH_take (i := 1) (v := .int .i64 (k : Int)) rfl (by kernel_rfl) (by kernel_rfl) (by kernel_rfl) (fun _ _ _ h => h) (Or.inl ⟨by kernel_rfl, fun w9 h9 => ?_⟩) HS0.out ?_
        · clear h9; go_simp
        refine wpAnyH_take (i := 2) (v := .pointer (some ⟨g, o + k * 2, none⟩)) rfl (by kernel_rfl) (by kernel_rfl) (by kernel_rfl) (fun _ _ _ h => h) (Or.inl ⟨by kernel_rfl, fun w9 h9 => ?_⟩) HS0.out ?_
        · clear h9; go_simp
        refine wpAnyH_take (i := 3) (v := .agg #[.int .i64 p.addr, .slice a1 p.gs.length k1]) rfl (by kernel_rfl) (by kernel_rfl) (by kernel_rfl) (fun _ _ _ h => h) (Or.inl ⟨by kernel_rfl, fun w9 h9 => ?_⟩) HS0.out ?_
        · obtain ⟨x0, x1⟩ := HD.out _ h9; have xl := (HGW.out _ h9).1; clear h9; go_simp
        refine wpAnyH_take (i := 4) (v := .slice (some ⟨g', o', none⟩) cs.length cap') rfl (by kernel_rfl) (by kernel_rfl) (by kernel_rfl) (fun _ _ _ h => h) (Or.inl ⟨by kernel_rfl, fun w9 h9 => ?_⟩) HS0.out ?_
        · clear h9; go_simp
        refine wpAnyH_take (i := 5) (v := .int .i64 (k : Int)) rfl (by kernel_rfl) (by kernel_rfl) (by kernel_rfl) (fun _ _ _ h => h) (Or.inl ⟨by kernel_rfl, fun w9 h9 => ?_⟩) HS0.out ?_
        · clear h9; go_simp
        refine wpAnyH_take (i := 6) (v := .pointer (some ⟨g', o' + k * 2, none⟩)) rfl (by kernel_rfl) (by kernel_rfl) (by kernel_rfl) (fun _ _ _ h => h) (Or.inl ⟨by kernel_rfl, fun w9 h9 => ?_⟩) HS0.out ?_
        · clear h9; go_simp
        refine wpAnyH_take (i := 7) (v := .agg #[.int .i64 p.addr, .slice a2 p.gs.length k2]) rfl (by kernel_rfl) (by kernel_rfl) (by kernel_rfl) (fun _ _ _ h => h) (Or.inl ⟨by kernel_rfl, fun w9 h9 => ?_⟩) HS0.out ?_
        · obtain ⟨x0, x1⟩ := HD'.out _ h9; have xl := (HGW.out _ h9).2; clear h9; go_simp
        refine held_one 8 (by kernel_rfl) rfl (by kernel_rfl) fun K hK => ?_
        go_simp
        go_wp2_with (go_at_call 54; refine Calls.mono (HE.out _ HS0.out) ?_; rintro e u5 ⟨rfl, hu5⟩; have HS1 : Hid (Below w.heap.size w u5) := HS0.out.trans (hu5.mono HS0.out.size); clear hu5)
        refine hK _ _ HS1.out ?_
        clear hK K HS0
        refine wpAnyH_take (i := 9) (v := .bool false) rfl (by kernel_rfl) (by kernel_rfl) (by kernel_rfl) (fun _ _ _ h => h) (Or.inl ⟨by kernel_rfl, fun w9 h9 => ?_⟩) HS1.out ?_
        · clear h9; go_simp
        refine wpAnyH_done (by kernel_rfl) ?_ _
        go_simp
        go_wp2
        exact ⟨⟨k + 1, hlt, by go_num, HS1.out⟩, by simp [intOf]; omega⟩
      · obtain rfl : k = cs.length := by omega
        go_wp2
        go_ret
        exact ⟨rfl, hb⟩
set_option maxRecDepth 100000 in
set_option maxHeartbeats 4000000 in
theorem szHO_w {w : World} (p : HO) {v : Value} (h : Irow w v p.gs) (hm : p.gs.length ≤ maxLen) (l : Int) (h0 : 0 ≤ l) (h1 : l ≤ 1048576) : Calls Try.prog 42 #[hoA p v, .int .i64 l] w fun e w' => ∃ q, e = .returned (.int .i64 q) ∧ -1 ≤ q ∧ q ≤ 1048576 ∧ (0 ≤ q → p.gs.length ≤ 1048576) ∧ Below w.heap.size w w' := by
  obtain ⟨a1, k1, rfl⟩ := h.sl
  clear h
  have HS : Hid (∀ u, Calls Try.prog 67 #[.slice a1 p.gs.length k1, .int .i64 l] u fun e w' => e = .returned (.int .i64 (if l < (p.gs.length : Int) then -1 else l - p.gs.length)) ∧ w' = u) := fun u => szIS_any a1 p.gs.length k1 l u h0 h1 hm
  have hq : ∃ q : Int, (if l < (p.gs.length : Int) then -1 else l - p.gs.length) = q ∧ -1 ≤ q ∧ q ≤ 1048576 ∧ (0 ≤ q → p.gs.length ≤ 1048576) := by
    refine ⟨_, rfl, ?_⟩
    split <;> omega
  obtain ⟨q, e, q0, q1, q2⟩ := hq
  rw [e] at HS
  have HQ : Hid (-1 ≤ q ∧ q ≤ 1048576 ∧ (0 ≤ q → p.gs.length ≤ 1048576)) := ⟨q0, q1, q2⟩
  clear e q0 q1 q2 hm
  have HL0 : Hid (LG w (w.alloc (.cells #[.int .i64 p.addr, .slice a1 p.gs.length k1] 81)) w.heap.size #[.int .i64 p.addr, .slice a1 p.gs.length k1] 81) := LG.new w _ _
  unfold hoA hoC
  go_enter Try.func42, Try.ntmps42
  go_wp2_with fail
  generalize (w.alloc (.cells #[.int .i64 p.addr, .slice a1 p.gs.length k1] 81)) = u0 at *
  refine Calls.mono (HS.out _) ?_
  rintro e u1 ⟨rfl, hw1⟩
  rw [hw1]
  clear hw1
  cases h3 : decide (q < 0)
  · go_wp2
    go_ret
    exact ⟨_, rfl, HQ.out.1, HQ.out.2.1, HQ.out.2.2, HL0.out.bel⟩
  · go_wp2
    go_ret
    exact ⟨_, rfl, by omega, by omega, fun hh => absurd hh (by omega), HL0.out.bel⟩
structure HOmax (cs : List HO) : Prop where
  len : cs.length ≤ maxLen
  el : ∀ k (hk : k < cs.length), cs[k].gs.length ≤ maxLen
structure HOlen (cs : List HO) : Prop where
  len : cs.length ≤ 1048576
  el : ∀ k (hk : k < cs.length), cs[k].gs.length ≤ 1048576
set_option maxRecDepth 100000 in
set_option maxHeartbeats 4000000 in
theorem szHOS_w {w : World} {v : Value} {qs : List NH} {cs : List HO} (h : NHrow w v qs) (hp : HOin w qs cs) (hm : HOmax cs) (L : Int) (hL0 : 0 ≤ L) (hL1 : L ≤ 1048576) :
    Calls Try.prog 14 #[v, .int .i64 L] w fun e w' => ∃ q, e = .returned (.int .i64 q) ∧ -1 ≤ q ∧ q ≤ 1048576 ∧ (0 ≤ q → HOlen cs) ∧ Below w.heap.size w w' := by
  obtain ⟨ao, cap, rfl⟩ := h.sl
  have hq := hp.len
  have HR : Hid (NHrow w (.slice ao cs.length cap) qs) := (show NHrow w (.slice ao cs.length cap) qs by rw [← hq]; exact h)
  have HP : Hid (HOin w qs cs) := hp
  have HQ : Hid (qs.length = cs.length) := hq
  have HM : Hid (HOmax cs) := hm
  have hm2 : cs.length ≤ 9223372036854775807 := by have := hm.len; unfold maxLen at this; omega
  have HL1 : Hid (0 ≤ L ∧ L ≤ 1048576) := ⟨hL0, hL1⟩
  rw [hq]
  clear h hp hq hm
  cases h3 : decide (L - (cs.length : Int) < 0)
  · have g3 := of_decide_eq_false h3
    have HL : Hid (cs.length ≤ 1048576) := (show cs.length ≤ 1048576 by omega)
    go_enter Try.func14, Try.ntmps14
    go_wp2
    go_loopw [1, 5] (fun y i wr => ∃ (k : Nat) (l : Int), k ≤ cs.length ∧ y = .int .i64 l ∧ 0 ≤ l ∧ l ≤ 1048576 ∧ i = .int .i64 k ∧ (∀ j (hj : j < cs.length), j < k → cs[j].gs.length ≤ 1048576) ∧ Below w.heap.size w wr) (fun _ i _ => cs.length - (intOf i).toNat)
    case atStart => exact ⟨0, _, Nat.zero_le _, rfl, by omega, by omega, rfl, fun j _ hj => absurd hj (by omega), Below.refl _ _⟩
    case round =>
      obtain ⟨k, l, hk, rfl, l0, l1, rfl, hall, hb⟩ := hrel
      have HB : Hid (Below w.heap.size w wr) := hb
      have HALL : Hid (∀ j (hj : j < cs.length), j < k → cs[j].gs.length ≤ 1048576) := hall
      clear hall
      by_cases hlt : k < cs.length
      · have hkq : k < qs.length := by rw [HQ.out]; exact hlt
        obtain ⟨g, o, cap2, hv, _, hg, hc⟩ := HR.out.resolve_left (fun h => by rw [h.1] at hkq; simp at hkq)
        injection hv with hv1 hv2 hv3
        subst hv1 hv3
        obtain ⟨d0, d1⟩ := hc.below hb hg k hkq
        have hgw : g < wr.heap.size := Nat.lt_of_lt_of_le hg hb.size
        obtain ⟨p0, p1⟩ := HP.out.el k hkq hlt
        rw [p0] at d0
        unfold hoQ at d0
        simp only at d0
        have HS : Hid _ := szHO_w cs[k] (p1.below hb) (HM.out.el k hlt) l l0 l1
        have HZ : Hid (∀ n, cs[k].gs.length ≤ n → ∀ j (hj : j < cs.length), j < k + 1 → (∀ j (hj : j < cs.length), j < k → cs[j].gs.length ≤ n) → cs[j].gs.length ≤ n) := (fun n h1 j hj h2 h3 => by
          by_cases e : j = k
          · subst e; exact h1
          · exact h3 j hj (by omega))
        clear p0
        generalize cs[k] = p at *
        generalize qs[k].groups = y at *
        obtain ⟨a1, k1, rfl⟩ := p1.sl
        unfold hoA hoC at HS
        have hk0 : (0 : Int) ≤ (k : Int) := by omega
        have hk1 : (k : Int) < (cs.length : Int) := by omega
        clear hc hb h3 g3 p1 hv2 hL0 hL1
        go_wp2_with fail
        refine Calls.mono HS.out ?_
        rintro e u1 ⟨q, rfl, q0, q1, hq, hu⟩
        have HU : Hid (Below w.heap.size w u1) := HB.out.trans (hu.mono HB.out.size)
        have HQL : Hid (0 ≤ q → p.gs.length ≤ 1048576) := hq
        clear hu HS hq
        cases h5 : decide (q < 0)
        · have g5 := of_decide_eq_false h5
          go_wp2
          exact ⟨⟨k + 1, q, hlt, rfl, by omega, q1, by go_num, fun j hj hj2 => HZ.out 1048576 (HQL.out (by omega)) j hj hj2 HALL.out, HU.out⟩, by simp [intOf]; omega⟩
        · go_wp2
          go_ret
          exact ⟨-1, rfl, by omega, by omega, fun hh => absurd hh (by omega), HU.out⟩
      · obtain rfl : k = cs.length := by omega
        clear h3 g3 hL0 hL1
        go_wp2
        go_ret
        exact ⟨l, rfl, by omega, l1, fun _ => ⟨HL.out, fun j hj => HALL.out j hj hj⟩, HB.out⟩
  · have g3 := of_decide_eq_true h3
    go_enter Try.func14, Try.ntmps14
    go_wp2
    go_ret
    exact ⟨-1, rfl, by omega, by omega, fun hh => absurd hh (by omega), Below.refl _ _⟩
end Go.Proofs.Ytpggbbdfbnocfaa
