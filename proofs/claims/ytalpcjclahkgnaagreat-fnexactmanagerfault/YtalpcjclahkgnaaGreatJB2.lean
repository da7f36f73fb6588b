import Derived.Test.YtalpcjclahkgnaaGreatJB1
import Derived.Test.YtalpcjclahkgnaaGreatHl
import Derived.Test.YtalpcjclahkgnaaGreatRowS2
namespace Go.Proofs.YtalpcjclahkgnaaGreat
open Go.ChangeShapes Go.WideShapes Go.ChangeAt Go.RowKit

set_option maxRecDepth 100000 in
set_option maxHeartbeats 4000000 in
theorem eqJB_ok {w : World} {p : JB} {v u : Value} (h1 : Srow w v p.ls) (h2 : Srow w u p.ls) (lp : p.ls.length ≤ 1048576) : Calls Tryz.prog 45 #[jbA p v, jbA p u] w fun e w' => e = .returned (.bool true) ∧ Below w.heap.size w w' := by
  obtain ⟨a1, k1, rfl⟩ := h1.sl
  obtain ⟨a2, k2, rfl⟩ := h2.sl
  have H1 : Hid (Srow w (.slice a1 p.ls.length k1) p.ls) := h1
  have H2 : Hid (Srow w (.slice a2 p.ls.length k2) p.ls) := h2
  have HE0 : Hid (E2 w ((w.alloc (.cells #[.int .i64 p.number, .string p.node, .slice a1 p.ls.length k1, .int .i64 p.done, .int .i64 p.state] 53)).alloc (.cells #[.int .i64 p.number, .string p.node, .slice a2 p.ls.length k2, .int .i64 p.done, .int .i64 p.state] 53)) 53 #[.int .i64 p.number, .string p.node, .slice a1 p.ls.length k1, .int .i64 p.done, .int .i64 p.state] #[.int .i64 p.number, .string p.node, .slice a2 p.ls.length k2, .int .i64 p.done, .int .i64 p.state]) := E2.new _ _ _ _
  clear h1 h2
  have n0 : (p.number != p.number) = false := by simp
  have n1 : (p.node.toList != p.node.toList) = false := by simp
  have n2 : (p.done != p.done) = false := by simp
  have n3 : (p.state != p.state) = false := by simp
  unfold jbA jbC
  go_enter Tryz.func45, Tryz.ntmps45
  go_wp2_with fail
  generalize ((w.alloc (.cells #[.int .i64 p.number, .string p.node, .slice a1 p.ls.length k1, .int .i64 p.done, .int .i64 p.state] 53)).alloc (.cells #[.int .i64 p.number, .string p.node, .slice a2 p.ls.length k2, .int .i64 p.done, .int .i64 p.state] 53)) = u0 at *
  refine Calls.mono (eqSS_ok (H1.out.below HE0.out.bel) (H2.out.below HE0.out.bel) lp) ?_
  rintro e u1 ⟨rfl, hb1⟩
  have HE1 : Hid (E2 w u1 53 #[.int .i64 p.number, .string p.node, .slice a1 p.ls.length k1, .int .i64 p.done, .int .i64 p.state] #[.int .i64 p.number, .string p.node, .slice a2 p.ls.length k2, .int .i64 p.done, .int .i64 p.state]) := HE0.out.step hb1
  clear hb1 HE0
  have c3 := celN HE1.out.b0 3 _ rfl
  have c4 := celN HE1.out.b0 4 _ rfl
  have d3 := celN HE1.out.b1 3 _ rfl
  have d4 := celN HE1.out.b1 4 _ rfl
  have lt := HE1.out.lt
  have lt0 : w.heap.size < u1.heap.size := by omega
  go_wp2
  go_ret
  exact ⟨rfl, HE1.out.bel⟩
set_option maxRecDepth 100000 in
set_option maxHeartbeats 4000000 in
theorem eqJBS_ok {w : World} {v u : Value} {qs qs2 : List MJ} {cs : List JB} (h : MJrow w v qs) (hp : JBin w qs cs) (h' : MJrow w u qs2) (hp' : JBin w qs2 cs) (hl : cs.length ≤ 1048576) (lp : ∀ k (hk : k < cs.length), cs[k].ls.length ≤ 1048576) :
    Calls Tryz.prog 20 #[v, u] w fun e w' => e = .returned (.bool true) ∧ Below w.heap.size w w' := by
  have hq := hp.len
  have hq' := hp'.len
  by_cases hz : cs.length = 0
  · obtain ⟨a1, c1, rfl⟩ := h.sl
    obtain ⟨a2, c2, rfl⟩ := h'.sl
    have e1 : qs.length = 0 := by omega
    have e2 : qs2.length = 0 := by omega
    clear h h' hl hp hp' lp hq hq'
    rw [e1, e2]
    go_enter Tryz.func20, Tryz.ntmps20
    go_wp2
    go_loopw [5] (fun i w5 => i = .int .i64 0 ∧ w5 = w) (fun _ _ => 0)
    case atStart => exact ⟨rfl, rfl⟩
    case round =>
      obtain ⟨rfl, rfl⟩ := hrel
      go_wp2
      go_ret
      exact ⟨rfl, Below.refl _ _⟩
  · obtain ⟨g, o, cap, rfl, _, hg, hc⟩ := h.resolve_left (fun h => by rw [h.1] at hq; simp at hq; omega)
    obtain ⟨g', o', cap', rfl, _, hg', hc'⟩ := h'.resolve_left (fun h => by rw [h.1] at hq'; simp at hq'; omega)
    have HP : Hid (JBin w qs cs) := hp
    have HP' : Hid (JBin w qs2 cs) := hp'
    have HLP : Hid (∀ k (hk : k < cs.length), cs[k].ls.length ≤ 1048576) := lp
    have HQ : Hid (qs.length = cs.length) := hq
    have HQ' : Hid (qs2.length = cs.length) := hq'
    have HC : Hid (MJat w g o qs) := hc
    have HC' : Hid (MJat w g' o' qs2) := hc'
    rw [hq, hq']
    clear h h' hz hp hp' lp hq hq' hc hc'
    go_enter Tryz.func20, Tryz.ntmps20
    go_wp2
    go_loopw [5] (fun i w5 => ∃ k : Nat, k ≤ cs.length ∧ i = .int .i64 k ∧ Below w.heap.size w w5) (fun i _ => cs.length - (intOf i).toNat)
    case atStart => exact ⟨0, Nat.zero_le _, rfl, Below.refl _ _⟩
    case round =>
      obtain ⟨k, hk, rfl, hb⟩ := hrel
      by_cases hlt : k < cs.length
      · have hkq : k < qs.length := by rw [HQ.out]; exact hlt
        have hkq' : k < qs2.length := by rw [HQ'.out]; exact hlt
        have HD : Hid (∀ u, Below w.heap.size w u → _) := fun u (hu : Below w.heap.size w u) => HC.out.below hu hg k hkq
        have HD' : Hid (∀ u, Below w.heap.size w u → _) := fun u (hu : Below w.heap.size w u) => HC'.out.below hu hg' k hkq'
        obtain ⟨p0, p1⟩ := HP.out.el k hkq hlt
        obtain ⟨q0, q1⟩ := HP'.out.el k hkq' hlt
        have lp := HLP.out k hlt
        rw [p0] at HD
        rw [q0] at HD'
        unfold jbQ at HD HD'
        simp only at HD HD'
        clear p0 q0
        generalize cs[k] = p at *
        generalize qs[k].left = y at *
        generalize qs2[k].left = x at *
        obtain ⟨a1, k1, rfl⟩ := p1.sl
        obtain ⟨a2, k2, rfl⟩ := q1.sl
        have HE : Hid (∀ (w' : World) (hw : Below w.heap.size w w'), _) := fun (w' : World) (hw : Below w.heap.size w w') => eqJB_ok (p := p) (p1.below hw) (q1.below hw) lp
        unfold jbA jbC at HE
        clear p1 q1 lp
        have hk0 : (0 : Int) ≤ (k : Int) := by omega
        have hk1 : (k : Int) < (cs.length : Int) := by omega
        have HGW : Hid (∀ u, Below w.heap.size w u → g < u.heap.size ∧ g' < u.heap.size) := fun u hu => ⟨Nat.lt_of_lt_of_le hg hu.size, Nat.lt_of_lt_of_le hg' hu.size⟩
        have HB : Hid (Below w.heap.size w wr) := hb
        clear hb
        go_upto_region 6 with fail
        refine wp_region_held (S := fun w9 => Below w.heap.size w w9) (by kernel_rfl) ?_
        change wpAnyH _ _ _ _ _ _ _ _ (World.drew _)
        have HS0 : Hid (Below w.heap.size w wr.drew) := HB.out.drew
        generalize wr.drew = v1 at *
        refine wpAnyH_take (i := 0) (v := .slice (some ⟨g, o, none⟩) cs.length cap) rfl (by kernel_rfl) (by kernel_rfl) (by kernel_rfl) (fun _ _ _ h => h) (Or.inl ⟨by kernel_rfl, fun w9 h9 => ?_⟩) HS0.out ?_
        · clear h9; go_simp
        refine wpAnyH_take (i := 1) (v := .int .i64 (k : Int)) rfl (by kernel_rfl) (by kernel_rfl) (by kernel_rfl) (fun _ _ _ h => h) (Or.inl ⟨by kernel_rfl, fun w9 h9 => ?_⟩) HS0.out ?_
        · clear h9; go_simp
        refine wpAnyH_take (i := 2) (v := .pointer (some ⟨g, o + k * 5, none⟩)) rfl (by kernel_rfl) (by kernel_rfl) (by kernel_rfl) (fun _ _ _ h => h) (Or.inl ⟨by kernel_rfl, fun w9 h9 => ?_⟩) HS0.out ?_
        · clear h9; go_simp
        refine wpAnyH_take (i := 3) (v := .agg #[.int .i64 p.number, .string p.node, .slice a1 p.ls.length k1, .int .i64 p.done, .int .i64 p.state]) rfl (by kernel_rfl) (by kernel_rfl) (by kernel_rfl) (fun _ _ _ h => h) (Or.inl ⟨by kernel_rfl, fun w9 h9 => ?_⟩) HS0.out ?_
        · obtain ⟨x0, x1, x2, x3, x4⟩ := HD.out _ h9; have xl := (HGW.out _ h9).1; clear h9; go_simp
        refine wpAnyH_take (i := 4) (v := .slice (some ⟨g', o', none⟩) cs.length cap') rfl (by kernel_rfl) (by kernel_rfl) (by kernel_rfl) (fun _ _ _ h => h) (Or.inl ⟨by kernel_rfl, fun w9 h9 => ?_⟩) HS0.out ?_
        · clear h9; go_simp
        refine wpAnyH_take (i := 5) (v := .int .i64 (k : Int)) rfl (by kernel_rfl) (by kernel_rfl) (by kernel_rfl) (fun _ _ _ h => h) (Or.inl ⟨by kernel_rfl, fun w9 h9 => ?_⟩) HS0.out ?_
        · clear h9; go_simp
        refine wpAnyH_take (i := 6) (v := .pointer (some ⟨g', o' + k * 5, none⟩)) rfl (by kernel_rfl) (by kernel_rfl) (by kernel_rfl) (fun _ _ _ h => h) (Or.inl ⟨by kernel_rfl, fun w9 h9 => ?_⟩) HS0.out ?_
        · clear h9; go_simp
        refine wpAnyH_take (i := 7) (v := .agg #[.int .i64 p.number, .string p.node, .slice a2 p.ls.length k2, .int .i64 p.done, .int .i64 p.state]) rfl (by kernel_rfl) (by kernel_rfl) (by kernel_rfl) (fun _ _ _ h => h) (Or.inl ⟨by kernel_rfl, fun w9 h9 => ?_⟩) HS0.out ?_
        · obtain ⟨x0, x1, x2, x3, x4⟩ := HD'.out _ h9; have xl := (HGW.out _ h9).2; clear h9; go_simp
        refine held_one 8 (by kernel_rfl) rfl (by kernel_rfl) fun K hK => ?_
        go_simp
        go_wp2_with (go_at_call 45; refine Calls.mono (HE.out _ HS0.out) ?_; rintro e u5 ⟨rfl, hu5⟩; have HS1 : Hid (Below w.heap.size w u5) := HS0.out.trans (hu5.mono HS0.out.size); clear hu5)
        refine hK _ _ HS1.out ?_
        clear hK K HS0
        refine wpAnyH_take (i := 9) (v := .bool false) rfl (by kernel_rfl) (by kernel_rfl) (by kernel_rfl) (fun _ _ _ h => h) (Or.inl ⟨by kernel_rfl, fun w9 h9 => ?_⟩) HS1.out ?_
        · clear h9; go_simp
        refine wpAnyH_done (by kernel_rfl) ?_ _
        go_simp
        go_wp2
        exact ⟨⟨k + 1, hlt, by go_num, HS1.out⟩, by simp [intOf]; omega⟩
      · obtain rfl : k = cs.length := by omega
        go_wp2
        go_ret
        exact ⟨rfl, hb⟩
set_option maxRecDepth 100000 in
set_option maxHeartbeats 4000000 in
theorem szJB_w {w : World} (p : JB) {v : Value} (h : Srow w v p.ls) (hm : (p.ls.length ≤ maxLen ∧ p.node.size ≤ maxLen ∧ ∀ q9 ∈ p.ls, q9.size ≤ maxLen)) (l : Int) (h0 : 0 ≤ l) (h1 : l ≤ 1048576) : Calls Tryz.prog 25 #[jbA p v, .int .i64 l] w fun e w' => ∃ q, e = .returned (.int .i64 q) ∧ -1 ≤ q ∧ q ≤ 1048576 ∧ (0 ≤ q → p.ls.length ≤ 1048576) ∧ Below w.heap.size w w' := by
  obtain ⟨m0, m1, m2⟩ := hm
  have q1 : p.node.size ≤ 9223372036854775807 := by unfold maxLen at m1; omega
  have hq0 : (0 : Int) ≤ (p.node.size : Int) := by omega
  have hq1 : (p.node.size : Int) ≤ 9223372036854775807 := by omega
  have HR : Hid (Srow w v p.ls) := h
  obtain ⟨a1, k1, rfl⟩ := h.sl
  clear h
  have HL0 : Hid (LG w (w.alloc (.cells #[.int .i64 p.number, .string p.node, .slice a1 p.ls.length k1, .int .i64 p.done, .int .i64 p.state] 68)) w.heap.size #[.int .i64 p.number, .string p.node, .slice a1 p.ls.length k1, .int .i64 p.done, .int .i64 p.state] 68) := LG.new w _ _
  cases h3 : decide (l - (p.node.size : Int) < 0)
  · have g3 := of_decide_eq_false h3
    have HS : Hid (∀ u, Below w.heap.size w u → Calls Tryz.prog 48 #[.slice a1 p.ls.length k1, .int .i64 (l - (p.node.size : Int))] u fun e w' => ∃ q, e = .returned (.int .i64 q) ∧ -1 ≤ q ∧ q ≤ 1048576 ∧ (0 ≤ q → p.ls.length ≤ 1048576) ∧ Below u.heap.size u w') := fun u hu => Calls.mono (szSS_any (HR.out.below hu) (l - (p.node.size : Int)) (by omega) (by omega) m0 m2 _ rfl) (by
      rintro e w' ⟨rfl, hb⟩
      have := totS_nn p.ls
      refine ⟨_, rfl, ?_, ?_, ?_, hb⟩
      · split <;> omega
      · split <;> omega
      · split <;> omega)
    clear m0 m1 m2 q1
    unfold jbA jbC
    go_enter Tryz.func25, Tryz.ntmps25
    go_wp2_with fail
    generalize (w.alloc (.cells #[.int .i64 p.number, .string p.node, .slice a1 p.ls.length k1, .int .i64 p.done, .int .i64 p.state] 68)) = u0 at *
    generalize hbb : w.heap.size = b0 at HL0 ⊢
    have HB9 : Hid (w.heap.size = b0) := hbb
    clear hbb
    refine Calls.mono (HS.out _ HL0.out.bel) ?_
    rintro e u1 ⟨q, rfl, q0, q1, q2, hb⟩
    have HB1 : Hid (Below w.heap.size w u1) := (HL0.out.step hb).bel
    have HQ : Hid (0 ≤ q → p.ls.length ≤ 1048576) := q2
    clear hb q2 h3 g3
    cases h4 : decide (q < 0)
    · go_wp2
      go_ret
      exact ⟨_, rfl, q0, q1, HQ.out, HB9.out ▸ HB1.out⟩
    · go_wp2
      go_ret
      exact ⟨_, rfl, by omega, by omega, fun hh => absurd hh (by omega), HB9.out ▸ HB1.out⟩
  · clear m0 m1 m2 q1
    unfold jbA jbC
    go_enter Tryz.func25, Tryz.ntmps25
    go_wp2
    go_ret
    exact ⟨_, rfl, by omega, by omega, fun hh => absurd hh (by omega), HL0.out.bel⟩
structure JBmax (cs : List JB) : Prop where
  len : cs.length ≤ maxLen
  el : ∀ k (hk : k < cs.length), (cs[k].ls.length ≤ maxLen ∧ cs[k].node.size ≤ maxLen ∧ ∀ q9 ∈ cs[k].ls, q9.size ≤ maxLen)
structure JBlen (cs : List JB) : Prop where
  len : cs.length ≤ 1048576
  el : ∀ k (hk : k < cs.length), cs[k].ls.length ≤ 1048576
set_option maxRecDepth 100000 in
set_option maxHeartbeats 4000000 in
theorem szJBS_w {w : World} {v : Value} {qs : List MJ} {cs : List JB} (h : MJrow w v qs) (hp : JBin w qs cs) (hm : JBmax cs) (L : Int) (hL0 : 0 ≤ L) (hL1 : L ≤ 1048576) :
    Calls Tryz.prog 11 #[v, .int .i64 L] w fun e w' => ∃ q, e = .returned (.int .i64 q) ∧ -1 ≤ q ∧ q ≤ 1048576 ∧ (0 ≤ q → JBlen cs) ∧ Below w.heap.size w w' := by
  obtain ⟨ao, cap, rfl⟩ := h.sl
  have hq := hp.len
  have HR : Hid (MJrow w (.slice ao cs.length cap) qs) := (show MJrow w (.slice ao cs.length cap) qs by rw [← hq]; exact h)
  have HP : Hid (JBin w qs cs) := hp
  have HQ : Hid (qs.length = cs.length) := hq
  have HM : Hid (JBmax cs) := hm
  have hm2 : cs.length ≤ 9223372036854775807 := by have := hm.len; unfold maxLen at this; omega
  have HL1 : Hid (0 ≤ L ∧ L ≤ 1048576) := ⟨hL0, hL1⟩
  rw [hq]
  clear h hp hq hm
  cases h3 : decide (L - (cs.length : Int) < 0)
  · have g3 := of_decide_eq_false h3
    have HL : Hid (cs.length ≤ 1048576) := (show cs.length ≤ 1048576 by omega)
    go_enter Tryz.func11, Tryz.ntmps11
    go_wp2
    go_loopw [1, 5] (fun y i wr => ∃ (k : Nat) (l : Int), k ≤ cs.length ∧ y = .int .i64 l ∧ 0 ≤ l ∧ l ≤ 1048576 ∧ i = .int .i64 k ∧ (∀ j (hj : j < cs.length), j < k → cs[j].ls.length ≤ 1048576) ∧ Below w.heap.size w wr) (fun _ i _ => cs.length - (intOf i).toNat)
    case atStart => exact ⟨0, _, Nat.zero_le _, rfl, by omega, by omega, rfl, fun j _ hj => absurd hj (by omega), Below.refl _ _⟩
    case round =>
      obtain ⟨k, l, hk, rfl, l0, l1, rfl, hall, hb⟩ := hrel
      have HB : Hid (Below w.heap.size w wr) := hb
      have HALL : Hid (∀ j (hj : j < cs.length), j < k → cs[j].ls.length ≤ 1048576) := hall
      clear hall
      by_cases hlt : k < cs.length
      · have hkq : k < qs.length := by rw [HQ.out]; exact hlt
        obtain ⟨g, o, cap2, hv, _, hg, hc⟩ := HR.out.resolve_left (fun h => by rw [h.1] at hkq; simp at hkq)
        injection hv with hv1 hv2 hv3
        subst hv1 hv3
        obtain ⟨d0, d1, d2, d3, d4⟩ := hc.below hb hg k hkq
        have hgw : g < wr.heap.size := Nat.lt_of_lt_of_le hg hb.size
        obtain ⟨p0, p1⟩ := HP.out.el k hkq hlt
        rw [p0] at d0 d1 d3 d4
        unfold jbQ at d0 d1 d3 d4
        simp only at d0 d1 d3 d4
        have HS : Hid _ := szJB_w cs[k] (p1.below hb) (HM.out.el k hlt) l l0 l1
        have HZ : Hid (∀ n, cs[k].ls.length ≤ n → ∀ j (hj : j < cs.length), j < k + 1 → (∀ j (hj : j < cs.length), j < k → cs[j].ls.length ≤ n) → cs[j].ls.length ≤ n) := (fun n h1 j hj h2 h3 => by
          by_cases e : j = k
          · subst e; exact h1
          · exact h3 j hj (by omega))
        clear p0
        generalize cs[k] = p at *
        generalize qs[k].left = y at *
        obtain ⟨a1, k1, rfl⟩ := p1.sl
        unfold jbA jbC at HS
        have hk0 : (0 : Int) ≤ (k : Int) := by omega
        have hk1 : (k : Int) < (cs.length : Int) := by omega
        clear hc hb h3 g3 p1 hv2 hL0 hL1
        go_wp2_with fail
        refine Calls.mono HS.out ?_
        rintro e u1 ⟨q, rfl, q0, q1, hq, hu⟩
        have HU : Hid (Below w.heap.size w u1) := HB.out.trans (hu.mono HB.out.size)
        have HQL : Hid (0 ≤ q → p.ls.length ≤ 1048576) := hq
        clear hu HS hq
        cases h5 : decide (q < 0)
        · have g5 := of_decide_eq_false h5
          go_wp2
          exact ⟨⟨k + 1, q, hlt, rfl, by omega, q1, by go_num, fun j hj hj2 => HZ.out 1048576 (HQL.out (by omega)) j hj hj2 HALL.out, HU.out⟩, by simp [intOf]; omega⟩
        · go_wp2
          go_ret
          exact ⟨-1, rfl, by omega, by omega, fun hh => absurd hh (by omega), HU.out⟩
      · obtain rfl : k = cs.length := by omega
        clear h3 g3 hL0 hL1
        go_wp2
        go_ret
        exact ⟨l, rfl, by omega, l1, fun _ => ⟨HL.out, fun j hj => HALL.out j hj hj⟩, HB.out⟩
  · have g3 := of_decide_eq_true h3
    go_enter Tryz.func11, Tryz.ntmps11
    go_wp2
    go_ret
    exact ⟨-1, rfl, by omega, by omega, fun hh => absurd hh (by omega), Below.refl _ _⟩
end Go.Proofs.YtalpcjclahkgnaaGreat
