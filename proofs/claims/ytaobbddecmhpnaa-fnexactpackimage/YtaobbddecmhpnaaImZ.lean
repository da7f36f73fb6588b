import Derived.Test.YtaobbddecmhpnaaIm3
namespace Go.Proofs.Ytaobbddecmhpnaa
open Go.ChangeShapes Go.WideShapes Go.ChangeAt Go.RowKit

/-- Two boxes. -/
structure E2 (w u : World) (t : TypeId) (A A2 : Array Value) : Prop where
  bel : Below w.heap.size w u
  b0 : u.heap[w.heap.size]? = some (.cells A t (0, 0))
  b1 : u.heap[w.heap.size + 1]? = some (.cells A2 t (0, 0))
theorem E2.lt {w u : World} {t : TypeId} {A A2 : Array Value} (h : E2 w u t A A2) : w.heap.size + 1 < u.heap.size := (Array.getElem?_eq_some_iff.1 h.b1).1
theorem E2.step {w u u' : World} {t : TypeId} {A A2 : Array Value} (h : E2 w u t A A2) (hb : Below u.heap.size u u') : E2 w u' t A A2 := by
  have := h.lt
  exact ⟨h.bel.trans (hb.mono h.bel.size), (hb.block _ (by omega)).trans h.b0, (hb.block _ (by omega)).trans h.b1⟩
theorem E2.new (w : World) (t : TypeId) (A A2 : Array Value) : E2 w ((w.alloc (.cells A t)).alloc (.cells A2 t)) t A A2 :=
  ⟨((Below.refl _ _).alloc (Nat.le_refl _) _).alloc (by simp) _, (Below.heap_alloc _ _ _ (by simp)).trans (heap_new _ _), by simpa using heap_new (w.alloc (.cells A t)) (.cells A2 t)⟩
set_option maxRecDepth 100000 in
set_option maxHeartbeats 4000000 in
theorem eqSnap_ok {w : World} {d : ByteArray} {s s2 : Value} {ss : List Int} (h2 : Irow w s ss) (h4 : Irow w s2 ss) (ls : ss.length ≤ 1048576) : Calls Try.prog 46 #[.agg #[.string d, s], .agg #[.string d, s2]] w fun e w' => e = .returned (.bool true) ∧ Below w.heap.size w w' := by
  obtain ⟨a2, k2, rfl⟩ := h2.sl
  obtain ⟨a4, k4, rfl⟩ := h4.sl
  have H2 : Hid (Irow w (.slice a2 ss.length k2) ss) := h2
  have H4 : Hid (Irow w (.slice a4 ss.length k4) ss) := h4
  have HE0 : Hid (E2 w ((w.alloc (.cells #[.string d, .slice a2 ss.length k2] 43)).alloc (.cells #[.string d, .slice a4 ss.length k4] 43)) 43 #[.string d, .slice a2 ss.length k2] #[.string d, .slice a4 ss.length k4]) := E2.new _ _ _ _
  clear h2 h4
  go_enter Try.func46, Try.ntmps46
  go_wp2_with fail
  generalize ((w.alloc (.cells #[.string d, .slice a2 ss.length k2] 43)).alloc (.cells #[.string d, .slice a4 ss.length k4] 43)) = u0 at *
  refine Calls.mono (eqIS_ok (H2.out.below HE0.out.bel) (H4.out.below HE0.out.bel) ls) ?_
  rintro e u2 ⟨rfl, hb2⟩
  go_wp2
  go_ret
  exact ⟨rfl, HE0.out.bel.trans (hb2.mono HE0.out.bel.size)⟩
set_option maxRecDepth 100000 in
set_option maxHeartbeats 4000000 in
theorem eqSnapS_ok {w : World} {v u : Value} {qs qs2 : List SN} {cs : List SP} (h : SNrow w v qs) (hp : SNin w qs cs) (h' : SNrow w u qs2) (hp' : SNin w qs2 cs) (hl : cs.length ≤ 1048576) (ls : ∀ k (hk : k < cs.length), cs[k].t.length ≤ 1048576) :
    Calls Try.prog 28 #[v, u] w fun e w' => e = .returned (.bool true) ∧ Below w.heap.size w w' := by
  have hq := hp.len
  have hq' := hp'.len
  by_cases hz : cs.length = 0
  · obtain ⟨a1, c1, rfl⟩ := h.sl
    obtain ⟨a2, c2, rfl⟩ := h'.sl
    have e1 : qs.length = 0 := by omega
    have e2 : qs2.length = 0 := by omega
    clear h h' hl hp hp' ls hq hq'
    rw [e1, e2]
    go_enter Try.func28, Try.ntmps28
    go_wp2
    go_loopw [5] (fun i w5 => i = .int .i64 0 ∧ w5 = w) (fun _ _ => 0)
    case atStart => exact ⟨rfl, rfl⟩
    case round =>
      obtain ⟨rfl, rfl⟩ := hrel
      go_wp2
      go_ret
      exact ⟨rfl, Below.refl _ _⟩
  · obtain ⟨g, o, cap, rfl, _, hg, hc⟩ := h.resolve_left (fun h => by rw [h.1] at hq; simp at hq; omega)
    obtain ⟨g', o', cap', rfl, _, hg', hc'⟩ := h'.resolve_left (fun h => by rw [h.1] at hq'; simp at hq'; omega)
    have HP : Hid (SNin w qs cs) := hp
    have HP' : Hid (SNin w qs2 cs) := hp'
    have HLS : Hid (∀ k (hk : k < cs.length), cs[k].t.length ≤ 1048576) := ls
    have HQ : Hid (qs.length = cs.length) := hq
    have HQ' : Hid (qs2.length = cs.length) := hq'
    rw [hq, hq']
    clear h h' hz hp hp' ls hq hq'
    go_enter Try.func28, Try.ntmps28
    go_wp2
    go_loopw [5] (fun i w5 => ∃ k : Nat, k ≤ cs.length ∧ i = .int .i64 k ∧ Below w.heap.size w w5) (fun i _ => cs.length - (intOf i).toNat)
    case atStart => exact ⟨0, Nat.zero_le _, rfl, Below.refl _ _⟩
    case round =>
      obtain ⟨k, hk, rfl, hb⟩ := hrel
      by_cases hlt : k < cs.length
      · have hkq : k < qs.length := by rw [HQ.out]; exact hlt
        have hkq' : k < qs2.length := by rw [HQ'.out]; exact hlt
        obtain ⟨d0, d1⟩ := hc.below hb hg k hkq
        obtain ⟨e0, e1⟩ := hc'.below hb hg' k hkq'
        obtain ⟨p0, p2⟩ := HP.out.el k hkq hlt
        obtain ⟨q0, q2⟩ := HP'.out.el k hkq' hlt
        have ls := HLS.out k hlt
        rw [p0] at d0
        rw [q0] at e0
        clear p0 q0
        generalize cs[k] = z at *
        generalize qs[k] = y at *
        generalize qs2[k] = x at *
        obtain ⟨yl, ys⟩ := y
        obtain ⟨xl, xs⟩ := x
        simp only at d1 e1 p2 q2
        obtain ⟨a2, k2, rfl⟩ := p2.sl
        obtain ⟨a4, k4, rfl⟩ := q2.sl
        have HE : Hid _ := fun (w' : World) (hw : Below w.heap.size w w') => eqSnap_ok (d := z.n) (p2.below hw) (q2.below hw) ls
        clear hc hc' p2 q2 ls
        have hk0 : (0 : Int) ≤ (k : Int) := by omega
        have hk1 : (k : Int) < (cs.length : Int) := by omega
        have hgw : g < wr.heap.size := Nat.lt_of_lt_of_le hg hb.size
        have hgw' : g' < wr.heap.size := Nat.lt_of_lt_of_le hg' hb.size
        have HB : Hid _ := hb
        have HBD : Hid (Below w.heap.size w wr.drew) := hb.drew
        clear hb
        go_wp2
        go_region_held3 (fun w' => w'.cell? ⟨g, o + k * 2, none⟩ = some (.string z.n) ∧ w'.cell? ⟨g, o + k * 2 + 1, none⟩ = some (.slice a2 z.t.length k2) ∧ w'.cell? ⟨g', o' + k * 2, none⟩ = some (.string z.n) ∧ w'.cell? ⟨g', o' + k * 2 + 1, none⟩ = some (.slice a4 z.t.length k4)) (go_keep) ((go_at_call 46; refine Calls.mono (HE.out wr.drew HBD.out) ?_; rintro e u5 ⟨rfl, hu5⟩; have hb5 : Below wr.heap.size wr u5 := ⟨hu5.os, hu5.tape, hu5.output, hu5.size, hu5.block⟩; have HB5 : Hid (Below wr.heap.size wr u5) := hb5; have f1 := (World.cell?_of_block (hb5.block g hgw)).trans d0; have f2 := (World.cell?_of_block (hb5.block g hgw)).trans d1; have f4 := (World.cell?_of_block (hb5.block g' hgw')).trans e0; have f5 := (World.cell?_of_block (hb5.block g' hgw')).trans e1; clear hu5 hb5))
        all_goals go_wp2
        all_goals go_roundw
        case rel => exact ⟨k + 1, hlt, by go_num, HB.out.trans (HB5.out.mono HB.out.size)⟩
        case measure => simp [intOf]; omega
      · obtain rfl : k = cs.length := by omega
        go_wp2
        go_ret
        exact ⟨rfl, hb⟩
set_option maxRecDepth 100000 in
set_option maxHeartbeats 4000000 in
theorem eqImage_ok {w : World} {m : IM} {a a2 : IA} (x : IRows w m a) (x2 : IRows w m a2) (hl : ILen m) : Calls Try.prog 8 #[imA m a, imA m a2] w fun e w' => e = .returned (.bool true) ∧ Below w.heap.size w w' := by
  obtain ⟨vc, vp, vg, qs⟩ := a
  obtain ⟨h1, h2, h3, h4⟩ := x
  obtain ⟨vc2, vp2, vg2, qs2⟩ := a2
  obtain ⟨j1, j2, j3, j4⟩ := x2
  simp only at h1 h2 h3 h4 j1 j2 j3 j4
  obtain ⟨a1, k1, rfl⟩ := h1.sl
  obtain ⟨a2, k2, rfl⟩ := h2.sl
  obtain ⟨a3, k3, rfl⟩ := h3.sl
  obtain ⟨b1, l1, rfl⟩ := j1.sl
  obtain ⟨b2, l2, rfl⟩ := j2.sl
  obtain ⟨b3, l3, rfl⟩ := j3.sl
  have H1 : Hid _ := fun (u : World) (hb : Below w.heap.size w u) => eqIS_ok (h1.below hb) (j1.below hb) hl.t
  have H2 : Hid _ := fun (u : World) (hb : Below w.heap.size w u) => eqSS_ok (h2.below hb) (j2.below hb) hl.d
  have H3 : Hid _ := fun (u : World) (hb : Below w.heap.size w u) => eqSnapS_ok (h3.below hb) (h4.below hb) (j3.below hb) (j4.below hb) hl.s hl.e
  have HE0 : Hid (E2 w ((w.alloc (.cells #[.string m.n, .string m.b, .slice a1 m.t.length k1, .slice a2 m.d.length k2, .slice a3 qs.length k3] 31)).alloc (.cells #[.string m.n, .string m.b, .slice b1 m.t.length l1, .slice b2 m.d.length l2, .slice b3 qs2.length l3] 31)) 31 #[.string m.n, .string m.b, .slice a1 m.t.length k1, .slice a2 m.d.length k2, .slice a3 qs.length k3] #[.string m.n, .string m.b, .slice b1 m.t.length l1, .slice b2 m.d.length l2, .slice b3 qs2.length l3]) := E2.new _ _ _ _
  clear h1 h2 h3 h4 j1 j2 j3 j4 hl
  unfold imA
  simp only
  go_enter Try.func8, Try.ntmps8
  go_wp2_with fail
  generalize ((w.alloc (.cells #[.string m.n, .string m.b, .slice a1 m.t.length k1, .slice a2 m.d.length k2, .slice a3 qs.length k3] 31)).alloc (.cells #[.string m.n, .string m.b, .slice b1 m.t.length l1, .slice b2 m.d.length l2, .slice b3 qs2.length l3] 31)) = u0 at *
  refine Calls.mono (H1.out _ HE0.out.bel) ?_
  rintro e u1 ⟨rfl, hb1⟩
  have HE1 : Hid (E2 w u1 31 #[.string m.n, .string m.b, .slice a1 m.t.length k1, .slice a2 m.d.length k2, .slice a3 qs.length k3] #[.string m.n, .string m.b, .slice b1 m.t.length l1, .slice b2 m.d.length l2, .slice b3 qs2.length l3]) := HE0.out.step hb1
  clear hb1 HE0
  obtain ⟨c0, c1, c2, c3, c4, _⟩ := cel5 HE1.out.b0
  obtain ⟨d0, d1, d2, d3, d4, _⟩ := cel5 HE1.out.b1
  go_wp2_with fail
  clear c0 c1 c2 c3 c4 d0 d1 d2 d3 d4
  refine Calls.mono (H2.out _ HE1.out.bel) ?_
  rintro e u2 ⟨rfl, hb2⟩
  have HE2 : Hid (E2 w u2 31 #[.string m.n, .string m.b, .slice a1 m.t.length k1, .slice a2 m.d.length k2, .slice a3 qs.length k3] #[.string m.n, .string m.b, .slice b1 m.t.length l1, .slice b2 m.d.length l2, .slice b3 qs2.length l3]) := HE1.out.step hb2
  clear hb2 HE1
  obtain ⟨c0, c1, c2, c3, c4, _⟩ := cel5 HE2.out.b0
  obtain ⟨d0, d1, d2, d3, d4, _⟩ := cel5 HE2.out.b1
  go_wp2_with fail
  clear c0 c1 c2 c3 c4 d0 d1 d2 d3 d4
  refine Calls.mono (H3.out _ HE2.out.bel) ?_
  rintro e u3 ⟨rfl, hb3⟩
  go_wp2
  go_ret
  exact ⟨rfl, HE2.out.bel.trans (hb3.mono HE2.out.bel.size)⟩

set_option maxRecDepth 100000
set_option maxHeartbeats 4000000 in
theorem szSnap_any (d : ByteArray) (q : Int) (aq : Option Addr) (m kq : Nat) (l : Int) (w : World) (h0 : 0 ≤ l) (h1 : l ≤ 1048576) (hm : m ≤ maxLen) (hd : d.size ≤ maxLen) (hq : q = if l < (d.size : Int) + m then -1 else l - ((d.size : Int) + m)) : Calls Try.prog 29 #[.agg #[.string d, .slice aq m kq], .int .i64 l] w fun e w' => e = .returned (.int .i64 q) ∧ Below w.heap.size w w' := by
  have HB : Hid (Below w.heap.size w (w.alloc (.cells #[.string d, .slice aq m kq] 55))) := (Below.refl _ _).alloc (Nat.le_refl _) _
  have hmx : maxLen ≤ 9223372036854775807 := by decide
  by_cases t2 : l < (d.size : Int)
  · have hw : IntKind.i64.wrap (l - (d.size : Int)) = l - (d.size : Int) := by rw [IntKind.wrap_i64]; omega
    have g3 : l - (d.size : Int) < 0 := by omega
    rw [if_pos (by omega)] at hq
    have HQ : Hid _ := hq
    clear hq h0 h1 hm hd
    go_enter Try.func29, Try.ntmps29
    go_wp2
    go_ret
    exact ⟨ret_int HQ.out.symm, HB.out⟩
  obtain ⟨l3, hl3⟩ : ∃ l3 : Int, l3 = l - d.size := ⟨_, rfl⟩
  have hw : IntKind.i64.wrap (l - (d.size : Int)) = l3 := by rw [IntKind.wrap_i64]; omega
  have g3 : ¬ l3 < 0 := by omega
  have HZ2 : Hid _ := fun w' => szIS_any aq m kq l3 w' (by omega) (by omega) hm
  by_cases t3 : l3 < (m : Int)
  · rw [if_pos t3] at HZ2
    rw [if_pos (by omega)] at hq
    have HQ : Hid _ := hq
    clear hq h0 h1 hm hl3 hd
    go_enter Try.func29, Try.ntmps29
    go_wp2_with (go_at_call 9; refine Calls.mono (HZ2.out _) ?_; rintro e u2 ⟨rfl, hu2⟩; rw [hu2]; clear hu2)
    go_ret
    exact ⟨ret_int HQ.out.symm, HB.out⟩
  · rw [if_neg t3] at HZ2
    obtain ⟨l4, hl4⟩ : ∃ l4 : Int, l4 = l3 - m := ⟨_, rfl⟩
    rw [← hl4] at HZ2
    have g4 : ¬ l4 < 0 := by omega
    rw [if_neg (by omega)] at hq
    have HQ : Hid (l4 = q) := (show l4 = q by omega)
    clear hq h0 h1 hm hl3 hl4 hd
    go_enter Try.func29, Try.ntmps29
    go_wp2_with (go_at_call 9; refine Calls.mono (HZ2.out _) ?_; rintro e u2 ⟨rfl, hu2⟩; rw [hu2]; clear hu2)
    go_ret
    exact ⟨ret_int HQ.out, HB.out⟩
/-- How much guests hold. -/
def totP : List SP → Int
  | [] => 0
  | c :: cs => (c.n.size : Int) + c.t.length + totP cs
theorem totP_nn (cs : List SP) : 0 ≤ totP cs := by
  induction cs with
  | nil => exact Int.le_refl _
  | cons c cs ih => unfold totP; omega
theorem totP_el (cs : List SP) (k : Nat) (hk : k < cs.length) : (cs[k].n.size : Int) + cs[k].t.length ≤ totP cs := by
  induction cs generalizing k with
  | nil => simp at hk
  | cons c cs ih =>
    have := totP_nn cs
    cases k with
    | zero => show (c.n.size : Int) + c.t.length ≤ _; unfold totP; omega
    | succ k =>
      have hk2 : k < cs.length := by simpa using hk
      have h2 := ih k hk2
      show (cs[k].n.size : Int) + cs[k].t.length ≤ _
      unfold totP
      omega
theorem totP_drop (cs : List SP) (k : Nat) (hk : k < cs.length) : totP (cs.drop k) = (cs[k].n.size : Int) + cs[k].t.length + totP (cs.drop (k + 1)) := by
  rw [List.drop_eq_getElem_cons hk]
  rfl
set_option maxRecDepth 100000 in
set_option maxHeartbeats 4000000 in
theorem szSnapS_any {w : World} {v : Value} {qs : List SN} {cs : List SP} (h : SNrow w v qs) (hp : SNin w qs cs) (l : Int) (h0 : 0 ≤ l) (h1 : l ≤ 1048576) (hm : cs.length ≤ maxLen) (hs : ∀ k (hk : k < cs.length), cs[k].t.length ≤ maxLen ∧ cs[k].n.size ≤ maxLen) (q : Int) (hq : q = if l < (cs.length : Int) + totP cs then -1 else l - ((cs.length : Int) + totP cs)) : Calls Try.prog 11 #[v, .int .i64 l] w fun e w' => e = .returned (.int .i64 q) ∧ Below w.heap.size w w' := by
  obtain ⟨ao, cap, rfl⟩ := h.sl
  have hlq := hp.len
  have HR : Hid (SNrow w (.slice ao cs.length cap) qs) := (show SNrow w (.slice ao cs.length cap) qs by rw [← hlq]; exact h)
  have HP : Hid (SNin w qs cs) := hp
  have HLQ : Hid (qs.length = cs.length) := hlq
  have HS : Hid (∀ k (hk : k < cs.length), cs[k].t.length ≤ maxLen ∧ cs[k].n.size ≤ maxLen) := hs
  rw [hlq]
  have hnn := totP_nn cs
  have hmx : maxLen ≤ 9223372036854775807 := by decide
  clear h hp hlq hs
  by_cases t1 : l < (cs.length : Int)
  · rw [if_pos (by omega)] at hq
    have HQ : Hid _ := hq
    have hw : IntKind.i64.wrap (l - (cs.length : Int)) = l - (cs.length : Int) := by rw [IntKind.wrap_i64]; omega
    have g1 : l - (cs.length : Int) < 0 := by omega
    clear hq hnn hm hmx h0 h1
    go_enter Try.func11, Try.ntmps11
    go_wp2
    go_ret
    exact ⟨ret_int HQ.out.symm, Below.refl _ _⟩
  · obtain ⟨l2, hl2⟩ : ∃ l2 : Int, l2 = l - cs.length := ⟨_, rfl⟩
    have hw : IntKind.i64.wrap (l - (cs.length : Int)) = l2 := by rw [IntKind.wrap_i64]; omega
    have g1 : ¬ l2 < 0 := by omega
    have HQ : Hid (q = if l2 < totP cs then -1 else l2 - totP cs) := (show q = if l2 < totP cs then -1 else l2 - totP cs by
      rw [hq]
      by_cases t : l2 < totP cs
      · rw [if_pos t, if_pos (by omega)]
      · rw [if_neg t, if_neg (by omega)]; omega)
    have hl2m : l2 ≤ 1048576 := by omega
    have hcl : cs.length ≤ 1048576 := by omega
    clear hq hl2
    go_enter Try.func11, Try.ntmps11
    go_wp2
    go_loopw [1, 5] (fun x i wr => ∃ (k : Nat) (y : Int), k ≤ cs.length ∧ i = .int .i64 k ∧ x = .int .i64 y ∧ 0 ≤ y ∧ y ≤ 1048576 ∧ (q = if y < totP (cs.drop k) then -1 else y - totP (cs.drop k)) ∧ Below w.heap.size w wr) (fun _ i _ => cs.length - (intOf i).toNat)
    case atStart => exact ⟨0, l2, Nat.zero_le _, rfl, rfl, by omega, by omega, by rw [List.drop_zero]; exact HQ.out, Below.refl _ _⟩
    case round =>
      obtain ⟨k, y, hk, rfl, rfl, y0, y1, hy, hb⟩ := hrel
      have HB : Hid _ := hb
      by_cases hlt : k < cs.length
      · have hltq : k < qs.length := by rw [HLQ.out]; exact hlt
        obtain ⟨g, o, cap2, hv, _, hg, hc⟩ := HR.out.resolve_left (fun h => by rw [h.1] at hltq; simp at hltq)
        injection hv with hv1 hv2 hv3
        subst hv1 hv3
        clear hv2
        obtain ⟨d0, d1⟩ := hc.below hb hg k hltq
        obtain ⟨e0, e2⟩ := HP.out.el k hltq hlt
        obtain ⟨m2, m3⟩ := HS.out k hlt
        rw [e0] at d0
        have hd := totP_drop cs k hlt
        have hnd := totP_nn (cs.drop (k + 1))
        clear e0
        generalize cs[k] = z at *
        generalize qs[k] = x at *
        obtain ⟨xl, xs⟩ := x
        simp only at d1 e2
        obtain ⟨aq, kq, rfl⟩ := e2.sl
        have hk0 : (0 : Int) ≤ (k : Int) := by omega
        have hk1 : (k : Int) < (cs.length : Int) := by omega
        have HZ : Hid _ := szSnap_any z.n _ aq z.t.length kq y wr y0 y1 m2 m3 rfl
        clear hc hb e2 m2 m3
        by_cases t : y < (z.n.size : Int) + z.t.length
        · rw [if_pos t] at HZ
          have HQ2 : Hid (q = -1) := (show q = -1 by rw [hy, if_pos (by omega)])
          clear hy hd hnd t
          go_wp2_with (go_at_call 29; refine Calls.mono HZ.out ?_; rintro e u1 ⟨rfl, hu1⟩; have HB1 : Hid (Below w.heap.size w u1) := HB.out.trans (hu1.mono HB.out.size); clear hu1)
          go_ret
          exact ⟨ret_int HQ2.out.symm, HB1.out⟩
        · rw [if_neg t] at HZ
          obtain ⟨y2, hy2⟩ : ∃ y2 : Int, y2 = y - ((z.n.size : Int) + z.t.length) := ⟨_, rfl⟩
          rw [← hy2] at HZ
          have g4 : ¬ y2 < 0 := by omega
          have HQ2 : Hid (q = if y2 < totP (cs.drop (k + 1)) then -1 else y2 - totP (cs.drop (k + 1))) := (show q = if y2 < totP (cs.drop (k + 1)) then -1 else y2 - totP (cs.drop (k + 1)) by
            by_cases t9 : y2 < totP (cs.drop (k + 1))
            · rw [if_pos t9, hy, if_pos (by omega)]
            · rw [if_neg t9, hy, if_neg (by omega)]; omega)
          have HY : Hid (0 ≤ y2 ∧ y2 ≤ 1048576) := (show 0 ≤ y2 ∧ y2 ≤ 1048576 by omega)
          clear hy hd hnd t hy2
          go_wp2_with (go_at_call 29; refine Calls.mono HZ.out ?_; rintro e u1 ⟨rfl, hu1⟩; have HB1 : Hid (Below w.heap.size w u1) := HB.out.trans (hu1.mono HB.out.size); clear hu1)
          go_roundw
          case rel => exact ⟨k + 1, y2, hlt, by go_num, rfl, HY.out.1, HY.out.2, HQ2.out, HB1.out⟩
          case measure => simp [intOf]; omega
      · obtain rfl : k = cs.length := by omega
        have HQ2 : Hid (q = y) := (show q = y by rw [hy, List.drop_length]; show (if y < 0 then (-1 : Int) else y - 0) = y; rw [if_neg (by omega)]; omega)
        clear hy
        go_wp2
        go_ret
        exact ⟨ret_int HQ2.out.symm, hb⟩

set_option maxRecDepth 100000
/-- How much an image holds. -/
def totI (m : IM) : Int := (m.n.size : Int) + m.b.size + m.t.length + ((m.d.length : Int) + totS m.d) + ((m.s.length : Int) + totP m.s)
structure IMax (m : IM) : Prop where
  n : m.n.size ≤ maxLen
  b : m.b.size ≤ maxLen
  t : m.t.length ≤ maxLen
  d : m.d.length ≤ maxLen
  db : ∀ z ∈ m.d, z.size ≤ maxLen
  s : m.s.length ≤ maxLen
  e : ∀ k (hk : k < m.s.length), m.s[k].t.length ≤ maxLen ∧ m.s[k].n.size ≤ maxLen
theorem totI_nn (m : IM) : 0 ≤ totI m := by
  unfold totI
  have := totS_nn m.d
  have := totP_nn m.s
  omega
theorem totI_len {m : IM} (x : totI m ≤ 1048576) : ILen m := by
  unfold totI at x
  have h3 := totS_nn m.d
  have h5 := totP_nn m.s
  refine ⟨by omega, by omega, by omega, fun k hk => ?_⟩
  have := totP_el m.s k hk
  omega
/-- A law's image in its box. -/
structure IBx (w u : World) (m : IM) (a : IA) : Prop where
  bel : Below w.heap.size w u
  box : u.heap[w.heap.size]? = some (.cells #[.string m.n, .string m.b, a.vt, a.vd, a.vs] 26 (0, 0))
  row : IRows u m a
theorem IBx.lt {w u : World} {m : IM} {a : IA} (x : IBx w u m a) : w.heap.size < u.heap.size := (Array.getElem?_eq_some_iff.1 x.box).1
theorem IBx.step {w u u' : World} {m : IM} {a : IA} (x : IBx w u m a) (hb : Below u.heap.size u u') : IBx w u' m a := ⟨x.bel.trans (hb.mono x.bel.size), (hb.block _ x.lt).trans x.box, x.row.below hb⟩
theorem IBx.new {w : World} {m : IM} {a : IA} (x : IRows w m a) : IBx w (w.alloc (.cells #[.string m.n, .string m.b, a.vt, a.vd, a.vs] 26)) m a := ⟨(Below.refl _ _).alloc (Nat.le_refl _) _, heap_new _ _, x.below ((Below.refl _ _).alloc (Nat.le_refl _) _)⟩
theorem IBx.cel {w u : World} {m : IM} {a : IA} (x : IBx w u m a) : u.cell? ⟨w.heap.size, 0, none⟩ = some (.string m.n) ∧ u.cell? ⟨w.heap.size, 1, none⟩ = some (.string m.b) ∧ u.cell? ⟨w.heap.size, 2, none⟩ = some a.vt ∧ u.cell? ⟨w.heap.size, 3, none⟩ = some a.vd ∧ u.cell? ⟨w.heap.size, 4, none⟩ = some a.vs := by
  have := x.box
  simp [World.cell?, this]
set_option maxHeartbeats 4000000 in
theorem szImage_any {w : World} {m : IM} {a : IA} (x : IRows w m a) (hm : IMax m) (l : Int) (h0 : 0 ≤ l) (h1 : l ≤ 1048576) (q : Int) (hq : q = if l < totI m then -1 else l - totI m) : Calls Try.prog 4 #[imA m a, .int .i64 l] w fun e w' => e = .returned (.int .i64 q) ∧ Below w.heap.size w w' := by
  obtain ⟨al, kl, el⟩ := x.t.sl
  obtain ⟨am, km, em⟩ := x.d.sl
  obtain ⟨ac, kc, ec⟩ := x.sn.sl
  obtain ⟨vc, vp, vg, qs⟩ := a
  simp only at el ec em
  subst el ec em
  have HX : Hid (IBx w (w.alloc (.cells #[.string m.n, .string m.b, .slice al m.t.length kl, .slice am m.d.length km, .slice ac qs.length kc] 26)) m ⟨.slice al m.t.length kl, .slice am m.d.length km, .slice ac qs.length kc, qs⟩) := IBx.new x
  have n1 := totS_nn m.d
  have n2 := totP_nn m.s
  have hmx : maxLen ≤ 9223372036854775807 := by decide
  have z1 := hm.n
  have z2 := hm.b
  have z3 := hm.t
  have HZ1 : Hid _ := fun (u : World) (l : Int) h0 h1 => szIS_any al m.t.length kl l u h0 h1 z3
  have HZ2 : Hid _ := fun (u : World) (y : IBx w u m ⟨.slice al m.t.length kl, .slice am m.d.length km, .slice ac qs.length kc, qs⟩) (l q : Int) h0 h1 hq => szSS_any y.row.d l h0 h1 hm.d hm.db q hq
  have HZ3 : Hid _ := fun (u : World) (y : IBx w u m ⟨.slice al m.t.length kl, .slice am m.d.length km, .slice ac qs.length kc, qs⟩) (l q : Int) h0 h1 hq => szSnapS_any y.row.sn y.row.si l h0 h1 hm.s hm.e q hq
  unfold imA
  simp only at HZ2 HZ3 ⊢
  have HQ : Hid (q = if l < totI m then -1 else l - totI m) := hq
  clear hq
  unfold totI at HQ
  generalize totS m.d = S1 at *
  generalize totP m.s = S2 at *
  by_cases t1 : l < (m.n.size : Int)
  · have hw : IntKind.i64.wrap (l - (m.n.size : Int)) = l - (m.n.size : Int) := by rw [IntKind.wrap_i64]; omega
    have g3 : l - (m.n.size : Int) < 0 := by omega
    have HR : Hid (q = -1) := (show q = -1 by rw [HQ.out, if_pos (by omega)])
    clear h0 h1 n1 n2 z1 z2 z3 HZ1 HZ2 HZ3
    go_enter Try.func4, Try.ntmps4
    go_wp2
    go_ret
    exact ⟨ret_int HR.out.symm, HX.out.bel⟩
  obtain ⟨l1, hl1⟩ : ∃ l1 : Int, l1 = l - m.n.size := ⟨_, rfl⟩
  have hw1 : IntKind.i64.wrap (l - (m.n.size : Int)) = l1 := by rw [IntKind.wrap_i64]; omega
  have g1 : ¬ l1 < 0 := by omega
  by_cases t2 : l1 < (m.b.size : Int)
  · have hw : IntKind.i64.wrap (l1 - (m.b.size : Int)) = l1 - (m.b.size : Int) := by rw [IntKind.wrap_i64]; omega
    have g3 : l1 - (m.b.size : Int) < 0 := by omega
    have HR : Hid (q = -1) := (show q = -1 by rw [HQ.out, if_pos (by omega)])
    clear h0 h1 n1 n2 z1 z2 z3 HZ1 HZ2 HZ3 hl1
    go_enter Try.func4, Try.ntmps4
    go_wp2
    go_ret
    exact ⟨ret_int HR.out.symm, HX.out.bel⟩
  obtain ⟨l2, hl2⟩ : ∃ l2 : Int, l2 = l1 - m.b.size := ⟨_, rfl⟩
  have hw2 : IntKind.i64.wrap (l1 - (m.b.size : Int)) = l2 := by rw [IntKind.wrap_i64]; omega
  have g2 : ¬ l2 < 0 := by omega
  have HK : Hid (0 ≤ l2 ∧ l2 ≤ 1048576 ∧ 0 ≤ S1 ∧ 0 ≤ S2 ∧ q = if l2 < m.t.length + ((m.d.length : Int) + S1) + ((m.s.length : Int) + S2) then -1 else l2 - (m.t.length + ((m.d.length : Int) + S1) + ((m.s.length : Int) + S2))) := (show _ from by
    refine ⟨by omega, by omega, n1, n2, ?_⟩
    rw [HQ.out]
    by_cases t : l2 < m.t.length + ((m.d.length : Int) + S1) + ((m.s.length : Int) + S2)
    · rw [if_pos t, if_pos (by omega)]
    · rw [if_neg t, if_neg (by omega)]; omega)
  clear HQ h0 h1 n1 n2 z1 z2 z3 hl1 hl2 t1 t2
  go_enter Try.func4, Try.ntmps4
  go_wp2_with fail
  clear hw1 hw2 g1 g2
  generalize (w.alloc (.cells #[.string m.n, .string m.b, .slice al m.t.length kl, .slice am m.d.length km, .slice ac qs.length kc] 26)) = u0 at *
  obtain ⟨k1, k2, k3, k4, k5⟩ := HK.out
  have HS : Hid (0 ≤ S1 ∧ 0 ≤ S2) := ⟨k3, k4⟩
  by_cases t3 : l2 < (m.t.length : Int)
  · have hz := HZ1.out u0 l2 k1 k2
    rw [if_pos t3] at hz
    refine Calls.mono hz ?_
    rintro e u1 ⟨rfl, hu⟩
    rw [hu]
    have HR : Hid (q = -1) := (show q = -1 by rw [k5, if_pos (by omega)])
    clear hz hu k1 k2 k3 k4 k5 t3
    go_wp2_with fail
    go_ret
    exact ⟨ret_int HR.out.symm, HX.out.bel⟩
  have hz := HZ1.out u0 l2 k1 k2
  rw [if_neg t3] at hz
  obtain ⟨l3, hl3⟩ : ∃ l3 : Int, l3 = l2 - m.t.length := ⟨_, rfl⟩
  rw [← hl3] at hz
  refine Calls.mono hz ?_
  rintro e u1 ⟨rfl, hu⟩
  rw [hu]
  have g3 : ¬ l3 < 0 := by omega
  have HK3 : Hid (0 ≤ l3 ∧ l3 ≤ 1048576 ∧ q = if l3 < ((m.d.length : Int) + S1) + ((m.s.length : Int) + S2) then -1 else l3 - (((m.d.length : Int) + S1) + ((m.s.length : Int) + S2))) := (show _ from by
    refine ⟨by omega, by omega, ?_⟩
    rw [k5]
    by_cases t : l3 < ((m.d.length : Int) + S1) + ((m.s.length : Int) + S2)
    · rw [if_pos t, if_pos (by omega)]
    · rw [if_neg t, if_neg (by omega)]; omega)
  clear hz hu k1 k2 k3 k4 k5 t3 hl3 HK HZ1
  obtain ⟨c0, c1, c2, c3, c4⟩ := HX.out.cel
  simp only at c0 c1 c2 c3 c4
  have lt1 := HX.out.lt
  go_wp2_with fail
  clear c0 c1 c2 c3 c4 lt1 g3
  obtain ⟨k1, k2, k5⟩ := HK3.out
  obtain ⟨k3, k4⟩ := HS.out
  by_cases t2 : l3 < (m.d.length : Int) + S1
  · refine Calls.mono (HZ2.out _ HX.out l3 (-1) k1 k2 (by rw [if_pos t2])) ?_
    rintro e u2 ⟨rfl, hb⟩
    have HX2 : Hid (IBx w u2 m ⟨.slice al m.t.length kl, .slice am m.d.length km, .slice ac qs.length kc, qs⟩) := HX.out.step hb
    have HR : Hid (q = -1) := (show q = -1 by rw [k5, if_pos (by omega)])
    clear hb k1 k2 k3 k4 k5 t2
    go_wp2_with fail
    go_ret
    exact ⟨ret_int HR.out.symm, HX2.out.bel⟩
  obtain ⟨l4, hl4⟩ : ∃ l4 : Int, l4 = l3 - ((m.d.length : Int) + S1) := ⟨_, rfl⟩
  refine Calls.mono (HZ2.out _ HX.out l3 l4 k1 k2 (by rw [if_neg t2, hl4])) ?_
  rintro e u2 ⟨rfl, hb⟩
  have HX2 : Hid (IBx w u2 m ⟨.slice al m.t.length kl, .slice am m.d.length km, .slice ac qs.length kc, qs⟩) := HX.out.step hb
  have g4 : ¬ l4 < 0 := by omega
  have HK4 : Hid (0 ≤ l4 ∧ l4 ≤ 1048576 ∧ q = if l4 < (m.s.length : Int) + S2 then -1 else l4 - ((m.s.length : Int) + S2)) := (show _ from by
    refine ⟨by omega, by omega, ?_⟩
    rw [k5]
    by_cases t : l4 < (m.s.length : Int) + S2
    · rw [if_pos t, if_pos (by omega)]
    · rw [if_neg t, if_neg (by omega)]; omega)
  clear hb k1 k2 k3 k4 k5 t2 hl4 HK3 HX HZ2
  obtain ⟨c0, c1, c2, c3, c4⟩ := HX2.out.cel
  simp only at c0 c1 c2 c3 c4
  have lt1 := HX2.out.lt
  go_wp2_with fail
  clear c0 c1 c2 c3 c4 lt1 g4
  obtain ⟨k1, k2, k5⟩ := HK4.out
  obtain ⟨k3, k4⟩ := HS.out
  by_cases t3 : l4 < (m.s.length : Int) + S2
  · refine Calls.mono (HZ3.out _ HX2.out l4 (-1) k1 k2 (by rw [if_pos t3])) ?_
    rintro e u3 ⟨rfl, hb⟩
    have HX3 : Hid (IBx w u3 m ⟨.slice al m.t.length kl, .slice am m.d.length km, .slice ac qs.length kc, qs⟩) := HX2.out.step hb
    have HR : Hid (q = -1) := (show q = -1 by rw [k5, if_pos t3])
    clear hb k1 k2 k3 k4 k5 t3
    go_wp2_with fail
    go_ret
    exact ⟨ret_int HR.out.symm, HX3.out.bel⟩
  obtain ⟨l5, hl5⟩ : ∃ l5 : Int, l5 = l4 - ((m.s.length : Int) + S2) := ⟨_, rfl⟩
  refine Calls.mono (HZ3.out _ HX2.out l4 l5 k1 k2 (by rw [if_neg t3, hl5])) ?_
  rintro e u3 ⟨rfl, hb⟩
  have HX3 : Hid (IBx w u3 m ⟨.slice al m.t.length kl, .slice am m.d.length km, .slice ac qs.length kc, qs⟩) := HX2.out.step hb
  have g5 : ¬ l5 < 0 := by omega
  have HR : Hid (q = l5) := (show q = l5 by rw [k5, if_neg t3, hl5])
  clear hb k1 k2 k3 k4 k5 t3 hl5
  go_wp2_with fail
  go_ret
  exact ⟨ret_int HR.out.symm, HX3.out.bel⟩
end Go.Proofs.Ytaobbddecmhpnaa
