import Derived.Test.YtmaknoakknpopaaIm3
namespace Go.Proofs.Ytmaknoakknpopaa
open Go.ChangeShapes Go.WideShapes Go.ChangeAt Go.RowKit

/-- Two boxes. -/
structure E2 (w u : World) (t : TypeId) (A A2 : Array Value) : Prop where
  bel : Below w.heap.size w u
  b0 : u.heap[w.heap.size]? = some (.cells A t (0, 0))
  b1 : u.heap[w.heap.size + 1]? = some (.cells A2 t (0, 0))
theorem E2.lt {w u : World} {t : TypeId} {A A2 : Array Value} (h : E2 w u t A A2) : w.heap.size + 1 < u.heap.size := (Array.getElem?_eq_some_iff.1 h.b1).1
theorem E2.step {w u u' : World} {t : TypeId} {A A2 : Array Value} (h : E2 w u t A A2) (hb : Below u.heap.size u u') : E2 w u' t A A2 := by
  have := h.lt
  exact ⟨h.bel.trans (hb.mono h.bel.size), (hb.block _ (by omega)).trans h.b0, (hb.block _ (by omega)).trans h.b1⟩
theorem E2.new (w : World) (t : TypeId) (A A2 : Array Value) : E2 w ((w.alloc (.cells A t)).alloc (.cells A2 t)) t A A2 :=
  ⟨((Below.refl _ _).alloc (Nat.le_refl _) _).alloc (by simp) _, (Below.heap_alloc _ _ _ (by simp)).trans (heap_new _ _), by simpa using heap_new (w.alloc (.cells A t)) (.cells A2 t)⟩
set_option maxRecDepth 100000 in
set_option maxHeartbeats 4000000 in
theorem eqSnap_ok {w : World} {d : ByteArray} {s s2 : Value} {ss : List Int} (h2 : Irow w s ss) (h4 : Irow w s2 ss) (ls : ss.length ≤ 1048576) : Calls Try.prog 64 #[.agg #[.string d, s], .agg #[.string d, s2]] w fun e w' => e = .returned (.bool true) ∧ Below w.heap.size w w' := by
  obtain ⟨a2, k2, rfl⟩ := h2.sl
  obtain ⟨a4, k4, rfl⟩ := h4.sl
  have H2 : Hid (Irow w (.slice a2 ss.length k2) ss) := h2
  have H4 : Hid (Irow w (.slice a4 ss.length k4) ss) := h4
  have HE0 : Hid (E2 w ((w.alloc (.cells #[.string d, .slice a2 ss.length k2] 56)).alloc (.cells #[.string d, .slice a4 ss.length k4] 56)) 56 #[.string d, .slice a2 ss.length k2] #[.string d, .slice a4 ss.length k4]) := E2.new _ _ _ _
  clear h2 h4
  go_enter Try.func64, Try.ntmps64
  go_wp2_with fail
  generalize ((w.alloc (.cells #[.string d, .slice a2 ss.length k2] 56)).alloc (.cells #[.string d, .slice a4 ss.length k4] 56)) = u0 at *
  refine Calls.mono (eqIS_ok (H2.out.below HE0.out.bel) (H4.out.below HE0.out.bel) ls) ?_
  rintro e u2 ⟨rfl, hb2⟩
  go_wp2
  go_ret
  exact ⟨rfl, HE0.out.bel.trans (hb2.mono HE0.out.bel.size)⟩
set_option maxRecDepth 100000 in
set_option maxHeartbeats 4000000 in
theorem eqSnapS_ok {w : World} {v u : Value} {qs qs2 : List SN} {cs : List SP} (h : SNrow w v qs) (hp : SNin w qs cs) (h' : SNrow w u qs2) (hp' : SNin w qs2 cs) (hl : cs.length ≤ 1048576) (ls : ∀ k (hk : k < cs.length), cs[k].t.length ≤ 1048576) :
    Calls Try.prog 37 #[v, u] w fun e w' => e = .returned (.bool true) ∧ Below w.heap.size w w' := by
  have hq := hp.len
  have hq' := hp'.len
  by_cases hz : cs.length = 0
  · obtain ⟨a1, c1, rfl⟩ := h.sl
    obtain ⟨a2, c2, rfl⟩ := h'.sl
    have e1 : qs.length = 0 := by omega
    have e2 : qs2.length = 0 := by omega
    clear h h' hl hp hp' ls hq hq'
    rw [e1, e2]
    go_enter Try.func37, Try.ntmps37
    go_wp2
    go_loopw [5] (fun i w5 => i = .int .i64 0 ∧ w5 = w) (fun _ _ => 0)
    case atStart => exact ⟨rfl, rfl⟩
    case round =>
      obtain ⟨rfl, rfl⟩ := hrel
      go_wp2
      go_ret
      exact ⟨rfl, Below.refl _ _⟩
  · obtain ⟨g, o, cap, rfl, _, hg, hc⟩ := h.resolve_left (fun h => by rw [h.1] at hq; simp at hq; omega)
    obtain ⟨g', o', cap', rfl, _, hg', hc'⟩ := h'.resolve_left (fun h => by rw [h.1] at hq'; simp at hq'; omega)
    have HP : Hid (SNin w qs cs) := hp
    have HP' : Hid (SNin w qs2 cs) := hp'
    have HLS : Hid (∀ k (hk : k < cs.length), cs[k].t.length ≤ 1048576) := ls
    have HQ : Hid (qs.length = cs.length) := hq
    have HQ' : Hid (qs2.length = cs.length) := hq'
    rw [hq, hq']
    clear h h' hz hp hp' ls hq hq'
    go_enter Try.func37, Try.ntmps37
    go_wp2
    go_loopw [5] (fun i w5 => ∃ k : Nat, k ≤ cs.length ∧ i = .int .i64 k ∧ Below w.heap.size w w5) (fun i _ => cs.length - (intOf i).toNat)
    case atStart => exact ⟨0, Nat.zero_le _, rfl, Below.refl _ _⟩
    case round =>
      obtain ⟨k, hk, rfl, hb⟩ := hrel
      by_cases hlt : k < cs.length
      · have hkq : k < qs.length := by rw [HQ.out]; exact hlt
        have hkq' : k < qs2.length := by rw [HQ'.out]; exact hlt
        obtain ⟨d0, d1⟩ := hc.below hb hg k hkq
        obtain ⟨e0, e1⟩ := hc'.below hb hg' k hkq'
        obtain ⟨p0, p2⟩ := HP.out.el k hkq hlt
        obtain ⟨q0, q2⟩ := HP'.out.el k hkq' hlt
        have ls := HLS.out k hlt
        rw [p0] at d0
        rw [q0] at e0
        clear p0 q0
        generalize cs[k] = z at *
        generalize qs[k] = y at *
        generalize qs2[k] = x at *
        obtain ⟨yl, ys⟩ := y
        obtain ⟨xl, xs⟩ := x
        simp only at d1 e1 p2 q2
        obtain ⟨a2, k2, rfl⟩ := p2.sl
        obtain ⟨a4, k4, rfl⟩ := q2.sl
        have HE : Hid _ := fun (w' : World) (hw : Below w.heap.size w w') => eqSnap_ok (d := z.n) (p2.below hw) (q2.below hw) ls
        clear hc hc' p2 q2 ls
        have hk0 : (0 : Int) ≤ (k : Int) := by omega
        have hk1 : (k : Int) < (cs.length : Int) := by omega
        have hgw : g < wr.heap.size := Nat.lt_of_lt_of_le hg hb.size
        have hgw' : g' < wr.heap.size := Nat.lt_of_lt_of_le hg' hb.size
        have HB : Hid _ := hb
        have HBD : Hid (Below w.heap.size w wr.drew) := hb.drew
        clear hb
        go_wp2
        go_region_held3 (fun w' => w'.cell? ⟨g, o + k * 2, none⟩ = some (.string z.n) ∧ w'.cell? ⟨g, o + k * 2 + 1, none⟩ = some (.slice a2 z.t.length k2) ∧ w'.cell? ⟨g', o' + k * 2, none⟩ = some (.string z.n) ∧ w'.cell? ⟨g', o' + k * 2 + 1, none⟩ = some (.slice a4 z.t.length k4)) (go_keep) ((go_at_call 64; refine Calls.mono (HE.out wr.drew HBD.out) ?_; rintro e u5 ⟨rfl, hu5⟩; have hb5 : Below wr.heap.size wr u5 := ⟨hu5.os, hu5.tape, hu5.output, hu5.size, hu5.block⟩; have HB5 : Hid (Below wr.heap.size wr u5) := hb5; have f1 := (World.cell?_of_block (hb5.block g hgw)).trans d0; have f2 := (World.cell?_of_block (hb5.block g hgw)).trans d1; have f4 := (World.cell?_of_block (hb5.block g' hgw')).trans e0; have f5 := (World.cell?_of_block (hb5.block g' hgw')).trans e1; clear hu5 hb5))
        all_goals go_wp2
        all_goals go_roundw
        case rel => exact ⟨k + 1, hlt, by go_num, HB.out.trans (HB5.out.mono HB.out.size)⟩
        case measure => simp [intOf]; omega
      · obtain rfl : k = cs.length := by omega
        go_wp2
        go_ret
        exact ⟨rfl, hb⟩
set_option maxRecDepth 100000 in
set_option maxHeartbeats 4000000 in
theorem eqImage_ok {w : World} {m : IM} {a a2 : IA} (x : IRows w m a) (x2 : IRows w m a2) (hl : ILen m) : Calls Try.prog 12 #[imA m a, imA m a2] w fun e w' => e = .returned (.bool true) ∧ Below w.heap.size w w' := by
  obtain ⟨vc, vp, vg, qs⟩ := a
  obtain ⟨h1, h2, h3, h4⟩ := x
  obtain ⟨vc2, vp2, vg2, qs2⟩ := a2
  obtain ⟨j1, j2, j3, j4⟩ := x2
  simp only at h1 h2 h3 h4 j1 j2 j3 j4
  obtain ⟨a1, k1, rfl⟩ := h1.sl
  obtain ⟨a2, k2, rfl⟩ := h2.sl
  obtain ⟨a3, k3, rfl⟩ := h3.sl
  obtain ⟨b1, l1, rfl⟩ := j1.sl
  obtain ⟨b2, l2, rfl⟩ := j2.sl
  obtain ⟨b3, l3, rfl⟩ := j3.sl
  have H1 : Hid _ := fun (u : World) (hb : Below w.heap.size w u) => eqIS_ok (h1.below hb) (j1.below hb) hl.t
  have H2 : Hid _ := fun (u : World) (hb : Below w.heap.size w u) => eqSS_ok (h2.below hb) (j2.below hb) hl.d
  have H3 : Hid _ := fun (u : World) (hb : Below w.heap.size w u) => eqSnapS_ok (h3.below hb) (h4.below hb) (j3.below hb) (j4.below hb) hl.s hl.e
  have HE0 : Hid (E2 w ((w.alloc (.cells #[.string m.n, .string m.b, .slice a1 m.t.length k1, .slice a2 m.d.length k2, .slice a3 qs.length k3] 31)).alloc (.cells #[.string m.n, .string m.b, .slice b1 m.t.length l1, .slice b2 m.d.length l2, .slice b3 qs2.length l3] 31)) 31 #[.string m.n, .string m.b, .slice a1 m.t.length k1, .slice a2 m.d.length k2, .slice a3 qs.length k3] #[.string m.n, .string m.b, .slice b1 m.t.length l1, .slice b2 m.d.length l2, .slice b3 qs2.length l3]) := E2.new _ _ _ _
  clear h1 h2 h3 h4 j1 j2 j3 j4 hl
  unfold imA
  simp only
  go_enter Try.func12, Try.ntmps12
  go_wp2_with fail
  generalize ((w.alloc (.cells #[.string m.n, .string m.b, .slice a1 m.t.length k1, .slice a2 m.d.length k2, .slice a3 qs.length k3] 31)).alloc (.cells #[.string m.n, .string m.b, .slice b1 m.t.length l1, .slice b2 m.d.length l2, .slice b3 qs2.length l3] 31)) = u0 at *
  refine Calls.mono (H1.out _ HE0.out.bel) ?_
  rintro e u1 ⟨rfl, hb1⟩
  have HE1 : Hid (E2 w u1 31 #[.string m.n, .string m.b, .slice a1 m.t.length k1, .slice a2 m.d.length k2, .slice a3 qs.length k3] #[.string m.n, .string m.b, .slice b1 m.t.length l1, .slice b2 m.d.length l2, .slice b3 qs2.length l3]) := HE0.out.step hb1
  clear hb1 HE0
  obtain ⟨c0, c1, c2, c3, c4, _⟩ := cel5 HE1.out.b0
  obtain ⟨d0, d1, d2, d3, d4, _⟩ := cel5 HE1.out.b1
  go_wp2_with fail
  clear c0 c1 c2 c3 c4 d0 d1 d2 d3 d4
  refine Calls.mono (H2.out _ HE1.out.bel) ?_
  rintro e u2 ⟨rfl, hb2⟩
  have HE2 : Hid (E2 w u2 31 #[.string m.n, .string m.b, .slice a1 m.t.length k1, .slice a2 m.d.length k2, .slice a3 qs.length k3] #[.string m.n, .string m.b, .slice b1 m.t.length l1, .slice b2 m.d.length l2, .slice b3 qs2.length l3]) := HE1.out.step hb2
  clear hb2 HE1
  obtain ⟨c0, c1, c2, c3, c4, _⟩ := cel5 HE2.out.b0
  obtain ⟨d0, d1, d2, d3, d4, _⟩ := cel5 HE2.out.b1
  go_wp2_with fail
  clear c0 c1 c2 c3 c4 d0 d1 d2 d3 d4
  refine Calls.mono (H3.out _ HE2.out.bel) ?_
  rintro e u3 ⟨rfl, hb3⟩
  go_wp2
  go_ret
  exact ⟨rfl, HE2.out.bel.trans (hb3.mono HE2.out.bel.size)⟩
end Go.Proofs.Ytmaknoakknpopaa
