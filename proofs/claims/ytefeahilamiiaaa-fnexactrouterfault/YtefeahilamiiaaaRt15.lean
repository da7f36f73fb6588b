import Derived.Test.YtefeahilamiiaaaRt14
namespace Go.Proofs.Ytefeahilamiiaaa
open Go.ChangeShapes Go.WideShapes Go.ChangeAt Go.RowKit

set_option maxRecDepth 100000 in
set_option maxHeartbeats 4000000 in
theorem eqCpuS_ok {w : World} {v u : Value} {qs qs2 : List CQ} {cs : List CP} (h : CQrow w v qs) (hp : CPin w qs cs) (h' : CQrow w u qs2) (hp' : CPin w qs2 cs) (hl : cs.length ≤ 1048576) (lp : ∀ k (hk : k < cs.length), cs[k].ps.length ≤ 1048576) (ls : ∀ k (hk : k < cs.length), cs[k].ss.length ≤ 1048576) :
    Calls Try.prog 27 #[v, u] w fun e w' => e = .returned (.bool true) ∧ Below w.heap.size w w' := by
  have hq := hp.len
  have hq' := hp'.len
  by_cases hz : cs.length = 0
  · obtain ⟨a1, c1, rfl⟩ := h.sl
    obtain ⟨a2, c2, rfl⟩ := h'.sl
    have e1 : qs.length = 0 := by omega
    have e2 : qs2.length = 0 := by omega
    clear h h' hl hp hp' lp ls hq hq'
    rw [e1, e2]
    go_enter Try.func27, Try.ntmps27
    go_wp2
    go_loopw [5] (fun i w5 => i = .int .i64 0 ∧ w5 = w) (fun _ _ => 0)
    case atStart => exact ⟨rfl, rfl⟩
    case round =>
      obtain ⟨rfl, rfl⟩ := hrel
      go_wp2
      go_ret
      exact ⟨rfl, Below.refl _ _⟩
  · obtain ⟨g, o, cap, rfl, _, hg, hc⟩ := h.resolve_left (fun h => by rw [h.1] at hq; simp at hq; omega)
    obtain ⟨g', o', cap', rfl, _, hg', hc'⟩ := h'.resolve_left (fun h => by rw [h.1] at hq'; simp at hq'; omega)
    have HP : Hid (CPin w qs cs) := hp
    have HP' : Hid (CPin w qs2 cs) := hp'
    have HLP : Hid (∀ k (hk : k < cs.length), cs[k].ps.length ≤ 1048576) := lp
    have HLS : Hid (∀ k (hk : k < cs.length), cs[k].ss.length ≤ 1048576) := ls
    have HQ : Hid (qs.length = cs.length) := hq
    have HQ' : Hid (qs2.length = cs.length) := hq'
    rw [hq, hq']
    clear h h' hz hp hp' lp ls hq hq'
    go_enter Try.func27, Try.ntmps27
    go_wp2
    go_loopw [5] (fun i w5 => ∃ k : Nat, k ≤ cs.length ∧ i = .int .i64 k ∧ Below w.heap.size w w5) (fun i _ => cs.length - (intOf i).toNat)
    case atStart => exact ⟨0, Nat.zero_le _, rfl, Below.refl _ _⟩
    case round =>
      obtain ⟨k, hk, rfl, hb⟩ := hrel
      by_cases hlt : k < cs.length
      · have hkq : k < qs.length := by rw [HQ.out]; exact hlt
        have hkq' : k < qs2.length := by rw [HQ'.out]; exact hlt
        obtain ⟨d0, d1, d2⟩ := hc.below hb hg k hkq
        obtain ⟨e0, e1, e2⟩ := hc'.below hb hg' k hkq'
        obtain ⟨p0, p1, p2⟩ := HP.out.el k hkq hlt
        obtain ⟨q0, q1, q2⟩ := HP'.out.el k hkq' hlt
        have lp := HLP.out k hlt
        have ls := HLS.out k hlt
        rw [p0] at d0
        rw [q0] at e0
        clear p0 q0
        generalize cs[k] = z at *
        generalize qs[k] = y at *
        generalize qs2[k] = x at *
        obtain ⟨yl, yp, ys⟩ := y
        obtain ⟨xl, xp, xs⟩ := x
        simp only at d1 d2 e1 e2 p1 p2 q1 q2
        obtain ⟨a1, k1, rfl⟩ := p1.sl
        obtain ⟨a2, k2, rfl⟩ := p2.sl
        obtain ⟨a3, k3, rfl⟩ := q1.sl
        obtain ⟨a4, k4, rfl⟩ := q2.sl
        have HE : Hid _ := fun (w' : World) (hw : Below w.heap.size w w') => eqCpu_ok (l := z.lim) (p1.below hw) (p2.below hw) (q1.below hw) (q2.below hw) lp ls
        unfold cpA at HE
        clear hc hc' p1 p2 q1 q2 lp ls
        have hk0 : (0 : Int) ≤ (k : Int) := by omega
        have hk1 : (k : Int) < (cs.length : Int) := by omega
        have hgw : g < wr.heap.size := Nat.lt_of_lt_of_le hg hb.size
        have hgw' : g' < wr.heap.size := Nat.lt_of_lt_of_le hg' hb.size
        have HB : Hid _ := hb
        have HBD : Hid (Below w.heap.size w wr.drew) := hb.drew
        clear hb
        go_wp2
        go_region_held3 (fun w' => w'.cell? ⟨g, o + k * 3, none⟩ = some (.int .i64 z.lim) ∧ w'.cell? ⟨g, o + k * 3 + 1, none⟩ = some (.slice a1 z.ps.length k1) ∧ w'.cell? ⟨g, o + k * 3 + 2, none⟩ = some (.slice a2 z.ss.length k2) ∧ w'.cell? ⟨g', o' + k * 3, none⟩ = some (.int .i64 z.lim) ∧ w'.cell? ⟨g', o' + k * 3 + 1, none⟩ = some (.slice a3 z.ps.length k3) ∧ w'.cell? ⟨g', o' + k * 3 + 2, none⟩ = some (.slice a4 z.ss.length k4)) (go_keep) ((go_at_call 50; refine Calls.mono (HE.out wr.drew HBD.out) ?_; rintro e u5 ⟨rfl, hu5⟩; have hb5 : Below wr.heap.size wr u5 := ⟨hu5.os, hu5.tape, hu5.output, hu5.size, hu5.block⟩; have HB5 : Hid (Below wr.heap.size wr u5) := hb5; have f0 := (World.cell?_of_block (hb5.block g hgw)).trans d0; have f1 := (World.cell?_of_block (hb5.block g hgw)).trans d1; have f2 := (World.cell?_of_block (hb5.block g hgw)).trans d2; have f3 := (World.cell?_of_block (hb5.block g' hgw')).trans e0; have f4 := (World.cell?_of_block (hb5.block g' hgw')).trans e1; have f5 := (World.cell?_of_block (hb5.block g' hgw')).trans e2; clear hu5 hb5))
        all_goals go_wp2
        all_goals go_roundw
        case rel => exact ⟨k + 1, hlt, by go_num, HB.out.trans (HB5.out.mono HB.out.size)⟩
        case measure => simp [intOf]; omega
      · obtain rfl : k = cs.length := by omega
        clear hc hc'
        go_wp2
        go_ret
        exact ⟨rfl, hb⟩
set_option maxRecDepth 100000 in
set_option maxHeartbeats 4000000 in
theorem eqRouter_ok {w : World} {r : RT} {a a2 : RA} (h : RRows w r a) (h' : RRows w r a2) (hl : RLen r) : Calls Try.prog 9 #[rtA a, rtA a2] w fun e w' => e = .returned (.bool true) ∧ Below w.heap.size w w' := by
  have H : Hid (RRows w r a) := h
  have H' : Hid (RRows w r a2) := h'
  have HL : Hid (RLen r) := hl
  have HE0 : Hid (E2 w ((w.alloc (.cells #[a.vl, a.vc, a.vm] 33)).alloc (.cells #[a2.vl, a2.vc, a2.vm] 33)) 33 #[a.vl, a.vc, a.vm] #[a2.vl, a2.vc, a2.vm]) := E2.new _ _ _ _
  clear h h' hl
  unfold rtA
  go_enter Try.func9, Try.ntmps9
  go_wp2_with fail
  generalize ((w.alloc (.cells #[a.vl, a.vc, a.vm] 33)).alloc (.cells #[a2.vl, a2.vc, a2.vm] 33)) = u0 at *
  refine Calls.mono (eqLNS_ok (H.out.below HE0.out.bel).ln (H'.out.below HE0.out.bel).ln HL.out.l) ?_
  rintro e u1 ⟨rfl, hb1⟩
  have HE1 : Hid (E2 w u1 33 #[a.vl, a.vc, a.vm] #[a2.vl, a2.vc, a2.vm]) := HE0.out.step hb1
  clear hb1 HE0
  obtain ⟨c0, c1, c2, _⟩ := cel3 HE1.out.b0
  obtain ⟨d0, d1, d2, _⟩ := cel3 HE1.out.b1
  go_wp2_with fail
  clear c0 c1 c2 d0 d1 d2
  refine Calls.mono (eqCpuS_ok (H.out.below HE1.out.bel).cq (H.out.below HE1.out.bel).cp (H'.out.below HE1.out.bel).cq (H'.out.below HE1.out.bel).cp HL.out.c HL.out.p HL.out.s) ?_
  rintro e u2 ⟨rfl, hb2⟩
  have HE2 : Hid (E2 w u2 33 #[a.vl, a.vc, a.vm] #[a2.vl, a2.vc, a2.vm]) := HE1.out.step hb2
  clear hb2 HE1
  obtain ⟨c0, c1, c2, _⟩ := cel3 HE2.out.b0
  obtain ⟨d0, d1, d2, _⟩ := cel3 HE2.out.b1
  go_wp2_with fail
  clear c0 c1 c2 d0 d1 d2
  refine Calls.mono (eqRMS_ok (H.out.below HE2.out.bel).rm (H'.out.below HE2.out.bel).rm HL.out.m) ?_
  rintro e u3 ⟨rfl, hb3⟩
  go_wp2
  go_ret
  exact ⟨rfl, HE2.out.bel.trans (hb3.mono HE2.out.bel.size)⟩
end Go.Proofs.Ytefeahilamiiaaa
