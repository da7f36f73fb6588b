import Derived.Test.YtomfbiiegcmmlaaIg1
namespace Go.Proofs.Ytomfbiiegcmmlaa
open Go.ChangeShapes Go.WideShapes Go.ChangeAt Go.RowKit

set_option maxRecDepth 100000 in
set_option maxHeartbeats 4000000 in
theorem eqImageS_ok {w : World} {v u : Value} {qs qs2 : List IG} {cs : List IM} (h : IGrow w v qs) (hp : IGin w qs cs) (h' : IGrow w u qs2) (hp' : IGin w qs2 cs) (hl : cs.length ≤ 1048576) (ls : ∀ k (hk : k < cs.length), ILen cs[k]) :
    Calls Try.prog 11 #[v, u] w fun e w' => e = .returned (.bool true) ∧ Below w.heap.size w w' := by
  have hq := hp.len
  have hq' := hp'.len
  by_cases hz : cs.length = 0
  · obtain ⟨a1, c1, rfl⟩ := h.sl
    obtain ⟨a2, c2, rfl⟩ := h'.sl
    have e1 : qs.length = 0 := by omega
    have e2 : qs2.length = 0 := by omega
    clear h h' hl hp hp' ls hq hq'
    rw [e1, e2]
    go_enter Try.func11, Try.ntmps11
    go_wp2
    go_loopw [5] (fun i w5 => i = .int .i64 0 ∧ w5 = w) (fun _ _ => 0)
    case atStart => exact ⟨rfl, rfl⟩
    case round =>
      obtain ⟨rfl, rfl⟩ := hrel
      go_wp2
      go_ret
      exact ⟨rfl, Below.refl _ _⟩
  · obtain ⟨g, o, cap, rfl, _, hg, hc⟩ := h.resolve_left (fun h => by rw [h.1] at hq; simp at hq; omega)
    obtain ⟨g', o', cap', rfl, _, hg', hc'⟩ := h'.resolve_left (fun h => by rw [h.1] at hq'; simp at hq'; omega)
    have HP : Hid (IGin w qs cs) := hp
    have HP' : Hid (IGin w qs2 cs) := hp'
    have HLS : Hid (∀ k (hk : k < cs.length), ILen cs[k]) := ls
    have HQ : Hid (qs.length = cs.length) := hq
    have HQ' : Hid (qs2.length = cs.length) := hq'
    rw [hq, hq']
    clear h h' hz hp hp' ls hq hq'
    go_enter Try.func11, Try.ntmps11
    go_wp2
    go_loopw [5] (fun i w5 => ∃ k : Nat, k ≤ cs.length ∧ i = .int .i64 k ∧ Below w.heap.size w w5) (fun i _ => cs.length - (intOf i).toNat)
    case atStart => exact ⟨0, Nat.zero_le _, rfl, Below.refl _ _⟩
    case round =>
      obtain ⟨k, hk, rfl, hb⟩ := hrel
      by_cases hlt : k < cs.length
      · have hkq : k < qs.length := by rw [HQ.out]; exact hlt
        have hkq' : k < qs2.length := by rw [HQ'.out]; exact hlt
        obtain ⟨d0, d1, d2, d3, d4⟩ := hc.below hb hg k hkq
        obtain ⟨e0, e1, e2, e3, e4⟩ := hc'.below hb hg' k hkq'
        obtain ⟨p0, p1, pq, p2⟩ := HP.out.el k hkq hlt
        obtain ⟨q0, q1, qq, q2⟩ := HP'.out.el k hkq' hlt
        have ls := HLS.out k hlt
        rw [p0] at d0
        rw [q0] at e0
        rw [p1] at d1
        rw [q1] at e1
        clear p0 q0 p1 q1
        generalize cs[k] = z at *
        generalize qs[k] = y at *
        generalize qs2[k] = x at *
        obtain ⟨yn, yb, yt, yd, ys⟩ := y
        obtain ⟨xn, xb, xt, xd, xs⟩ := x
        simp only at d2 d3 d4 e2 e3 e4 p2 q2
        obtain ⟨a1, k1, h1⟩ := p2.t.sl
        obtain ⟨a2, k2, h2⟩ := p2.d.sl
        obtain ⟨a3, k3, h3⟩ := p2.sn.sl
        obtain ⟨b1, l1, h4⟩ := q2.t.sl
        obtain ⟨b2, l2, h5⟩ := q2.d.sl
        obtain ⟨b3, l3, h6⟩ := q2.sn.sl
        simp only at h1 h2 h3 h4 h5 h6
        subst h1 h2 h3 h4 h5 h6
        have HE : Hid (∀ (w' : World) (hw : Below w.heap.size w w'), _) := fun (w' : World) (hw : Below w.heap.size w w') => eqImage_ok (p2.below hw) (q2.below hw) ls
        unfold imA at HE
        simp only at HE
        clear hc hc' p2 q2 ls
        have hk0 : (0 : Int) ≤ (k : Int) := by omega
        have hk1 : (k : Int) < (cs.length : Int) := by omega
        have hgw : g < wr.heap.size := Nat.lt_of_lt_of_le hg hb.size
        have hgw' : g' < wr.heap.size := Nat.lt_of_lt_of_le hg' hb.size
        have HB : Hid _ := hb
        have HBD : Hid (Below w.heap.size w wr.drew) := hb.drew
        clear hb
        go_wp2
        go_region_held3 (fun w' => w'.cell? ⟨g, o + k * 5, none⟩ = some (.string z.n) ∧ w'.cell? ⟨g, o + k * 5 + 1, none⟩ = some (.string z.b) ∧ w'.cell? ⟨g, o + k * 5 + 2, none⟩ = some (.slice a1 z.t.length k1) ∧ w'.cell? ⟨g, o + k * 5 + 3, none⟩ = some (.slice a2 z.d.length k2) ∧ w'.cell? ⟨g, o + k * 5 + 4, none⟩ = some (.slice a3 pq.length k3) ∧ w'.cell? ⟨g', o' + k * 5, none⟩ = some (.string z.n) ∧ w'.cell? ⟨g', o' + k * 5 + 1, none⟩ = some (.string z.b) ∧ w'.cell? ⟨g', o' + k * 5 + 2, none⟩ = some (.slice b1 z.t.length l1) ∧ w'.cell? ⟨g', o' + k * 5 + 3, none⟩ = some (.slice b2 z.d.length l2) ∧ w'.cell? ⟨g', o' + k * 5 + 4, none⟩ = some (.slice b3 qq.length l3)) (go_keep) ((go_at_call 28; refine Calls.mono (HE.out wr.drew HBD.out) ?_; rintro e u5 ⟨rfl, hu5⟩; have hb5 : Below wr.heap.size wr u5 := ⟨hu5.os, hu5.tape, hu5.output, hu5.size, hu5.block⟩; have HB5 : Hid (Below wr.heap.size wr u5) := hb5; have f0 := (World.cell?_of_block (hb5.block g hgw)).trans d0; have f1 := (World.cell?_of_block (hb5.block g hgw)).trans d1; have f2 := (World.cell?_of_block (hb5.block g hgw)).trans d2; have f3 := (World.cell?_of_block (hb5.block g hgw)).trans d3; have f4 := (World.cell?_of_block (hb5.block g hgw)).trans d4; have f5 := (World.cell?_of_block (hb5.block g' hgw')).trans e0; have f6 := (World.cell?_of_block (hb5.block g' hgw')).trans e1; have f7 := (World.cell?_of_block (hb5.block g' hgw')).trans e2; have f8 := (World.cell?_of_block (hb5.block g' hgw')).trans e3; have f9 := (World.cell?_of_block (hb5.block g' hgw')).trans e4; clear hu5 hb5))
        all_goals go_wp2
        all_goals go_roundw
        case rel => exact ⟨k + 1, hlt, by go_num, HB.out.trans (HB5.out.mono HB.out.size)⟩
        case measure => simp [intOf]; omega
      · obtain rfl : k = cs.length := by omega
        go_wp2
        go_ret
        exact ⟨rfl, hb⟩
end Go.Proofs.Ytomfbiiegcmmlaa
