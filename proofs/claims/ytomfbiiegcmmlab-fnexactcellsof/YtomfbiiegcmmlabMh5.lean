import Derived.Test.YtomfbiiegcmmlabMh4
namespace Go.Proofs.Ytomfbiiegcmmlab
open Go.ChangeShapes Go.WideShapes Go.ChangeAt Go.RowKit

set_option maxRecDepth 100000 in
set_option maxHeartbeats 4000000 in
theorem eqGuestS_ok {w : World} {v u : Value} {qs qs2 : List MG} {cs : List GS} (h : MGrow w v qs) (hp : MGin w qs cs) (h' : MGrow w u qs2) (hp' : MGin w qs2 cs) (hl : cs.length ≤ 1048576) (lp : ∀ k (hk : k < cs.length), cs[k].ss.length ≤ 1048576) (ls : ∀ k (hk : k < cs.length), cs[k].hs.length ≤ 1048576) :
    Calls Try.prog 42 #[v, u] w fun e w' => e = .returned (.bool true) ∧ Below w.heap.size w w' := by
  have hq := hp.len
  have hq' := hp'.len
  by_cases hz : cs.length = 0
  · obtain ⟨a1, c1, rfl⟩ := h.sl
    obtain ⟨a2, c2, rfl⟩ := h'.sl
    have e1 : qs.length = 0 := by omega
    have e2 : qs2.length = 0 := by omega
    clear h h' hl hp hp' lp ls hq hq'
    rw [e1, e2]
    go_enter Try.func42, Try.ntmps42
    go_wp2
    go_loopw [5] (fun i w5 => i = .int .i64 0 ∧ w5 = w) (fun _ _ => 0)
    case atStart => exact ⟨rfl, rfl⟩
    case round =>
      obtain ⟨rfl, rfl⟩ := hrel
      go_wp2
      go_ret
      exact ⟨rfl, Below.refl _ _⟩
  · obtain ⟨g, o, cap, rfl, _, hg, hc⟩ := h.resolve_left (fun h => by rw [h.1] at hq; simp at hq; omega)
    obtain ⟨g', o', cap', rfl, _, hg', hc'⟩ := h'.resolve_left (fun h => by rw [h.1] at hq'; simp at hq'; omega)
    have HP : Hid (MGin w qs cs) := hp
    have HP' : Hid (MGin w qs2 cs) := hp'
    have HLP : Hid (∀ k (hk : k < cs.length), cs[k].ss.length ≤ 1048576) := lp
    have HLS : Hid (∀ k (hk : k < cs.length), cs[k].hs.length ≤ 1048576) := ls
    have HQ : Hid (qs.length = cs.length) := hq
    have HQ' : Hid (qs2.length = cs.length) := hq'
    rw [hq, hq']
    clear h h' hz hp hp' lp ls hq hq'
    go_enter Try.func42, Try.ntmps42
    go_wp2
    go_loopw [5] (fun i w5 => ∃ k : Nat, k ≤ cs.length ∧ i = .int .i64 k ∧ Below w.heap.size w w5) (fun i _ => cs.length - (intOf i).toNat)
    case atStart => exact ⟨0, Nat.zero_le _, rfl, Below.refl _ _⟩
    case round =>
      obtain ⟨k, hk, rfl, hb⟩ := hrel
      by_cases hlt : k < cs.length
      · have hkq : k < qs.length := by rw [HQ.out]; exact hlt
        have hkq' : k < qs2.length := by rw [HQ'.out]; exact hlt
        obtain ⟨d0, d1, d2⟩ := hc.below hb hg k hkq
        obtain ⟨e0, e1, e2⟩ := hc'.below hb hg' k hkq'
        obtain ⟨p0, p1, p2⟩ := HP.out.el k hkq hlt
        obtain ⟨q0, q1, q2⟩ := HP'.out.el k hkq' hlt
        have lp := HLP.out k hlt
        have ls := HLS.out k hlt
        rw [p0] at d1
        rw [q0] at e1
        clear p0 q0
        generalize cs[k] = z at *
        generalize qs[k] = y at *
        generalize qs2[k] = x at *
        obtain ⟨yp, yl, ys⟩ := y
        obtain ⟨xp, xl, xs⟩ := x
        simp only at d0 d2 e0 e2 p1 p2 q1 q2
        obtain ⟨a1, k1, rfl⟩ := p1.sl
        obtain ⟨a2, k2, rfl⟩ := p2.sl
        obtain ⟨a3, k3, rfl⟩ := q1.sl
        obtain ⟨a4, k4, rfl⟩ := q2.sl
        have HE : Hid _ := fun (w' : World) (hw : Below w.heap.size w w') => eqGuest_ok (d := z.d) (p1.below hw) (p2.below hw) (q1.below hw) (q2.below hw) lp ls
        clear hc hc' p1 p2 q1 q2 lp ls
        have hk0 : (0 : Int) ≤ (k : Int) := by omega
        have hk1 : (k : Int) < (cs.length : Int) := by omega
        have hgw : g < wr.heap.size := Nat.lt_of_lt_of_le hg hb.size
        have hgw' : g' < wr.heap.size := Nat.lt_of_lt_of_le hg' hb.size
        have HB : Hid _ := hb
        have HBD : Hid (Below w.heap.size w wr.drew) := hb.drew
        clear hb
        go_wp2
        go_region_held3 (fun w' => w'.cell? ⟨g, o + k * 3, none⟩ = some (.slice a1 z.ss.length k1) ∧ w'.cell? ⟨g, o + k * 3 + 1, none⟩ = some (.string z.d) ∧ w'.cell? ⟨g, o + k * 3 + 2, none⟩ = some (.slice a2 z.hs.length k2) ∧ w'.cell? ⟨g', o' + k * 3, none⟩ = some (.slice a3 z.ss.length k3) ∧ w'.cell? ⟨g', o' + k * 3 + 1, none⟩ = some (.string z.d) ∧ w'.cell? ⟨g', o' + k * 3 + 2, none⟩ = some (.slice a4 z.hs.length k4)) (go_keep) ((go_at_call 76; refine Calls.mono (HE.out wr.drew HBD.out) ?_; rintro e u5 ⟨rfl, hu5⟩; have hb5 : Below wr.heap.size wr u5 := ⟨hu5.os, hu5.tape, hu5.output, hu5.size, hu5.block⟩; have HB5 : Hid (Below wr.heap.size wr u5) := hb5; have f0 := (World.cell?_of_block (hb5.block g hgw)).trans d0; have f1 := (World.cell?_of_block (hb5.block g hgw)).trans d1; have f2 := (World.cell?_of_block (hb5.block g hgw)).trans d2; have f3 := (World.cell?_of_block (hb5.block g' hgw')).trans e0; have f4 := (World.cell?_of_block (hb5.block g' hgw')).trans e1; have f5 := (World.cell?_of_block (hb5.block g' hgw')).trans e2; clear hu5 hb5))
        all_goals go_wp2
        all_goals go_roundw
        case rel => exact ⟨k + 1, hlt, by go_num, HB.out.trans (HB5.out.mono HB.out.size)⟩
        case measure => simp [intOf]; omega
      · obtain rfl : k = cs.length := by omega
        clear hc hc'
        go_wp2
        go_ret
        exact ⟨rfl, hb⟩
set_option maxRecDepth 100000 in
set_option maxHeartbeats 4000000 in
theorem eqHost_ok {w : World} {h : MH} {a a2 : HA} (x : HRows w h a) (x' : HRows w h a2) (hl : HLen h) : Calls Try.prog 12 #[mhA a h.time, mhA a2 h.time] w fun e w' => e = .returned (.bool true) ∧ Below w.heap.size w w' := by
  have H : Hid (HRows w h a) := x
  have H' : Hid (HRows w h a2) := x'
  have HL : Hid (HLen h) := hl
  have HE0 : Hid (E2 w ((w.alloc (.cells #[a.vc, a.vp, a.vg, .int .i64 h.time] 30)).alloc (.cells #[a2.vc, a2.vp, a2.vg, .int .i64 h.time] 30)) 30 #[a.vc, a.vp, a.vg, .int .i64 h.time] #[a2.vc, a2.vp, a2.vg, .int .i64 h.time]) := E2.new _ _ _ _
  clear x x' hl
  unfold mhA
  go_enter Try.func12, Try.ntmps12
  go_wp2_with fail
  generalize ((w.alloc (.cells #[a.vc, a.vp, a.vg, .int .i64 h.time] 30)).alloc (.cells #[a2.vc, a2.vp, a2.vg, .int .i64 h.time] 30)) = u0 at *
  refine Calls.mono (eqSS_ok (H.out.below HE0.out.bel).cs (H'.out.below HE0.out.bel).cs HL.out.c) ?_
  rintro e u1 ⟨rfl, hb1⟩
  have HE1 : Hid (E2 w u1 30 #[a.vc, a.vp, a.vg, .int .i64 h.time] #[a2.vc, a2.vp, a2.vg, .int .i64 h.time]) := HE0.out.step hb1
  clear hb1 HE0
  obtain ⟨c0, c1, c2, c3, _⟩ := cel4 HE1.out.b0
  obtain ⟨d0, d1, d2, d3, _⟩ := cel4 HE1.out.b1
  go_wp2_with fail
  clear c0 c1 c2 c3 d0 d1 d2 d3
  refine Calls.mono (eqSS_ok (H.out.below HE1.out.bel).ps (H'.out.below HE1.out.bel).ps HL.out.p) ?_
  rintro e u2 ⟨rfl, hb2⟩
  have HE2 : Hid (E2 w u2 30 #[a.vc, a.vp, a.vg, .int .i64 h.time] #[a2.vc, a2.vp, a2.vg, .int .i64 h.time]) := HE1.out.step hb2
  clear hb2 HE1
  obtain ⟨c0, c1, c2, c3, _⟩ := cel4 HE2.out.b0
  obtain ⟨d0, d1, d2, d3, _⟩ := cel4 HE2.out.b1
  go_wp2_with fail
  clear c0 c1 c2 c3 d0 d1 d2 d3
  refine Calls.mono (eqGuestS_ok (H.out.below HE2.out.bel).mg (H.out.below HE2.out.bel).gi (H'.out.below HE2.out.bel).mg (H'.out.below HE2.out.bel).gi HL.out.g HL.out.s HL.out.u) ?_
  rintro e u3 ⟨rfl, hb3⟩
  have HE3 : Hid (E2 w u3 30 #[a.vc, a.vp, a.vg, .int .i64 h.time] #[a2.vc, a2.vp, a2.vg, .int .i64 h.time]) := HE2.out.step hb3
  clear hb3 HE2
  obtain ⟨c0, c1, c2, c3, _⟩ := cel4 HE3.out.b0
  obtain ⟨d0, d1, d2, d3, _⟩ := cel4 HE3.out.b1
  go_wp2
  go_ret
  exact ⟨rfl, HE3.out.bel⟩
end Go.Proofs.Ytomfbiiegcmmlab
