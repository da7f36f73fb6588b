import Derived.Test.YtomfbiiegcmmlaaGreatIg1
import Derived.Test.YtomfbiiegcmmlaaGreatJm1
import Derived.WalkKit
import Derived.ProofKit
import Derived.Test.YtomfbiiegcmmlaaGreatJpZ
namespace Go.Proofs.YtomfbiiegcmmlaaGreat
open Go.ChangeShapes Go.WideShapes Go.ChangeAt Go.RowKit

set_option maxRecDepth 100000 in
set_option maxHeartbeats 4000000 in
theorem eqImageS_ok {w : World} {v u : Value} {qs qs2 : List IG} {cs : List IM} (h : IGrow w v qs) (hp : IGin w qs cs) (h' : IGrow w u qs2) (hp' : IGin w qs2 cs) (hl : cs.length ≤ 1048576) (ls : ∀ k (hk : k < cs.length), ILen cs[k]) :
    Calls Tryz.prog 35 #[v, u] w fun e w' => e = .returned (.bool true) ∧ Below w.heap.size w w' := by
  have hq := hp.len
  have hq' := hp'.len
  by_cases hz : cs.length = 0
  · obtain ⟨a1, c1, rfl⟩ := h.sl
    obtain ⟨a2, c2, rfl⟩ := h'.sl
    have e1 : qs.length = 0 := by omega
    have e2 : qs2.length = 0 := by omega
    clear h h' hl hp hp' ls hq hq'
    rw [e1, e2]
    go_enter Tryz.func35, Tryz.ntmps35
    go_wp2
    go_loopw [5] (fun i w5 => i = .int .i64 0 ∧ w5 = w) (fun _ _ => 0)
    case atStart => exact ⟨rfl, rfl⟩
    case round =>
      obtain ⟨rfl, rfl⟩ := hrel
      go_wp2
      go_ret
      exact ⟨rfl, Below.refl _ _⟩
  · obtain ⟨g, o, cap, rfl, _, hg, hc⟩ := h.resolve_left (fun h => by rw [h.1] at hq; simp at hq; omega)
    obtain ⟨g', o', cap', rfl, _, hg', hc'⟩ := h'.resolve_left (fun h => by rw [h.1] at hq'; simp at hq'; omega)
    have HP : Hid (IGin w qs cs) := hp
    have HP' : Hid (IGin w qs2 cs) := hp'
    have HLS : Hid (∀ k (hk : k < cs.length), ILen cs[k]) := ls
    have HQ : Hid (qs.length = cs.length) := hq
    have HQ' : Hid (qs2.length = cs.length) := hq'
    rw [hq, hq']
    clear h h' hz hp hp' ls hq hq'
    go_enter Tryz.func35, Tryz.ntmps35
    go_wp2
    go_loopw [5] (fun i w5 => ∃ k : Nat, k ≤ cs.length ∧ i = .int .i64 k ∧ Below w.heap.size w w5) (fun i _ => cs.length - (intOf i).toNat)
    case atStart => exact ⟨0, Nat.zero_le _, rfl, Below.refl _ _⟩
    case round =>
      obtain ⟨k, hk, rfl, hb⟩ := hrel
      by_cases hlt : k < cs.length
      · have hkq : k < qs.length := by rw [HQ.out]; exact hlt
        have hkq' : k < qs2.length := by rw [HQ'.out]; exact hlt
        obtain ⟨d0, d1, d2, d3, d4⟩ := hc.below hb hg k hkq
        obtain ⟨e0, e1, e2, e3, e4⟩ := hc'.below hb hg' k hkq'
        obtain ⟨p0, p1, pq, p2⟩ := HP.out.el k hkq hlt
        obtain ⟨q0, q1, qq, q2⟩ := HP'.out.el k hkq' hlt
        have ls := HLS.out k hlt
        rw [p0] at d0
        rw [q0] at e0
        rw [p1] at d1
        rw [q1] at e1
        clear p0 q0 p1 q1
        generalize cs[k] = z at *
        generalize qs[k] = y at *
        generalize qs2[k] = x at *
        obtain ⟨yn, yb, yt, yd, ys⟩ := y
        obtain ⟨xn, xb, xt, xd, xs⟩ := x
        simp only at d2 d3 d4 e2 e3 e4 p2 q2
        obtain ⟨a1, k1, h1⟩ := p2.t.sl
        obtain ⟨a2, k2, h2⟩ := p2.d.sl
        obtain ⟨a3, k3, h3⟩ := p2.sn.sl
        obtain ⟨b1, l1, h4⟩ := q2.t.sl
        obtain ⟨b2, l2, h5⟩ := q2.d.sl
        obtain ⟨b3, l3, h6⟩ := q2.sn.sl
        simp only at h1 h2 h3 h4 h5 h6
        subst h1 h2 h3 h4 h5 h6
        have HE : Hid (∀ (w' : World) (hw : Below w.heap.size w w'), _) := fun (w' : World) (hw : Below w.heap.size w w') => eqImage_ok (p2.below hw) (q2.below hw) ls
        unfold imA at HE
        simp only at HE
        clear hc hc' p2 q2 ls
        have hk0 : (0 : Int) ≤ (k : Int) := by omega
        have hk1 : (k : Int) < (cs.length : Int) := by omega
        have hgw : g < wr.heap.size := Nat.lt_of_lt_of_le hg hb.size
        have hgw' : g' < wr.heap.size := Nat.lt_of_lt_of_le hg' hb.size
        have HB : Hid _ := hb
        have HBD : Hid (Below w.heap.size w wr.drew) := hb.drew
        clear hb
        go_wp2
        go_region_held3 (fun w' => w'.cell? ⟨g, o + k * 5, none⟩ = some (.string z.n) ∧ w'.cell? ⟨g, o + k * 5 + 1, none⟩ = some (.string z.b) ∧ w'.cell? ⟨g, o + k * 5 + 2, none⟩ = some (.slice a1 z.t.length k1) ∧ w'.cell? ⟨g, o + k * 5 + 3, none⟩ = some (.slice a2 z.d.length k2) ∧ w'.cell? ⟨g, o + k * 5 + 4, none⟩ = some (.slice a3 pq.length k3) ∧ w'.cell? ⟨g', o' + k * 5, none⟩ = some (.string z.n) ∧ w'.cell? ⟨g', o' + k * 5 + 1, none⟩ = some (.string z.b) ∧ w'.cell? ⟨g', o' + k * 5 + 2, none⟩ = some (.slice b1 z.t.length l1) ∧ w'.cell? ⟨g', o' + k * 5 + 3, none⟩ = some (.slice b2 z.d.length l2) ∧ w'.cell? ⟨g', o' + k * 5 + 4, none⟩ = some (.slice b3 qq.length l3)) (go_keep) ((go_at_call 70; refine Calls.mono (HE.out wr.drew HBD.out) ?_; rintro e u5 ⟨rfl, hu5⟩; have hb5 : Below wr.heap.size wr u5 := ⟨hu5.os, hu5.tape, hu5.output, hu5.size, hu5.block⟩; have HB5 : Hid (Below wr.heap.size wr u5) := hb5; have f0 := (World.cell?_of_block (hb5.block g hgw)).trans d0; have f1 := (World.cell?_of_block (hb5.block g hgw)).trans d1; have f2 := (World.cell?_of_block (hb5.block g hgw)).trans d2; have f3 := (World.cell?_of_block (hb5.block g hgw)).trans d3; have f4 := (World.cell?_of_block (hb5.block g hgw)).trans d4; have f5 := (World.cell?_of_block (hb5.block g' hgw')).trans e0; have f6 := (World.cell?_of_block (hb5.block g' hgw')).trans e1; have f7 := (World.cell?_of_block (hb5.block g' hgw')).trans e2; have f8 := (World.cell?_of_block (hb5.block g' hgw')).trans e3; have f9 := (World.cell?_of_block (hb5.block g' hgw')).trans e4; clear hu5 hb5))
        all_goals go_wp2
        all_goals go_roundw
        case rel => exact ⟨k + 1, hlt, by go_num, HB.out.trans (HB5.out.mono HB.out.size)⟩
        case measure => simp [intOf]; omega
      · obtain rfl : k = cs.length := by omega
        go_wp2
        go_ret
        exact ⟨rfl, hb⟩

set_option maxRecDepth 100000
/-- How much images hold. -/
def totL : List IM → Int
  | [] => 0
  | c :: cs => totI c + totL cs
theorem totL_nn (cs : List IM) : 0 ≤ totL cs := by
  induction cs with
  | nil => exact Int.le_refl _
  | cons c cs ih => have := totI_nn c; unfold totL; omega
theorem totL_el (cs : List IM) (k : Nat) (hk : k < cs.length) : totI cs[k] ≤ totL cs := by
  induction cs generalizing k with
  | nil => simp at hk
  | cons c cs ih =>
    have := totL_nn cs
    have := totI_nn c
    cases k with
    | zero => show totI c ≤ _; unfold totL; omega
    | succ k =>
      have hk2 : k < cs.length := by simpa using hk
      have h2 := ih k hk2
      show totI cs[k] ≤ _
      unfold totL
      omega
theorem totL_drop (cs : List IM) (k : Nat) (hk : k < cs.length) : totL (cs.drop k) = totI cs[k] + totL (cs.drop (k + 1)) := by
  rw [List.drop_eq_getElem_cons hk]
  rfl
set_option maxRecDepth 100000 in
set_option maxHeartbeats 4000000 in
theorem szImageS_any {w : World} {v : Value} {qs : List IG} {cs : List IM} (h : IGrow w v qs) (hp : IGin w qs cs) (l : Int) (h0 : 0 ≤ l) (h1 : l ≤ 1048576) (hm : cs.length ≤ maxLen) (hs : ∀ k (hk : k < cs.length), IMax cs[k]) (q : Int) (hq : q = if l < (cs.length : Int) + totL cs then -1 else l - ((cs.length : Int) + totL cs)) : Calls Tryz.prog 24 #[v, .int .i64 l] w fun e w' => e = .returned (.int .i64 q) ∧ Below w.heap.size w w' := by
  obtain ⟨ao, cap, rfl⟩ := h.sl
  have hlq := hp.len
  have HR : Hid (IGrow w (.slice ao cs.length cap) qs) := (show IGrow w (.slice ao cs.length cap) qs by rw [← hlq]; exact h)
  have HP : Hid (IGin w qs cs) := hp
  have HLQ : Hid (qs.length = cs.length) := hlq
  have HS : Hid (∀ k (hk : k < cs.length), IMax cs[k]) := hs
  rw [hlq]
  have hnn := totL_nn cs
  have hmx : maxLen ≤ 9223372036854775807 := by decide
  clear h hp hlq hs
  by_cases t1 : l < (cs.length : Int)
  · rw [if_pos (by omega)] at hq
    have HQ : Hid _ := hq
    have hw : IntKind.i64.wrap (l - (cs.length : Int)) = l - (cs.length : Int) := by rw [IntKind.wrap_i64]; omega
    have g1 : l - (cs.length : Int) < 0 := by omega
    clear hq hnn hm hmx h0 h1
    go_enter Tryz.func24, Tryz.ntmps24
    go_wp2
    go_ret
    exact ⟨ret_int HQ.out.symm, Below.refl _ _⟩
  · obtain ⟨l2, hl2⟩ : ∃ l2 : Int, l2 = l - cs.length := ⟨_, rfl⟩
    have hw : IntKind.i64.wrap (l - (cs.length : Int)) = l2 := by rw [IntKind.wrap_i64]; omega
    have g1 : ¬ l2 < 0 := by omega
    have HQ : Hid (q = if l2 < totL cs then -1 else l2 - totL cs) := (show q = if l2 < totL cs then -1 else l2 - totL cs by
      rw [hq]
      by_cases t : l2 < totL cs
      · rw [if_pos t, if_pos (by omega)]
      · rw [if_neg t, if_neg (by omega)]; omega)
    have hl2m : l2 ≤ 1048576 := by omega
    have hcl : cs.length ≤ 1048576 := by omega
    clear hq hl2
    go_enter Tryz.func24, Tryz.ntmps24
    go_wp2
    go_loopw [1, 5] (fun x i wr => ∃ (k : Nat) (y : Int), k ≤ cs.length ∧ i = .int .i64 k ∧ x = .int .i64 y ∧ 0 ≤ y ∧ y ≤ 1048576 ∧ (q = if y < totL (cs.drop k) then -1 else y - totL (cs.drop k)) ∧ Below w.heap.size w wr) (fun _ i _ => cs.length - (intOf i).toNat)
    case atStart => exact ⟨0, l2, Nat.zero_le _, rfl, rfl, by omega, by omega, by rw [List.drop_zero]; exact HQ.out, Below.refl _ _⟩
    case round =>
      obtain ⟨k, y, hk, rfl, rfl, y0, y1, hy, hb⟩ := hrel
      have HB : Hid _ := hb
      by_cases hlt : k < cs.length
      · have hltq : k < qs.length := by rw [HLQ.out]; exact hlt
        obtain ⟨g, o, cap2, hv, _, hg, hc⟩ := HR.out.resolve_left (fun h => by rw [h.1] at hltq; simp at hltq)
        injection hv with hv1 hv2 hv3
        subst hv1 hv3
        clear hv2
        obtain ⟨d0, d1, d2, d3, d4⟩ := hc.below hb hg k hltq
        obtain ⟨e0, e1, eq, e2⟩ := HP.out.el k hltq hlt
        have m2 := HS.out k hlt
        rw [e0] at d0
        rw [e1] at d1
        have hnz := totI_nn cs[k]
        have hd := totL_drop cs k hlt
        have hnd := totL_nn (cs.drop (k + 1))
        clear e0 e1
        generalize cs[k] = z at *
        generalize qs[k] = x at *
        obtain ⟨xn, xb, xt, xd, xs⟩ := x
        simp only at d2 d3 d4 e2
        obtain ⟨a1, k1, h1⟩ := e2.t.sl
        obtain ⟨a2, k2, h2⟩ := e2.d.sl
        obtain ⟨a3, k3, h3⟩ := e2.sn.sl
        simp only at h1 h2 h3
        subst h1 h2 h3
        have hk0 : (0 : Int) ≤ (k : Int) := by omega
        have hk1 : (k : Int) < (cs.length : Int) := by omega
        have HZ : Hid _ := szImage_any (e2.below hb) m2 y y0 y1 _ rfl
        unfold imA at HZ
        simp only at HZ
        clear hc hb e2 m2
        by_cases t : y < totI z
        · rw [if_pos t] at HZ
          have HQ2 : Hid (q = -1) := (show q = -1 by rw [hy, if_pos (by omega)])
          clear hy hd hnd t hnz
          go_wp2_with (go_at_call 59; refine Calls.mono HZ.out ?_; rintro e u1 ⟨rfl, hu1⟩; have HB1 : Hid (Below w.heap.size w u1) := HB.out.trans (hu1.mono HB.out.size); clear hu1)
          go_ret
          exact ⟨ret_int HQ2.out.symm, HB1.out⟩
        · rw [if_neg t] at HZ
          obtain ⟨y2, hy2⟩ : ∃ y2 : Int, y2 = y - (totI z) := ⟨_, rfl⟩
          rw [← hy2] at HZ
          have g4 : ¬ y2 < 0 := by omega
          have HQ2 : Hid (q = if y2 < totL (cs.drop (k + 1)) then -1 else y2 - totL (cs.drop (k + 1))) := (show q = if y2 < totL (cs.drop (k + 1)) then -1 else y2 - totL (cs.drop (k + 1)) by
            by_cases t9 : y2 < totL (cs.drop (k + 1))
            · rw [if_pos t9, hy, if_pos (by omega)]
            · rw [if_neg t9, hy, if_neg (by omega)]; omega)
          have HY : Hid (0 ≤ y2 ∧ y2 ≤ 1048576) := (show 0 ≤ y2 ∧ y2 ≤ 1048576 by omega)
          clear hy hd hnd t hy2 hnz
          go_wp2_with (go_at_call 59; refine Calls.mono HZ.out ?_; rintro e u1 ⟨rfl, hu1⟩; have HB1 : Hid (Below w.heap.size w u1) := HB.out.trans (hu1.mono HB.out.size); clear hu1)
          go_roundw
          case rel => exact ⟨k + 1, y2, hlt, by go_num, rfl, HY.out.1, HY.out.2, HQ2.out, HB1.out⟩
          case measure => simp [intOf]; omega
      · obtain rfl : k = cs.length := by omega
        have HQ2 : Hid (q = y) := (show q = y by rw [hy, List.drop_length]; show (if y < 0 then (-1 : Int) else y - 0) = y; rw [if_neg (by omega)]; omega)
        clear hy
        go_wp2
        go_ret
        exact ⟨ret_int HQ2.out.symm, hb⟩

set_option maxRecDepth 100000
set_option maxHeartbeats 4000000 in
theorem toJob_any (z : JB) (w : World) : Calls Tryz.prog 33 #[jbA z] w fun e w' => e = .returned (jbA z) ∧ Below w.heap.size w w' := by
  unfold jbA
  go_enter Tryz.func33, Tryz.ntmps33
  go_wp2
  refine bodyPost_ret (v := .agg #[.int .i64 z.k, .int .i64 z.x, .string z.d, .string z.g]) ?_ rfl ⟨rfl, (((Below.refl _ _).alloc (Nat.le_refl _) _).alloc (by simp) _).alloc (by simp; omega) _⟩
  simp only [results, Tryz.results33, go_sem]
  simp [go_sem]
set_option maxHeartbeats 4000000 in
theorem eqJob_ok (z : JB) (w : World) : Calls Tryz.prog 36 #[jbA z, jbA z] w fun e w' => e = .returned (.bool true) ∧ Below w.heap.size w w' := by
  unfold jbA
  go_enter Tryz.func36, Tryz.ntmps36
  go_wp2
  go_ret
  exact ⟨rfl, ((Below.refl _ _).alloc (Nat.le_refl _) _).alloc (by simp) _⟩
def totJ (z : JB) : Int := (z.d.size : Int) + z.g.size
set_option maxHeartbeats 4000000 in
theorem szJob_any (z : JB) (l : Int) (w : World) (h0 : 0 ≤ l) (h1 : l ≤ 1048576) (hd : z.d.size ≤ maxLen) (hg : z.g.size ≤ maxLen) (q : Int) (hq : q = if l < totJ z then -1 else l - totJ z) : Calls Tryz.prog 25 #[jbA z, .int .i64 l] w fun e w' => e = .returned (.int .i64 q) ∧ Below w.heap.size w w' := by
  obtain ⟨k, x, d, g⟩ := z
  unfold totJ at hq
  unfold jbA
  simp only at hd hg hq ⊢
  have HB : Hid (Below w.heap.size w (w.alloc (.cells #[.int .i64 k, .int .i64 x, .string d, .string g] 24))) := (Below.refl _ _).alloc (Nat.le_refl _) _
  have hmx : maxLen ≤ 9223372036854775807 := by decide
  by_cases t2 : l < (d.size : Int)
  · have hw : IntKind.i64.wrap (l - (d.size : Int)) = l - (d.size : Int) := by rw [IntKind.wrap_i64]; omega
    have g3 : l - (d.size : Int) < 0 := by omega
    rw [if_pos (by omega)] at hq
    have HQ : Hid _ := hq
    clear hq h0 h1 hd hg
    go_enter Tryz.func25, Tryz.ntmps25
    go_wp2
    go_ret
    exact ⟨ret_int HQ.out.symm, HB.out⟩
  obtain ⟨l3, hl3⟩ : ∃ l3 : Int, l3 = l - d.size := ⟨_, rfl⟩
  have hw : IntKind.i64.wrap (l - (d.size : Int)) = l3 := by rw [IntKind.wrap_i64]; omega
  have g3 : ¬ l3 < 0 := by omega
  by_cases t3 : l3 < (g.size : Int)
  · have hw2 : IntKind.i64.wrap (l3 - (g.size : Int)) = l3 - (g.size : Int) := by rw [IntKind.wrap_i64]; omega
    have g4 : l3 - (g.size : Int) < 0 := by omega
    rw [if_pos (by omega)] at hq
    have HQ : Hid _ := hq
    clear hq h0 h1 hd hg hl3
    go_enter Tryz.func25, Tryz.ntmps25
    go_wp2
    go_ret
    exact ⟨ret_int HQ.out.symm, HB.out⟩
  · obtain ⟨l4, hl4⟩ : ∃ l4 : Int, l4 = l3 - g.size := ⟨_, rfl⟩
    have hw2 : IntKind.i64.wrap (l3 - (g.size : Int)) = l4 := by rw [IntKind.wrap_i64]; omega
    have g4 : ¬ l4 < 0 := by omega
    rw [if_neg (by omega)] at hq
    have HQ : Hid (q = l4) := (show q = l4 by omega)
    clear hq h0 h1 hd hg hl3 hl4
    go_enter Tryz.func25, Tryz.ntmps25
    go_wp2
    go_ret
    exact ⟨ret_int HQ.out.symm, HB.out⟩

set_option maxRecDepth 100000
theorem cel6 {u : World} {b t : Nat} {a0 a1 a2 a3 a4 a5 : Value} (h : u.heap[b]? = some (.cells #[a0, a1, a2, a3, a4, a5] t (0, 0))) : u.cell? ⟨b, 0, none⟩ = some a0 ∧ u.cell? ⟨b, 1, none⟩ = some a1 ∧ u.cell? ⟨b, 2, none⟩ = some a2 ∧ u.cell? ⟨b, 3, none⟩ = some a3 ∧ u.cell? ⟨b, 4, none⟩ = some a4 ∧ u.cell? ⟨b, 5, none⟩ = some a5 ∧ ∀ x, u.frozen? ⟨b, x, none⟩ = false := by
  simp [World.cell?, World.frozen?, h]
/-- A state in a box. -/
structure JBox (u : World) (B : Nat) (t : TypeId) (s : JS) (v : Value) (gs : List IG) : Prop where
  box : u.heap[B]? = some (.cells #[v, .string s.a, .int .i64 s.j.k, .int .i64 s.j.x, .string s.j.d, .string s.j.g] t (0, 0))
  row : IGrow u v gs
  inn : IGin u gs s.ms
theorem JBox.lt {u : World} {B : Nat} {t : TypeId} {s : JS} {v : Value} {gs : List IG} (x : JBox u B t s v gs) : B < u.heap.size := (Array.getElem?_eq_some_iff.1 x.box).1
theorem JBox.step {u u' : World} {B : Nat} {t : TypeId} {s : JS} {v : Value} {gs : List IG} (x : JBox u B t s v gs) (hb : Below u.heap.size u u') : JBox u' B t s v gs := ⟨(hb.block _ x.lt).trans x.box, x.row.below hb, x.inn.below hb⟩
theorem JBox.new {w : World} {t : TypeId} {s : JS} {v : Value} {gs : List IG} (h : IGrow w v gs) (hi : IGin w gs s.ms) : JBox (w.alloc (.cells #[v, .string s.a, .int .i64 s.j.k, .int .i64 s.j.x, .string s.j.d, .string s.j.g] t)) w.heap.size t s v gs :=
  ⟨heap_new _ _, h.below ((Below.refl _ _).alloc (Nat.le_refl _) _), hi.below ((Below.refl _ _).alloc (Nat.le_refl _) _)⟩
theorem JBox.jp {u : World} {B : Nat} {t : TypeId} {s : JS} {v : Value} {gs : List IG} (x : JBox u B t s v gs) : JP u B s v gs := by
  obtain ⟨c0, c1, c2, c3, c4, c5, _⟩ := cel6 x.box
  exact ⟨x.lt, c0, c1, c2, c3, c4, c5, x.row, x.inn⟩
structure JMax (s : JS) : Prop where
  l : s.ms.length ≤ maxLen
  m : ∀ k (hk : k < s.ms.length), IMax s.ms[k]
  a : s.a.size ≤ maxLen
  d : s.j.d.size ≤ maxLen
  g : s.j.g.size ≤ maxLen
def totZ (s : JS) : Int := ((s.ms.length : Int) + totL s.ms) + s.a.size + totJ s.j
structure JLen (s : JS) : Prop where
  l : s.ms.length ≤ 1048576
  m : ∀ k (hk : k < s.ms.length), ILen s.ms[k]
  a : s.a.size ≤ 1048576
  d : s.j.d.size ≤ 1048576
  g : s.j.g.size ≤ 1048576
theorem totZ_len {s : JS} (h : totZ s ≤ 1048576) : JLen s := by
  unfold totZ totJ at h
  have hn := totL_nn s.ms
  exact ⟨by omega, fun k hk => totI_len (by have := totL_el s.ms k hk; omega), by omega, by omega, by omega⟩
set_option maxHeartbeats 4000000 in
theorem szJobState_any {w : World} {v : Value} {gs : List IG} (s : JS) (h : IGrow w v gs) (hi : IGin w gs s.ms) (hm : JMax s) (l : Int) (h0 : 0 ≤ l) (h1 : l ≤ 1048576) (q : Int) (hq : q = if l < totZ s then -1 else l - totZ s) : Calls Tryz.prog 6 #[jsA v s.a s.j, .int .i64 l] w fun e w' => e = .returned (.int .i64 q) ∧ Below w.heap.size w w' := by
  obtain ⟨ao, cap, rfl⟩ := h.sl
  have HX : Hid (JBox (w.alloc (.cells #[.slice ao gs.length cap, .string s.a, .int .i64 s.j.k, .int .i64 s.j.x, .string s.j.d, .string s.j.g] 26)) w.heap.size 26 s (.slice ao gs.length cap) gs) := JBox.new h hi
  have HB : Hid (Below w.heap.size w (w.alloc (.cells #[.slice ao gs.length cap, .string s.a, .int .i64 s.j.k, .int .i64 s.j.x, .string s.j.d, .string s.j.g] 26))) := (Below.refl _ _).alloc (Nat.le_refl _) _
  have HM : Hid (JMax s) := hm
  have hmx : maxLen ≤ 9223372036854775807 := by decide
  have n1 := totL_nn s.ms
  have z1 := hm.a
  have z2 := hm.d
  have z3 := hm.g
  have hJ : totJ s.j = (s.j.d.size : Int) + s.j.g.size := rfl
  unfold totZ at hq
  have HQ : Hid _ := hq
  have HS : Hid _ := fun (u : World) (y : JBox u w.heap.size 26 s (.slice ao gs.length cap) gs) (q : Int) hq => szImageS_any y.row y.inn l h0 h1 hm.l hm.m q hq
  clear h hi hm hq
  unfold jsA
  obtain ⟨T, hT⟩ : ∃ T : Int, T = (s.ms.length : Int) + totL s.ms := ⟨_, rfl⟩
  rw [← hT] at HS HQ
  by_cases t1 : l < T
  · have HQ2 : Hid (q = -1) := (show q = -1 by rw [HQ.out, if_pos (by omega)])
    have HS2 : Hid _ := fun u y => HS.out u y (-1) (by rw [if_pos t1])
    clear HS HQ h0 h1 hT n1 z1 z2 z3 hJ t1
    go_enter Tryz.func6, Tryz.ntmps6
    go_wp2_with (go_at_call 24; refine Calls.mono (HS2.out _ HX.out) ?_; rintro e u1 ⟨rfl, hu1⟩; have HB1 : Hid (Below w.heap.size w u1) := HB.out.trans (hu1.mono HB.out.size); clear hu1)
    go_ret
    exact ⟨ret_int HQ2.out.symm, HB1.out⟩
  obtain ⟨l2, hl2⟩ : ∃ l2 : Int, l2 = l - T := ⟨_, rfl⟩
  have HS2 : Hid _ := fun u y => HS.out u y l2 (by rw [if_neg t1]; exact hl2)
  have g2 : ¬ l2 < 0 := by omega
  by_cases t2 : l2 < (s.a.size : Int)
  · have HQ2 : Hid (q = -1) := (show q = -1 by rw [HQ.out, if_pos (by omega)])
    have hw : IntKind.i64.wrap (l2 - (s.a.size : Int)) = l2 - (s.a.size : Int) := by rw [IntKind.wrap_i64]; omega
    have g3 : l2 - (s.a.size : Int) < 0 := by omega
    clear HS HQ h0 h1 hT n1 z1 z2 z3 hJ t1 hl2
    go_enter Tryz.func6, Tryz.ntmps6
    go_wp2_with (go_at_call 24; refine Calls.mono (HS2.out _ HX.out) ?_; rintro e u1 ⟨rfl, hu1⟩; have HB1 : Hid (Below w.heap.size w u1) := HB.out.trans (hu1.mono HB.out.size); obtain ⟨c0, c1, c2, c3, c4, c5, _⟩ := cel6 (HX.out.step hu1).box; have hlt := (HX.out.step hu1).lt; clear hu1)
    go_ret
    exact ⟨ret_int HQ2.out.symm, HB1.out⟩
  obtain ⟨l3, hl3⟩ : ∃ l3 : Int, l3 = l2 - s.a.size := ⟨_, rfl⟩
  have hw : IntKind.i64.wrap (l2 - (s.a.size : Int)) = l3 := by rw [IntKind.wrap_i64]; omega
  have g3 : ¬ l3 < 0 := by omega
  have HZ : Hid _ := fun (u : World) (q : Int) hq => szJob_any s.j l3 u (by omega) (by omega) z2 z3 q hq
  unfold jbA at HZ
  by_cases t3 : l3 < totJ s.j
  · have HQ2 : Hid (q = -1) := (show q = -1 by rw [HQ.out, if_pos (by omega)])
    have HZ2 : Hid _ := fun u => HZ.out u (-1) (by rw [if_pos t3])
    clear HS HQ h0 h1 hT n1 z1 z2 z3 hJ t1 hl2 hl3 HZ t2 t3
    go_enter Tryz.func6, Tryz.ntmps6
    go_wp2_with (first | (go_at_call 24; refine Calls.mono (HS2.out _ HX.out) ?_; rintro e u1 ⟨rfl, hu1⟩; have HB1 : Hid (Below w.heap.size w u1) := HB.out.trans (hu1.mono HB.out.size); obtain ⟨c0, c1, c2, c3, c4, c5, _⟩ := cel6 (HX.out.step hu1).box; have hlt := (HX.out.step hu1).lt; clear hu1) | (go_at_call 25; refine Calls.mono (HZ2.out _) ?_; rintro e u2 ⟨rfl, hu2⟩; have HB2 : Hid (Below w.heap.size w u2) := HB1.out.trans (hu2.mono HB1.out.size); clear hu2))
    go_ret
    exact ⟨ret_int HQ2.out.symm, HB2.out⟩
  · obtain ⟨l4, hl4⟩ : ∃ l4 : Int, l4 = l3 - totJ s.j := ⟨_, rfl⟩
    have HQ2 : Hid (q = l4) := (show q = l4 by rw [HQ.out, if_neg (by omega)]; omega)
    have HZ2 : Hid _ := fun u => HZ.out u l4 (by rw [if_neg t3]; exact hl4)
    have g4 : ¬ l4 < 0 := by omega
    clear HS HQ h0 h1 hT n1 z1 z2 z3 hJ t1 hl2 hl3 HZ t2 t3 hl4
    go_enter Tryz.func6, Tryz.ntmps6
    go_wp2_with (first | (go_at_call 24; refine Calls.mono (HS2.out _ HX.out) ?_; rintro e u1 ⟨rfl, hu1⟩; have HB1 : Hid (Below w.heap.size w u1) := HB.out.trans (hu1.mono HB.out.size); obtain ⟨c0, c1, c2, c3, c4, c5, _⟩ := cel6 (HX.out.step hu1).box; have hlt := (HX.out.step hu1).lt; clear hu1) | (go_at_call 25; refine Calls.mono (HZ2.out _) ?_; rintro e u2 ⟨rfl, hu2⟩; have HB2 : Hid (Below w.heap.size w u2) := HB1.out.trans (hu2.mono HB1.out.size); clear hu2))
    go_ret
    exact ⟨ret_int HQ2.out.symm, HB2.out⟩
end Go.Proofs.YtomfbiiegcmmlaaGreat
