import Derived.RangeFuncNested
import Derived.RangeFuncBound
import Derived.RangeFuncCalls
import Derived.RangeFuncLeaves
import Derived.Shelf.Abstract
import Derived.Shelf.RegionOpen
import Derived.WalkKit
import Derived.OwnWalkIn
import Derived.TacticsInMore
import Derived.LoopNIn
import Derived.LoopIn
import Derived.Test.YtomfbiiegcmmlabMq1
namespace Go.Proofs.Ytomfbiiegcmmlab
open Go.RowKit Go.Shelf
attribute [local go_sem] Oper.semAt_some

/-- A slot behind a pointer. -/
structure SO (w : World) (g o : Nat) (x : SL) : Prop where
  lt : g < w.heap.size
  c0 : w.cell? ⟨g, o, none⟩ = some (.int .i64 x.kind)
  c1 : w.cell? ⟨g, o + 1, none⟩ = some (.int .i64 x.pos)
  c2 : w.cell? ⟨g, o + 2, none⟩ = some (.int .i64 x.used)
def gpV (q : MG) (n : Nat) : Value := match q.s with
  | .slice (some p) _ _ => .pointer (some ⟨p.block, p.off + n * 3, none⟩)
  | _ => .nilFunc
/-- The pointers to all slots. -/
def ptZ : List MG → List GS → List Value
  | q :: qs, g :: gs => (List.range g.ss.length).map (gpV q) ++ ptZ qs gs
  | _, _ => []
def upG (gs : List GS) (k : Nat) : List SL := (gs.take k).flatMap (·.ss)
theorem upG_zero (gs : List GS) : upG gs 0 = [] := rfl
theorem upG_succ (gs : List GS) (k : Nat) (hk : k < gs.length) : (upG gs (k + 1)).length = (upG gs k).length + gs[k].ss.length := by
  unfold upG
  rw [List.take_succ_eq_append_getElem hk, List.flatMap_append, List.length_append]
  simp
theorem upG_all (gs : List GS) : upG gs gs.length = gs.flatMap (·.ss) := by unfold upG; rw [List.take_length]
theorem upG_lt (gs : List GS) (k : Nat) (hk : k < gs.length) (n : Nat) (hn : n < gs[k].ss.length) : (upG gs k).length + n < (gs.flatMap (·.ss)).length := by
  have h1 := upG_succ gs k hk
  have e : gs.flatMap (·.ss) = upG gs (k + 1) ++ (gs.drop (k + 1)).flatMap (·.ss) := by
    unfold upG
    rw [← List.flatMap_append, List.take_append_drop]
  rw [e, List.length_append]
  omega
theorem ptZ_idx : ∀ (qs : List MG) (gs : List GS) (k : Nat) (hq : k < qs.length) (hk : k < gs.length) (n : Nat), n < gs[k].ss.length → (ptZ qs gs)[(upG gs k).length + n]? = some (gpV qs[k] n) := by
  intro qs
  induction qs with
  | nil => intro gs k hq; simp at hq
  | cons q qs ih =>
    intro gs k hq hk n hn
    cases gs with
    | nil => simp at hk
    | cons g gs =>
      cases k with
      | zero =>
        have hn2 : n < g.ss.length := hn
        show ((List.range g.ss.length).map (gpV q) ++ ptZ qs gs)[(0 : Nat) + n]? = some (gpV q n)
        rw [Nat.zero_add, List.getElem?_append_left (by simpa using hn2)]
        simp [hn2]
      | succ k =>
        have hk2 : k < gs.length := by simpa using hk
        have hq2 : k < qs.length := by simpa using hq
        have e : (upG (g :: gs) (k + 1)).length = g.ss.length + (upG gs k).length := by
          unfold upG
          simp
        show ((List.range g.ss.length).map (gpV q) ++ ptZ qs gs)[(upG (g :: gs) (k + 1)).length + n]? = some (gpV qs[k] n)
        rw [e, List.getElem?_append_right (by simp; omega)]
        have := ih gs k hq2 hk2 n hn
        simp only [List.length_map, List.length_range]
        rw [show g.ss.length + (upG gs k).length + n - g.ss.length = (upG gs k).length + n by omega]
        exact this
theorem ptZ_slot {w : World} : ∀ (qs : List MG) (gs : List GS) (_ : qs.length = gs.length) (_ : ∀ k (hq : k < qs.length) (hk : k < gs.length), SLrow w qs[k].s gs[k].ss) (j : Nat) (hj : j < (gs.flatMap (·.ss)).length), ∃ g o, (ptZ qs gs)[j]? = some (.pointer (some ⟨g, o, none⟩)) ∧ SO w g o (gs.flatMap (·.ss))[j] := by
  intro qs
  induction qs with
  | nil => intro gs hl _ j hj; cases gs with | nil => simp at hj | cons g gs => simp at hl
  | cons q qs ih =>
    intro gs hl hel j hj
    cases gs with
    | nil => simp at hl
    | cons g gs =>
      have e : (g :: gs).flatMap (·.ss) = g.ss ++ gs.flatMap (·.ss) := by simp
      by_cases hjl : j < g.ss.length
      · have hr : SLrow w q.s g.ss := hel 0 (by simp) (by simp)
        obtain ⟨gg, oo, cap, hv, _, hg, hc⟩ := hr.resolve_left (fun h => by rw [h.1] at hjl; simp at hjl)
        refine ⟨gg, oo + j * 3, ?_, ?_⟩
        · show ((List.range g.ss.length).map (gpV q) ++ ptZ qs gs)[j]? = _
          rw [List.getElem?_append_left (by simpa using hjl)]
          simp [hjl, gpV, hv]
        · obtain ⟨d0, d1, d2⟩ := hc j hjl
          have e2 : ((g :: gs).flatMap (·.ss))[j] = g.ss[j] := by
            simp only [e]
            rw [List.getElem_append_left hjl]
          rw [e2]
          exact ⟨hg, d0, d1, d2⟩
      · have hj2 : j - g.ss.length < (gs.flatMap (·.ss)).length := by rw [e, List.length_append] at hj; omega
        obtain ⟨gg, oo, h1, h2⟩ := ih gs (by simpa using hl) (fun k hq hk => hel (k + 1) (by simp; omega) (by simp; omega)) (j - g.ss.length) hj2
        refine ⟨gg, oo, ?_, ?_⟩
        · show ((List.range g.ss.length).map (gpV q) ++ ptZ qs gs)[j]? = _
          rw [List.getElem?_append_right (by simp; omega)]
          simpa using h1
        · have e2 : ((g :: gs).flatMap (·.ss))[j] = (gs.flatMap (·.ss))[j - g.ss.length] := by
            simp only [e]
            rw [List.getElem_append_right (by omega)]
          rw [e2]
          exact h2
abbrev TS (h : MH) : Type := { j : Nat // j < (allS h).length }
def ptV (a : HA) (h : MH) (j : Nat) : Value := (ptZ a.qs h.gs).getD j .nilFunc
theorem ptV_slot {w : World} {h : MH} {a : HA} (r : HRows w h a) (x : TS h) : ∃ g o, ptV a h x.1 = .pointer (some ⟨g, o, none⟩) ∧ SO w g o (allS h)[x.1] := by
  obtain ⟨g, o, h1, h2⟩ := ptZ_slot a.qs h.gs r.gi.len (fun k hq hk => (r.gi.el k hq hk).2.1) x.1 x.2
  exact ⟨g, o, by unfold ptV; rw [List.getD_eq_getElem?_getD, h1]; rfl, h2⟩
def upU (h : MH) (k : Nat) (ys : List (TS h)) : Prop := ys.map (·.val) = List.range k
theorem upU_snoc {h : MH} {k : Nat} {ys : List (TS h)} (hu : upU h k ys) (hk : k < (allS h).length) : upU h (k + 1) (ys ++ [⟨k, hk⟩]) := by
  unfold upU at *
  rw [List.map_append, hu, List.range_succ]
  rfl
theorem upU_len {h : MH} {k : Nat} {ys : List (TS h)} (hu : upU h k ys) : ys.length = k := by
  have := congrArg List.length hu
  simpa using this
/-- What a round keeps: all below n0, and the block of what the iterator captured. -/
def Kt (n0 Bm : Nat) (W W' : World) : Prop := Below n0 W W' ∧ W'.heap[Bm]? = W.heap[Bm]?
theorem Kt.trans {n0 Bm : Nat} {A B C : World} (h : Kt n0 Bm A B) (k : Kt n0 Bm B C) : Kt n0 Bm A C := ⟨h.1.trans k.1, k.2.trans h.2⟩
set_option maxRecDepth 100000 in
set_option maxHeartbeats 8000000 in
theorem slots1_in (n : Nat) (hn : 1 ≤ n) (l Bm B : Nat) (h : MH) (a : HA) (w : World) (hQ : QH w B h a) (hg8 : h.gs.length ≤ 8) (hs32 : ∀ k (hk : k < h.gs.length), h.gs[k].ss.length ≤ 32) (J Jx : List (TS h) → World → Prop)
    (hY : ∀ pre (x : TS h) W, J pre W → pre.length < (allS h).length → YieldAt Fence.wide (n - 1) Try.prog l #[ptV a h x.1] W fun e W' =>
      (e = .returned (.bool true) ∧ J (pre ++ [x]) W' ∧ Kt w.heap.size Bm W W') ∨ (e = .returned (.bool false) ∧ Jx (pre ++ [x]) W'))
    (W : World) (hW : Below w.heap.size w W) (hBm : W.cell? ⟨Bm, 0, none⟩ = some (.pointer (some ⟨B, 0, none⟩))) (h0 : J [] W) :
    CallsIn Fence.wide n Try.prog 135 #[.func (.yield l) #[] #[], .pointer (some ⟨Bm, 0, none⟩)] W fun e W' => (∃ v, e = .returned v) ∧
      ((∃ ys, upU h (allS h).length ys ∧ J ys W') ∨ (∃ pre, True ∧ Jx pre W')) := by
  have HQ : Hid (QH w B h a) := hQ
  obtain ⟨ag, kg, hvg⟩ := hQ.row.mg.sl
  rw [hQ.row.gi.len] at hvg
  have HVG : Hid (a.vg = .slice ag h.gs.length kg) := hvg
  have HQU : Hid (∀ u, Below w.heap.size w u → u.cell? ⟨B, 4, none⟩ = some (.slice ag h.gs.length kg)) := fun u hu => by
    have := (HQ.out.below hu).c4
    rw [HVG.out] at this
    exact this
  have c4 := HQU.out W hW
  have HAL : Hid ((allS h).length = (upG h.gs h.gs.length).length) := (show (allS h).length = (upG h.gs h.gs.length).length by rw [upG_all]; rfl)
  clear hQ hvg
  refine callsIn_of_wp Try.func135 rfl trivial ?_ rfl
  simp only [Try.ntmps135, List.size_toArray, List.length_cons, List.length_nil, Nat.reduceAdd, Nat.reduceSub, Array.replicate_succ, Array.replicate_zero, List.push_toArray, List.append_toArray, List.nil_append, List.cons_append]
  gi_wp2
  gi_loopw [11] (fun i wr => ∃ (k : Nat) (pre : List (TS h)), k ≤ h.gs.length ∧ i = .int .i64 k ∧ upU h (upG h.gs k).length pre ∧ J pre wr ∧ Below w.heap.size w wr ∧ wr.cell? ⟨Bm, 0, none⟩ = some (.pointer (some ⟨B, 0, none⟩))) (fun i _ => h.gs.length - (intOf i).toNat)
  case atStart => exact ⟨0, [], Nat.zero_le _, rfl, rfl, h0, hW, hBm⟩
  case round =>
    obtain ⟨k, pre, hk, rfl, hup, hJk, hbk, hcm⟩ := hrel
    clear hBm hW h0 c4
    by_cases hlt : k < h.gs.length
    · have hkq : k < a.qs.length := by rw [HQ.out.row.gi.len]; exact hlt
      obtain ⟨g, o, cap2, hv, _, hg, hc⟩ := HQ.out.row.mg.resolve_left (fun h => by rw [h.1] at hkq; simp at hkq)
      have hv3 := HVG.out.symm.trans hv
      injection hv3 with hv1 hv2 hv3
      subst hv1 hv3
      clear hv2 hv
      obtain ⟨az9, ks, hss⟩ := (HQ.out.row.gi.el k hkq hlt).2.1.sl
      have HMG : Hid (∀ u, Below w.heap.size w u → u.cell? ⟨g, o + k * 3, none⟩ = some (.slice az9 h.gs[k].ss.length ks)) := fun u hu => by
        have := (hc.below hu hg k hkq).1
        rw [hss] at this
        exact this
      have hT32 : h.gs[k].ss.length ≤ 32 := hs32 k hlt
      have HPT : Hid (∀ m, m < h.gs[k].ss.length → ptV a h ((upG h.gs k).length + m) = gpV a.qs[k] m) := fun m hm => by
        unfold ptV
        rw [List.getD_eq_getElem?_getD, ptZ_idx a.qs h.gs k hkq hlt m hm]
        rfl
      have HLT : Hid (∀ m, m < h.gs[k].ss.length → (upG h.gs k).length + m < (allS h).length) := fun m hm => upG_lt h.gs k hlt m hm
      have HUS : Hid ((upG h.gs (k + 1)).length = (upG h.gs k).length + h.gs[k].ss.length) := upG_succ h.gs k hlt
      have c4 := HQU.out wr hbk
      have d0 := HMG.out wr hbk
      have hk0 : (0 : Int) ≤ (k : Int) := by omega
      have hk1 : (k : Int) < (h.gs.length : Int) := by omega
      have hgw : g < wr.heap.size := Nat.lt_of_lt_of_le hg hbk.size
      have HJK : Hid (J pre wr) := hJk
      have HUP : Hid (upU h (upG h.gs k).length pre) := hup
      have HBK : Hid (Below w.heap.size w wr) := hbk
      generalize h.gs[k].ss.length = T at *
      clear hc hJk hup hbk
      gi_wp2
      gi_loopw [25] (fun i wr => ∃ (m : Nat) (pre : List (TS h)), m ≤ T ∧ i = .int .i64 m ∧ upU h ((upG h.gs k).length + m) pre ∧ J pre wr ∧ Below w.heap.size w wr ∧ wr.cell? ⟨Bm, 0, none⟩ = some (.pointer (some ⟨B, 0, none⟩))) (fun i _ => T - (intOf i).toNat)
      case atStart => exact ⟨0, pre, Nat.zero_le _, rfl, HUP.out, HJK.out, HBK.out, hcm⟩
      case round =>
        obtain ⟨m, pre, hm, rfl, hup, hJm, hbm, hcm2⟩ := hrel
        clear c4 d0 hcm
        by_cases hmt : m < T
        · have hjl := HLT.out m hmt
          have htv := HPT.out m hmt
          obtain ⟨gi, oi, cap3, hv9, _, hgi, _⟩ := (HQ.out.row.gi.el k hkq hlt).2.1.resolve_left (fun h => by
            obtain ⟨ha, hb⟩ := h
            rw [hss] at hb
            obtain ⟨_, _, hb⟩ := hb
            injection hb with _ hb2 _
            omega)
          have hsv := hss.symm.trans hv9
          injection hsv with hs1 hs2 hs3
          subst hs1 hs3
          have hgp : gpV a.qs[k] m = .pointer (some ⟨gi, oi + m * 3, none⟩) := by unfold gpV; rw [hv9]
          rw [hgp] at htv
          have c4 := HQU.out wr hbm
          have d0 := HMG.out wr hbm
          obtain ⟨fn2, tmps2, assign2, body2, hy0, hR⟩ := hY pre ⟨(upG h.gs k).length + m, hjl⟩ wr hJm (by rw [upU_len hup]; exact hjl)
          simp only [htv] at hy0
          have hy : (Instr.yield l #[.pointer (some ⟨gi, oi + m * 3, none⟩)]).run Try.prog wr = .ok (.round l fn2 tmps2 assign2 body2) wr := hy0
          have hm0 : (0 : Int) ≤ (m : Int) := by omega
          have hm1 : (m : Int) < (T : Int) := by omega
          have hgw3 : g < wr.heap.size := Nat.lt_of_lt_of_le hg hbm.size
          have HUP2 : Hid (upU h ((upG h.gs k).length + m) pre) := hup
          have HBM : Hid (Below w.heap.size w wr) := hbm
          clear hy0 hup htv hv9 hgp hs2 hbm
          gi_wp2
          refine hR.mono ?_
          clear hR hy
          rintro e W3 (⟨rfl, hJ3, hk3⟩ | ⟨rfl, hJx3⟩)
          · have hc3 : W3.cell? ⟨Bm, 0, none⟩ = some (.pointer (some ⟨B, 0, none⟩)) := (World.cell?_of_block hk3.2).trans hcm2
            gi_wp2
            go_roundw
            case rel => exact ⟨m + 1, _, by omega, by simp, upU_snoc HUP2.out hjl, hJ3, HBM.out.trans hk3.1, hc3⟩
            case measure => simp [intOf]; omega
          · gi_wp2
            refine bodyPost_ret (results_none rfl _ _ _) rfl ?_
            exact ⟨⟨_, rfl⟩, .inr ⟨_, trivial, hJx3⟩⟩
        · obtain rfl : m = T := by omega
          have HUP3 : Hid (upU h (upG h.gs (k + 1)).length pre) := (show upU h (upG h.gs (k + 1)).length pre by rw [HUS.out]; exact hup)
          gi_wp2
          go_roundw
          case rel => exact ⟨k + 1, _, by omega, by simp, HUP3.out, hJm, hbm, hcm2⟩
          case measure => simp [intOf]; omega
    · obtain rfl : k = h.gs.length := by omega
      gi_wp2
      go_end0
      exact ⟨⟨_, rfl⟩, .inl ⟨_, by rw [HAL.out]; exact hup, hJk⟩⟩
end Go.Proofs.Ytomfbiiegcmmlab
