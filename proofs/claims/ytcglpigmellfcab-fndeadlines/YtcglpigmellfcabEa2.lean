import Derived.Test.YtcglpigmellfcabEa1
import Derived.BigRegion
import Derived.BigQuiet
namespace Go.Proofs.Ytcglpigmellfcab
open Go.ChangeShapes Go.WideShapes Go.ChangeAt Go.RowKit

/-- A row of tasks that run, in its block. -/
def TKown (w : World) (B g c : Nat) (zs : List TK) : Prop := w.ownsRow B 110 6 (.slice (some ⟨g, 0, none⟩) zs.length c) zs.length (tkR zs)
theorem TKown.cells {w : World} {B g c : Nat} {zs : List TK} (h : TKown w B g c zs) (k : Nat) (hk : k < zs.length) : w.cell? ⟨g, k * 6, none⟩ = some (.int .i64 zs[k].start) ∧ w.cell? ⟨g, k * 6 + 1, none⟩ = some (.int .i64 zs[k].period) ∧ w.cell? ⟨g, k * 6 + 2, none⟩ = some (.int .i64 zs[k].budget) ∧ w.cell? ⟨g, k * 6 + 3, none⟩ = some (.int .i64 zs[k].left) ∧ w.cell? ⟨g, k * 6 + 4, none⟩ = some (.int .i64 zs[k].fin) ∧ w.cell? ⟨g, k * 6 + 5, none⟩ = some (.int .i64 zs[k].missed) := by
  rcases TKrow.of h with ⟨e, _⟩ | ⟨g2, o, cap2, hv, _, _, hc⟩
  · rw [e] at hk
    simp at hk
  · injection hv with e1
    injection e1 with e2
    obtain ⟨rfl, rfl⟩ : g = g2 ∧ 0 = o := ⟨congrArg Addr.block e2, congrArg Addr.off e2⟩
    have h3 := hc k hk
    simp only [Nat.zero_add] at h3
    exact h3
theorem TKown.lt {w : World} {B g c : Nat} {zs : List TK} (h : TKown w B g c zs) : g < w.heap.size ∧ B ≤ g := by
  have := World.ownsRow.lt h g rfl
  omega
theorem TKown.frz {w : World} {B g c : Nat} {zs : List TK} (h : TKown w B g c zs) (x : Nat) : w.frozen? ⟨g, x, none⟩ = false := World.ownsRow.frozenAt h x
theorem TKown.put {w : World} {B g c : Nat} {zs : List TK} (h : TKown w B g c zs) {j : Nat} (hj : j < 6) (k : Nat) (hk : k < zs.length) (v : Value) (m : TK) (hm : tkC m = (tkC zs[k]).set j v) : TKown (w.setCell ⟨g, k * 6 + j, none⟩ v) B g c (zs.set k m) ∧ w.grownBy (w.setCell ⟨g, k * 6 + j, none⟩ v) (some g) := by
  obtain ⟨q1, q2⟩ := World.ownsRow.stored h (k * 6 + j) v
  rw [tkR_put hj zs k hk m hm] at q1
  refine ⟨?_, q2⟩
  unfold TKown
  rw [List.length_set]
  exact q1
theorem TKown.drewN {w : World} {B g c : Nat} {zs : List TK} (h : TKown w B g c zs) (n : Nat) : TKown (w.drewN n) B g c zs := World.ownsRow.kept (row := none) h ⟨rfl, rfl, rfl, Nat.le_refl _, fun _ _ _ => rfl⟩ (by simp [Value.ownBlock])
theorem gdrK (w : World) (n : Nat) (r : Option Nat) : w.grownBy (w.drewN n) r := ⟨rfl, rfl, rfl, Nat.le_refl _, fun _ _ _ => rfl⟩
theorem set_get (zs : List TK) (k : Nat) (hk : k < zs.length) (m : TK) (h : m = zs[k]) : zs.set k m = zs := by
  subst h
  exact List.set_getElem_self hk
set_option maxRecDepth 100000 in
set_option maxHeartbeats 4000000 in
theorem begin_any {w : World} {B g c : Nat} {zs : List TK} (h : TKown w B g c zs) (k : Nat) (hk : k < zs.length) (q : Int) (hq0 : 0 ≤ q) (hq1 : q ≤ 1000) (hz : tkOk q zs[k]) :
    Calls Try.prog 96 #[.pointer (some ⟨g, k * 6, none⟩), .int .i64 q] w fun e w' => (∃ v, e = .returned v) ∧ TKown w' B g c (zs.set k (bgn q zs[k])) ∧ w.grownBy w' (some g) := by
  obtain ⟨c0, c1, c2, c3, c4, c5⟩ := h.cells k hk
  have f3 := h.frz (k * 6 + 3)
  have f4 := h.frz (k * 6 + 4)
  have f5 := h.frz (k * 6 + 5)
  have gl := h.lt.1
  have HO : Hid (TKown w B g c zs) := h
  obtain ⟨a1, a2, a3, a4, a5, a6, a7, a8, a9, b1, b2, b3⟩ := hz
  have hp0 : zs[k].period ≠ 0 := by omega
  have hrm : (q - zs[k].start).tmod zs[k].period = (q - zs[k].start) % zs[k].period ∨ q < zs[k].start := by
    by_cases hs : q < zs[k].start
    · exact .inr hs
    · exact .inl (Int.tmod_eq_emod_of_nonneg (by omega))
  clear h
  cases hb : beg q zs[k]
  · have HBG : Hid (zs.set k (bgn q zs[k]) = zs) := (show zs.set k (bgn q zs[k]) = zs from set_get zs k hk _ (by unfold bgn; rw [hb]; rfl))
    cases hs : decide (q < zs[k].start)
    · have hs2 : ¬ q < zs[k].start := of_decide_eq_false hs
      have hr : ((q - zs[k].start).tmod zs[k].period != 0) = true := (by
        have e : decide (zs[k].start ≤ q) = true := decide_eq_true (by omega)
        unfold beg at hb
        rw [e] at hb
        rw [hrm.resolve_right hs2]
        simpa using hb)
      have hr4 : ((q - zs[k].start) % zs[k].period != 0) = true := by rw [hrm.resolve_right hs2] at hr; exact hr
      clear hb hrm
      generalize zs[k] = z at *
      go_enter Try.func96, Try.ntmps96
      go_upto_region 0 with fail
      go_quiet (fail)
      go_wp2
      refine bodyPost_ret (results_none rfl _ _ _) rfl ?_
      exact ⟨⟨_, rfl⟩, by rw [HBG.out]; exact HO.out.drewN _, gdrK _ _ _⟩
    · clear hb hrm
      generalize zs[k] = z at *
      go_enter Try.func96, Try.ntmps96
      go_upto_region 0 with fail
      go_quiet (fail)
      go_wp2
      refine bodyPost_ret (results_none rfl _ _ _) rfl ?_
      exact ⟨⟨_, rfl⟩, by rw [HBG.out]; exact HO.out.drewN _, gdrK _ _ _⟩
  · have hbb := hb
    unfold beg at hbb
    rw [Bool.and_eq_true, decide_eq_true_eq] at hbb
    have hs : decide (q < zs[k].start) = false := decide_eq_false (by omega)
    have hr : ((q - zs[k].start).tmod zs[k].period != 0) = false := (by
      rw [hrm.resolve_right (by omega)]
      simpa using hbb.2)
    have HBG : Hid (bgn q zs[k] = ⟨zs[k].start, zs[k].period, zs[k].budget, zs[k].budget, q + zs[k].period, if 0 < zs[k].left then zs[k].missed + 1 else zs[k].missed⟩) := (show bgn q zs[k] = _ by unfold bgn; rw [hb]; rfl)
    clear hbb hrm hb
    cases hlf : decide (0 < zs[k].left)
    · have hlf2 : ¬ 0 < zs[k].left := of_decide_eq_false hlf
      rw [if_neg hlf2] at HBG
      clear hlf2
      generalize hz : zs[k] = z at *
      have HZ : Hid (zs[k] = z) := hz
      clear hz
      go_enter Try.func96, Try.ntmps96
      go_upto_region 0 with fail
      go_quiet (fail)
      go_wp2
      go_region
      all_goals go_wp2
      have q1 := (HO.out.drewN (nq + 1)).put (j := 3) (by omega) k hk (.int .i64 z.budget) ⟨z.start, z.period, z.budget, z.budget, z.fin, z.missed⟩ (by rw [HZ.out]; rfl)
      have q2 := q1.1.put (j := 4) (by omega) k (by rw [List.length_set]; exact hk) (.int .i64 (q + z.period)) ⟨z.start, z.period, z.budget, z.budget, q + z.period, z.missed⟩ (by rw [List.getElem_set_self]; rfl)
      rw [List.set_set] at q2
      go_end0
      exact ⟨⟨_, rfl⟩, by rw [HBG.out]; exact q2.1, gbTK (gbTK (gdrK _ _ _) q1.2) q2.2⟩
    · have hlf2 : 0 < zs[k].left := of_decide_eq_true hlf
      rw [if_pos hlf2] at HBG
      clear hlf2
      generalize hz : zs[k] = z at *
      have HZ : Hid (zs[k] = z) := hz
      clear hz
      go_enter Try.func96, Try.ntmps96
      go_upto_region 0 with fail
      go_quiet (fail)
      go_upto_region 3 with fail
      have q0 := (HO.out.drewN nq).put (j := 5) (by omega) k hk (.int .i64 (z.missed + 1)) ⟨z.start, z.period, z.budget, z.left, z.fin, z.missed + 1⟩ (by rw [HZ.out]; rfl)
      have HQ0 : Hid _ := q0
      obtain ⟨d0, d1, d2, d3, d4, d5⟩ := q0.1.cells k (by rw [List.length_set]; exact hk)
      simp only [List.getElem_set_self] at d0 d1 d2 d3 d4 d5
      have e3 := q0.1.frz (k * 6 + 3)
      have e4 := q0.1.frz (k * 6 + 4)
      have el := q0.1.lt.1
      clear q0 c0 c1 c2 c3 c4 c5 f3 f4 f5 gl
      generalize ((w.drewN nq).setCell ⟨g, k * 6 + 5, none⟩ (.int .i64 (z.missed + 1))) = w5 at *
      go_region
      all_goals go_wp2
      have q1 := (HQ0.out.1.drewN 1).put (j := 3) (by omega) k (by rw [List.length_set]; exact hk) (.int .i64 z.budget) ⟨z.start, z.period, z.budget, z.budget, z.fin, z.missed + 1⟩ (by rw [List.getElem_set_self]; rfl)
      have q2 := q1.1.put (j := 4) (by omega) k (by rw [List.length_set, List.length_set]; exact hk) (.int .i64 (q + z.period)) ⟨z.start, z.period, z.budget, z.budget, q + z.period, z.missed + 1⟩ (by rw [List.getElem_set_self]; rfl)
      rw [List.set_set, List.set_set] at q2
      go_end0
      exact ⟨⟨_, rfl⟩, by rw [HBG.out]; exact q2.1, gbTK (gbTK (gbTK (gbTK (gdrK _ _ _) HQ0.out.2) (gdrK _ 1 _)) q1.2) q2.2⟩
end Go.Proofs.Ytcglpigmellfcab
