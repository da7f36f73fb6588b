import Derived.Test.YtefeahilamiiaaaRt4
import Derived.Deep.CutRange
namespace Go.Proofs.Ytefeahilamiiaaa
open Go.ChangeShapes Go.WideShapes Go.ChangeAt Go.RowKit

set_option maxRecDepth 100000 in
set_option maxHeartbeats 4000000 in
theorem l08Rising_any {w : World} {v : Value} {zs : List Int} (h : Irow w v zs) (hl : zs.length ≤ 1048576) : Calls Try.prog 39 #[v] w fun e w' => e = .returned (.bool (risB zs)) ∧ Below w.heap.size w w' := by
  obtain ⟨ao, cap, rfl⟩ := h.sl
  have HR : Hid (Irow w (.slice ao zs.length cap) zs) := h
  clear h
  by_cases hz : zs.length = 0
  · have hz1 : ¬ (1 : Int) < (zs.length : Int) := by omega
    go_enter Try.func39, Try.ntmps39
    go_wp2
    go_loopw [3] (fun i wr => i = .int .i64 1 ∧ wr = w) (fun i _ => 0)
    case atStart => exact ⟨rfl, rfl⟩
    case round =>
      obtain ⟨rfl, rfl⟩ := hrel
      go_wp2
      go_ret
      exact ⟨ret_bool (by unfold risB; rw [hz]; rfl), Below.refl _ _⟩
  · go_enter Try.func39, Try.ntmps39
    go_wp2
    go_loopw [3] (fun i wr => ∃ k : Nat, k + 1 ≤ zs.length ∧ i = .int .i64 ((k + 1 : Nat) : Int) ∧ allB (rk zs) (k + 1) = true ∧ Below w.heap.size w wr) (fun i _ => zs.length - (intOf i).toNat)
    case atStart => exact ⟨0, by omega, rfl, rfl, Below.refl _ _⟩
    case round =>
      obtain ⟨k, hk, rfl, hok, hb⟩ := hrel
      have HOK : Hid (allB (rk zs) (k + 1) = true) := hok
      have HB : Hid (Below w.heap.size w wr) := hb
      clear hok
      by_cases hlt : k + 1 < zs.length
      · obtain ⟨g, o, cap2, hv, _, hg, hc⟩ := HR.out.resolve_left (fun h => by rw [h.1] at hlt; simp at hlt)
        injection hv with hv1 hv2 hv3
        subst hv1 hv3
        have d0 := hc.below hb hg (k + 1) hlt
        have d1 := hc.below hb hg k (by omega)
        have hpk : rk zs (k + 1) = decide (zs[k] < zs[k + 1]) := by unfold rk; rw [Nat.add_sub_cancel, gd hlt, gd (show k < zs.length by omega)]; simp
        have hk0 : (0 : Int) ≤ ((k + 1 : Nat) : Int) := by omega
        have hk1 : ((k + 1 : Nat) : Int) < (zs.length : Int) := by omega
        have hj1 : ((k + 1 : Nat) : Int) - 1 = (k : Int) := by omega
        have hj2 : (k : Int) < (zs.length : Int) := by omega
        have hj3 : (0 : Int) ≤ (k : Int) := by omega
        generalize zs[k + 1] = z at *
        generalize zs[k] = y at *
        have hgd : Hid _ := hpk
        clear hc hpk
        by_cases hyz : z ≤ y
        · go_wp2_with fail
          go_quiet (fail)
          go_wp2
          go_ret
          exact ⟨ret_bool (by unfold risB; rw [allB_bad hlt (hgd.out.trans (by simp; omega))]), bdn HB.out _⟩
        · go_wp2_with fail
          go_quiet (fail)
          go_wp2
          go_roundw
          case rel => exact ⟨k + 1, hlt, by go_num, by rw [allB_succ, HOK.out, hgd.out]; simp; omega, bdn HB.out _⟩
          case measure => simp [intOf]; omega
      · have hks : zs.length = k + 1 := by omega
        have hnl : ¬ ((k + 1 : Nat) : Int) < (zs.length : Int) := by omega
        go_wp2
        go_ret
        exact ⟨ret_bool (by unfold risB; rw [hks, HOK.out]), HB.out⟩
/-- A cpu. -/
structure CP where
  lim : Int
  ps : List Int
  ss : List Int
def cpB (c : CP) : Bool := okL c.lim && pendB c.ps && servB c.ss
def cpA (l : Int) (p s : Value) : Value := .agg #[.int .i64 l, p, s]
def BoxC (w : World) (b : Nat) (l : Int) (p s : Value) : Prop := w.heap[b]? = some (.cells #[.int .i64 l, p, s] 59 (0, 0))
theorem BoxC.cel {w : World} {b : Nat} {l : Int} {p s : Value} (h : BoxC w b l p s) : w.cell? ⟨b, 0, none⟩ = some (.int .i64 l) ∧ w.cell? ⟨b, 1, none⟩ = some p ∧ w.cell? ⟨b, 2, none⟩ = some s := by
  unfold BoxC at h
  simp [World.cell?, h]
theorem BoxC.lt {w : World} {b : Nat} {l : Int} {p s : Value} (h : BoxC w b l p s) : b < w.heap.size := (Array.getElem?_eq_some_iff.1 h).1
theorem BoxC.below {w w' : World} {b B : Nat} {l : Int} {p s : Value} (h : BoxC w b l p s) (hb : Below B w w') (hB : b < B) : BoxC w' b l p s := (hb.block b hB).trans h
theorem cpB_no1 {c : CP} (h : okL c.lim = false) : cpB c = false := by simp [cpB, h]
theorem cpB_no2 {c : CP} (h : risB c.ps = false) : cpB c = false := by simp [cpB, pend_ris, h]
theorem cpB_no3 {c : CP} (h : 16 < c.ss.length) : cpB c = false := by
  unfold cpB
  cases hs : servB c.ss
  · simp
  · have := serv_len hs
    omega
theorem cpB_no4 {c : CP} (h : allB (fun j => okV (c.ps.getD j 0)) c.ps.length = false) : cpB c = false := by simp only [cpB, pend_ris, h, Bool.and_false, Bool.false_and]
theorem cpB_no5 {c : CP} (h : servB c.ss = false) : cpB c = false := by simp only [cpB, h, Bool.and_false]
theorem cpB_yes {c : CP} (h1 : okL c.lim = true) (h2 : risB c.ps = true) (h4 : allB (fun j => okV (c.ps.getD j 0)) c.ps.length = true) (h5 : servB c.ss = true) : cpB c = true := by simp only [cpB, pend_ris, h1, h2, h4, h5, Bool.and_true]
end Go.Proofs.Ytefeahilamiiaaa
