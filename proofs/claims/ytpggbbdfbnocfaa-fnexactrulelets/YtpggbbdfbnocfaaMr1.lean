import Derived.Test.YtpggbbdfbnocfaaRowI
import Derived.Deep.RegionWith
import Derived.BigQuiet
import Derived.Deep.CutRange
namespace Go.Proofs.Ytpggbbdfbnocfaa
open Go.ChangeShapes Go.WideShapes Go.ChangeAt Go.RowKit

/-- All of the first k. -/
def allB (p : Nat → Bool) (k : Nat) : Bool := (List.range k).all p
theorem allB_succ (p : Nat → Bool) (k : Nat) : allB p (k + 1) = (allB p k && p k) := by simp [allB, List.range_succ]
theorem allB_bad {p : Nat → Bool} {k m : Nat} (hk : k < m) (h : p k = false) : allB p m = false := by
  unfold allB
  rw [List.all_eq_false]
  exact ⟨k, List.mem_range.2 hk, by rw [h]; decide⟩
theorem allB_iff {p : Nat → Bool} {m : Nat} : allB p m = true ↔ ∀ k, k < m → p k = true := by
  unfold allB
  rw [List.all_eq_true]
  exact ⟨fun h k hk => h k (List.mem_range.2 hk), fun h k hk => h k (List.mem_range.1 hk)⟩
def rk (zs : List Int) (j : Nat) : Bool := decide (j = 0) || decide (zs.getD (j - 1) 0 < zs.getD j 0)
def risB (zs : List Int) : Bool := allB (rk zs) zs.length
theorem gd {zs : List Int} {k : Nat} (h : k < zs.length) : zs.getD k 0 = zs[k] := by simp [List.getD, List.getElem?_eq_getElem h]
set_option maxRecDepth 100000 in
set_option maxHeartbeats 4000000 in
theorem l08Rising_any {w : World} {v : Value} {zs : List Int} (h : Irow w v zs) (hl : zs.length ≤ 1048576) : Calls Try.prog 44 #[v] w fun e w' => e = .returned (.bool (risB zs)) ∧ Below w.heap.size w w' := by
  obtain ⟨ao, cap, rfl⟩ := h.sl
  have HR : Hid (Irow w (.slice ao zs.length cap) zs) := h
  clear h
  by_cases hz : zs.length = 0
  · have hz1 : ¬ (1 : Int) < (zs.length : Int) := by omega
    go_enter Try.func44, Try.ntmps44
    go_wp2
    go_loopw [3] (fun i wr => i = .int .i64 1 ∧ wr = w) (fun i _ => 0)
    case atStart => exact ⟨rfl, rfl⟩
    case round =>
      obtain ⟨rfl, rfl⟩ := hrel
      go_wp2
      go_ret
      exact ⟨ret_bool (by unfold risB; rw [hz]; rfl), Below.refl _ _⟩
  · go_enter Try.func44, Try.ntmps44
    go_wp2
    go_loopw [3] (fun i wr => ∃ k : Nat, k + 1 ≤ zs.length ∧ i = .int .i64 ((k + 1 : Nat) : Int) ∧ allB (rk zs) (k + 1) = true ∧ Below w.heap.size w wr) (fun i _ => zs.length - (intOf i).toNat)
    case atStart => exact ⟨0, by omega, rfl, rfl, Below.refl _ _⟩
    case round =>
      obtain ⟨k, hk, rfl, hok, hb⟩ := hrel
      have HOK : Hid (allB (rk zs) (k + 1) = true) := hok
      have HB : Hid (Below w.heap.size w wr) := hb
      clear hok
      by_cases hlt : k + 1 < zs.length
      · obtain ⟨g, o, cap2, hv, _, hg, hc⟩ := HR.out.resolve_left (fun h => by rw [h.1] at hlt; simp at hlt)
        injection hv with hv1 hv2 hv3
        subst hv1 hv3
        have d0 := hc.below hb hg (k + 1) hlt
        have d1 := hc.below hb hg k (by omega)
        have hpk : rk zs (k + 1) = decide (zs[k] < zs[k + 1]) := by unfold rk; rw [Nat.add_sub_cancel, gd hlt, gd (show k < zs.length by omega)]; simp
        have hk0 : (0 : Int) ≤ ((k + 1 : Nat) : Int) := by omega
        have hk1 : ((k + 1 : Nat) : Int) < (zs.length : Int) := by omega
        have hj1 : ((k + 1 : Nat) : Int) - 1 = (k : Int) := by omega
        have hj2 : (k : Int) < (zs.length : Int) := by omega
        have hj3 : (0 : Int) ≤ (k : Int) := by omega
        generalize zs[k + 1] = z at *
        generalize zs[k] = y at *
        have hgd : Hid _ := hpk
        clear hc hpk
        by_cases hyz : z ≤ y
        · go_wp2_with fail
          go_quiet (fail)
          go_wp2
          go_ret
          exact ⟨ret_bool (by unfold risB; rw [allB_bad hlt (hgd.out.trans (by simp; omega))]), bdn HB.out _⟩
        · go_wp2_with fail
          go_quiet (fail)
          go_wp2
          go_roundw
          case rel => exact ⟨k + 1, hlt, by go_num, by rw [allB_succ, HOK.out, hgd.out]; simp; omega, bdn HB.out _⟩
          case measure => simp [intOf]; omega
      · have hks : zs.length = k + 1 := by omega
        have hnl : ¬ ((k + 1 : Nat) : Int) < (zs.length : Int) := by omega
        go_wp2
        go_ret
        exact ⟨ret_bool (by unfold risB; rw [hks, HOK.out]), HB.out⟩
end Go.Proofs.Ytpggbbdfbnocfaa
