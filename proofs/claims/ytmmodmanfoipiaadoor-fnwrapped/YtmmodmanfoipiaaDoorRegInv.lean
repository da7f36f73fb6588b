import Derived.Test.YtmmodmanfoipiaaDoorPlain
import Derived.RegionTactic
namespace Go.Proofs.YtmmodmanfoipiaaDoor
open Go.ChangeShapes Go.WideShapes Go.ChangeAt Go.RowKit

/-- How many have not come up yet. -/
def left (L : Array Bool) : Nat := L.toList.countP (fun b => !b)
theorem left_set {L : Array Bool} {i : Nat} (h : L.getD i true = false) : left (L.setIfInBounds i true) + 1 = left L := by
  have hi : i < L.size := by
    rcases Nat.lt_or_ge i L.size with h' | h'
    · exact h'
    · simp [Array.getD, Nat.not_lt.2 h'] at h
  have hv : L[i] = false := by simpa [Array.getD, hi] using h
  unfold left
  rw [Array.toList_setIfInBounds]
  have e : L.toList = L.toList.take i ++ (false :: L.toList.drop (i + 1)) := by
    have h2 : L.toList[i]'(by simpa using hi) = false := by simpa using hv
    rw [← h2, List.getElem_cons_drop, List.take_append_drop]
  have hl : (L.toList.take i).length = i := by rw [List.length_take]; simp; omega
  have e2 : L.toList.set i true = L.toList.take i ++ (true :: L.toList.drop (i + 1)) := by
    conv => lhs; rw [e]
    rw [List.set_append_right _ _ (by omega), hl, Nat.sub_self, List.set_cons_zero]
  rw [e2]
  conv => rhs; rw [e]
  simp [List.countP_append]
  omega
theorem ready_of_left {md : Region.Mode} {ops : Array Oper} {L : Array Bool} (h : left L = 0) : Region.ready md ops L = [] := by
  rw [List.eq_nil_iff_forall_not_mem]
  intro i hi
  have h1 := (mem_ready.1 hi).1
  have := left_set h1
  omega
/-- A region by what holds whichever operations have come up. -/
theorem wpAny_inv {P : Program} {md : Region.Mode} {ops : Array Oper} {Q : Exit → Act → World → Prop} (I : Array Bool → Act → World → Prop)
    (hs : ∀ L a w i, I L a w → i ∈ Region.ready md ops L → wpOp P ops Q i (fun a' w' => I (L.setIfInBounds i true) a' w') a w)
    (hd : ∀ L a w, I L a w → Region.ready md ops L = [] → Q .normal a w) : ∀ (fuel : Nat) (L : Array Bool) (a : Act) (w : World), left L ≤ fuel → I L a w → wpAny P md ops Q fuel L a w
  | 0, L, a, w, hl, hI => by
    have h0 := ready_of_left (md := md) (ops := ops) (Nat.le_zero.1 hl)
    exact ⟨h0, hd L a w hI h0⟩
  | fuel + 1, L, a, w, hl, hI => by
    refine ⟨hd L a w hI, fun i hi => wpOp_mono (fun a' w' h => wpAny_inv I hs hd fuel _ a' w' ?_ h) (hs L a w i hI hi)⟩
    have := left_set (mem_ready.1 hi).1
    omega
end Go.Proofs.YtmmodmanfoipiaaDoor
