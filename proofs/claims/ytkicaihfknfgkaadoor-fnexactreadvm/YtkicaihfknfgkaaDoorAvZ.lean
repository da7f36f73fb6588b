import Derived.Test.YtkicaihfknfgkaaDoorPlain
import Derived.RegionTactic
import Derived.Test.YtkicaihfknfgkaaDoorTB
namespace Go.Proofs.YtkicaihfknfgkaaDoor
open Go.ChangeShapes Go.WideShapes Go.ChangeAt Go.RowKit

/-- How many have not come up yet. -/
def left (L : Array Bool) : Nat := L.toList.countP (fun b => !b)
theorem left_set {L : Array Bool} {i : Nat} (h : L.getD i true = false) : left (L.setIfInBounds i true) + 1 = left L := by
  have hi : i < L.size := by
    rcases Nat.lt_or_ge i L.size with h' | h'
    · exact h'
    · simp [Array.getD, Nat.not_lt.2 h'] at h
  have hv : L[i] = false := by simpa [Array.getD, hi] using h
  unfold left
  rw [Array.toList_setIfInBounds]
  have e : L.toList = L.toList.take i ++ (false :: L.toList.drop (i + 1)) := by
    have h2 : L.toList[i]'(by simpa using hi) = false := by simpa using hv
    rw [← h2, List.getElem_cons_drop, List.take_append_drop]
  have hl : (L.toList.take i).length = i := by rw [List.length_take]; simp; omega
  have e2 : L.toList.set i true = L.toList.take i ++ (true :: L.toList.drop (i + 1)) := by
    conv => lhs; rw [e]
    rw [List.set_append_right _ _ (by omega), hl, Nat.sub_self, List.set_cons_zero]
  rw [e2]
  conv => rhs; rw [e]
  simp [List.countP_append]
  omega
theorem ready_of_left {md : Region.Mode} {ops : Array Oper} {L : Array Bool} (h : left L = 0) : Region.ready md ops L = [] := by
  rw [List.eq_nil_iff_forall_not_mem]
  intro i hi
  have h1 := (mem_ready.1 hi).1
  have := left_set h1
  omega
/-- A region by what holds whichever operations have come up. -/
theorem wpAny_inv {P : Program} {md : Region.Mode} {ops : Array Oper} {Q : Exit → Act → World → Prop} (I : Array Bool → Act → World → Prop)
    (hs : ∀ L a w i, I L a w → i ∈ Region.ready md ops L → wpOp P ops Q i (fun a' w' => I (L.setIfInBounds i true) a' w') a w)
    (hd : ∀ L a w, I L a w → Region.ready md ops L = [] → Q .normal a w) : ∀ (fuel : Nat) (L : Array Bool) (a : Act) (w : World), left L ≤ fuel → I L a w → wpAny P md ops Q fuel L a w
  | 0, L, a, w, hl, hI => by
    have h0 := ready_of_left (md := md) (ops := ops) (Nat.le_zero.1 hl)
    exact ⟨h0, hd L a w hI h0⟩
  | fuel + 1, L, a, w, hl, hI => by
    refine ⟨hd L a w hI, fun i hi => wpOp_mono (fun a' w' h => wpAny_inv I hs hd fuel _ a' w' ?_ h) (hs L a w i hI hi)⟩
    have := left_set (mem_ready.1 hi).1
    omega

/-- Each waits for earlier ones alone. -/
def early (ops : Array Oper) : Bool := (List.range ops.size).all fun i => match ops[i]? with | some o => o.after.all (fun e => decide (e.on < i)) | none => true
theorem all_up {md : Region.Mode} {ops : Array Oper} {L : Array Bool} (he : early ops = true) (hL : L.size = ops.size) (h : Region.ready md ops L = []) : ∀ i, i < ops.size → L.getD i false = true := by
  intro i
  induction i using Nat.strongRecOn with
  | ind i ih =>
    intro hi
    apply Classical.byContradiction
    intro hn
    have hf : L.getD i true = false := by
      have hi2 : i < L.size := by omega
      simp only [Array.getD, hi2, dite_true] at hn ⊢
      simpa using hn
    have hm : i ∈ Region.ready md ops L := mem_ready.2 ⟨hf, ops[i], Array.getElem?_eq_getElem hi, fun e hee _ => by
      have h1 := List.all_eq_true.1 he i (List.mem_range.2 hi)
      rw [Array.getElem?_eq_getElem hi] at h1
      simp only [Array.all_eq_true] at h1
      obtain ⟨j, hj, rfl⟩ := Array.getElem_of_mem hee
      have h2 := of_decide_eq_true (h1 j hj)
      exact ih _ h2 (by omega)⟩
    rw [h] at hm
    exact (List.not_mem_nil hm).elim
/-- A box of so many cells behind W. -/
structure KB (W u : World) (cs : Array Value) (t : Nat) (v : Value) : Prop where
  ex : ∃ p, v = .pointer (some ⟨p, 0, none⟩) ∧ W.heap.size ≤ p ∧ u.heap[p]? = some (.cells cs t (0, 0))
theorem KB.below {W u u' : World} {cs : Array Value} {t : Nat} {v : Value} (h : KB W u cs t v) (hb : Below u.heap.size u u') : KB W u' cs t v := by
  obtain ⟨p, h1, h2, h3⟩ := h
  exact ⟨p, h1, h2, (hb.block p (Array.getElem?_eq_some_iff.1 h3).1).trans h3⟩
theorem KB.new {W u : World} (cs : Array Value) (t : Nat) (h : W.heap.size ≤ u.heap.size) : KB W (u.alloc (.cells cs t)) cs t (.pointer (some ⟨u.heap.size, 0, none⟩)) := ⟨u.heap.size, rfl, h, heap_new _ _⟩
theorem heap_put {u : World} {p t k : Nat} {cs : Array Value} {x : Value} (h : u.heap[p]? = some (.cells cs t (0, 0))) : (u.setCell ⟨p, k, none⟩ x).heap[p]? = some (.cells (cs.set! k x) t (0, 0)) := by
  simp [World.setCell, Array.getElem?_modify, h]
theorem Below.ups {W u u' : World} (h : Below W.heap.size W u) (hb : Below u.heap.size u u') : Below W.heap.size W u' := h.trans (hb.mono h.size)
theorem put_cel {u : World} {p t : Nat} {cs : Array Value} (h : u.heap[p]? = some (.cells cs t (0, 0))) (k : Nat) (v : Value) (hv : cs[k]? = some v) : u.cell? ⟨p, k, none⟩ = some v := by
  simp [World.cell?, h, hv]
theorem put_frz {u : World} {p t : Nat} {cs : Array Value} (h : u.heap[p]? = some (.cells cs t (0, 0))) (k : Nat) : u.frozen? ⟨p, k, none⟩ = false := by
  simp [World.frozen?, h]
end Go.Proofs.YtkicaihfknfgkaaDoor
