import Derived.Test.YtcglpigmellfcabRegInv
import Derived.Test.YtcglpigmellfcabTB
namespace Go.Proofs.Ytcglpigmellfcab
open Go.ChangeShapes Go.WideShapes Go.ChangeAt Go.RowKit

/-- Each waits for earlier ones alone. -/
def early (ops : Array Oper) : Bool := (List.range ops.size).all fun i => match ops[i]? with | some o => o.after.all (fun e => decide (e.on < i)) | none => true
theorem all_up {md : Region.Mode} {ops : Array Oper} {L : Array Bool} (he : early ops = true) (hL : L.size = ops.size) (h : Region.ready md ops L = []) : ∀ i, i < ops.size → L.getD i false = true := by
  intro i
  induction i using Nat.strongRecOn with
  | ind i ih =>
    intro hi
    apply Classical.byContradiction
    intro hn
    have hf : L.getD i true = false := by
      have hi2 : i < L.size := by omega
      simp only [Array.getD, hi2, dite_true] at hn ⊢
      simpa using hn
    have hm : i ∈ Region.ready md ops L := mem_ready.2 ⟨hf, ops[i], Array.getElem?_eq_getElem hi, fun e hee _ => by
      have h1 := List.all_eq_true.1 he i (List.mem_range.2 hi)
      rw [Array.getElem?_eq_getElem hi] at h1
      simp only [Array.all_eq_true] at h1
      obtain ⟨j, hj, rfl⟩ := Array.getElem_of_mem hee
      have h2 := of_decide_eq_true (h1 j hj)
      exact ih _ h2 (by omega)⟩
    rw [h] at hm
    exact (List.not_mem_nil hm).elim
/-- A box of so many cells behind W. -/
structure KB (W u : World) (cs : Array Value) (t : Nat) (v : Value) : Prop where
  ex : ∃ p, v = .pointer (some ⟨p, 0, none⟩) ∧ W.heap.size ≤ p ∧ u.heap[p]? = some (.cells cs t (0, 0))
theorem KB.below {W u u' : World} {cs : Array Value} {t : Nat} {v : Value} (h : KB W u cs t v) (hb : Below u.heap.size u u') : KB W u' cs t v := by
  obtain ⟨p, h1, h2, h3⟩ := h
  exact ⟨p, h1, h2, (hb.block p (Array.getElem?_eq_some_iff.1 h3).1).trans h3⟩
theorem KB.new {W u : World} (cs : Array Value) (t : Nat) (h : W.heap.size ≤ u.heap.size) : KB W (u.alloc (.cells cs t)) cs t (.pointer (some ⟨u.heap.size, 0, none⟩)) := ⟨u.heap.size, rfl, h, heap_new _ _⟩
theorem heap_put {u : World} {p t k : Nat} {cs : Array Value} {x : Value} (h : u.heap[p]? = some (.cells cs t (0, 0))) : (u.setCell ⟨p, k, none⟩ x).heap[p]? = some (.cells (cs.set! k x) t (0, 0)) := by
  simp [World.setCell, Array.getElem?_modify, h]
theorem Below.ups {W u u' : World} (h : Below W.heap.size W u) (hb : Below u.heap.size u u') : Below W.heap.size W u' := h.trans (hb.mono h.size)
theorem put_cel {u : World} {p t : Nat} {cs : Array Value} (h : u.heap[p]? = some (.cells cs t (0, 0))) (k : Nat) (v : Value) (hv : cs[k]? = some v) : u.cell? ⟨p, k, none⟩ = some v := by
  simp [World.cell?, h, hv]
theorem put_frz {u : World} {p t : Nat} {cs : Array Value} (h : u.heap[p]? = some (.cells cs t (0, 0))) (k : Nat) : u.frozen? ⟨p, k, none⟩ = false := by
  simp [World.frozen?, h]
end Go.Proofs.Ytcglpigmellfcab
