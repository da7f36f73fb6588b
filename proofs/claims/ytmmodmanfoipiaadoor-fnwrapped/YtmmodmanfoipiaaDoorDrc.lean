import Derived.Test.YtmmodmanfoipiaaDoorSrc2
import Derived.Test.YtmmodmanfoipiaaDoorRegInv
import Derived.OwnWalk
namespace Go.Proofs.YtmmodmanfoipiaaDoor
open Go.ChangeShapes Go.WideShapes Go.ChangeAt Go.RowKit

def early (ops : Array Oper) : Bool := (List.range ops.size).all fun i => match ops[i]? with | some o => o.after.all (fun e => decide (e.on < i)) | none => true
theorem all_up {md : Region.Mode} {ops : Array Oper} {L : Array Bool} (he : early ops = true) (hL : L.size = ops.size) (h : Region.ready md ops L = []) : ∀ i, i < ops.size → L.getD i false = true := by
  intro i
  induction i using Nat.strongRecOn with
  | ind i ih =>
    intro hi
    apply Classical.byContradiction
    intro hn
    have hf : L.getD i true = false := by
      have hi2 : i < L.size := by omega
      simp only [Array.getD, hi2, dite_true] at hn ⊢
      simpa using hn
    have hm : i ∈ Region.ready md ops L := mem_ready.2 ⟨hf, ops[i], Array.getElem?_eq_getElem hi, fun e hee _ => by
      have h1 := List.all_eq_true.1 he i (List.mem_range.2 hi)
      rw [Array.getElem?_eq_getElem hi] at h1
      simp only [Array.all_eq_true] at h1
      obtain ⟨j, hj, rfl⟩ := Array.getElem_of_mem hee
      have h2 := of_decide_eq_true (h1 j hj)
      exact ih _ h2 (by omega)⟩
    rw [h] at hm
    exact (List.not_mem_nil hm).elim
def KSrc (b : Nat) (v : Value) : Prop := v = .pointer (some ⟨b, 0, none⟩)
def KNum (lo hi : Int) (v : Value) : Prop := ∃ y : Int, v = .int .i64 y ∧ lo ≤ y ∧ y ≤ hi
def KLit (B : Nat) (C : List Int) (v : Value) (u : World) : Prop := ∃ p, v = .slice (some ⟨p, 0, none⟩) C.length C.length ∧ B ≤ p ∧ u.heap[p]? = some (.cells (C.map (Value.int .i64)).toArray 2 (0, 0))
def KPtr (B : Nat) (C : List Int) (v : Value) (u : World) : Prop := ∃ p r : Nat, v = .pointer (some ⟨p, r, none⟩) ∧ r < C.length ∧ B ≤ p ∧ u.heap[p]? = some (.cells (C.map (Value.int .i64)).toArray 2 (0, 0))
theorem KLit.grow {B b : Nat} {C : List Int} {v : Value} {u u' : World} (h : KLit B C v u) (hb : b < B) (hg : u.grownBy u' (some b)) : KLit B C v u' := by
  obtain ⟨p, h1, h2, h3⟩ := h
  exact ⟨p, h1, h2, (hg.block p (Array.getElem?_eq_some_iff.1 h3).1 (by simp; omega)).trans h3⟩
theorem KPtr.grow {B b : Nat} {C : List Int} {v : Value} {u u' : World} (h : KPtr B C v u) (hb : b < B) (hg : u.grownBy u' (some b)) : KPtr B C v u' := by
  obtain ⟨p, r, h1, h0, h2, h3⟩ := h
  exact ⟨p, r, h1, h0, h2, (hg.block p (Array.getElem?_eq_some_iff.1 h3).1 (by simp; omega)).trans h3⟩
theorem lit_cell {u : World} {p r : Nat} {C : List Int} {t : TypeId} (h : u.heap[p]? = some (.cells (C.map (Value.int .i64)).toArray t (0, 0))) (hr : r < C.length) : u.cell? ⟨p, r, none⟩ = some (.int .i64 C[r]) := by
  simp [World.cell?, h, List.getElem?_map, List.getElem?_eq_getElem hr]
/-- All of a list of numbers are within bounds. -/
def inB (lo hi : Int) (C : List Int) : Prop := ∀ x ∈ C, lo ≤ x ∧ x ≤ hi
theorem inB.at {lo hi : Int} {C : List Int} (h : inB lo hi C) {r : Nat} (hr : r < C.length) : lo ≤ C[r] ∧ C[r] ≤ hi := h _ (List.getElem_mem hr)
theorem gAl {u : World} {b : Nat} {o : Obj} : u.grownBy (u.alloc o) (some b) := World.grownBy_alloc u o _
end Go.Proofs.YtmmodmanfoipiaaDoor
