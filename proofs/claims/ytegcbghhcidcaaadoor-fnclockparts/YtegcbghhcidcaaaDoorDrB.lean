import Derived.Test.YtegcbghhcidcaaaDoorSrc2
import Derived.Test.YtegcbghhcidcaaaDoorRegInv
import Derived.OwnWalk
import Derived.Laws.OwnMore
namespace Go.Proofs.YtegcbghhcidcaaaDoor
open Go.ChangeShapes Go.WideShapes Go.ChangeAt Go.RowKit

theorem SrcOk.keep {w w' : World} {b : Nat} {a : Option Addr} {len cap : Nat} (h : SrcOk w b a len cap) (hk : ∀ i, i ≤ b → w'.heap[i]? = w.heap[i]?) : SrcOk w' b a len cap := by
  obtain ⟨⟨p, m, z, hw, hr⟩, hc, hl⟩ := h
  refine ⟨⟨p, m, z, (hk b (Nat.le_refl _)).trans hw, hr⟩, ?_, hl⟩
  rcases hc with hc | ⟨cb, co, ha, hlt, hcc⟩
  · exact .inl hc
  · refine .inr ⟨cb, co, ha, hlt, fun i hi => ?_⟩
    obtain ⟨x, h0, h1, hx⟩ := hcc i hi
    exact ⟨x, h0, h1, (World.cell?_of_block (a := ⟨cb, co + i, none⟩) (hk cb (Nat.le_of_lt hlt))).trans hx⟩
theorem gfar {u w w' : World} {b : Nat} {row : Option Nat} (h : u.grownBy w (some b)) (hg : w.grownBy w' row) (hr : ∀ k, row = some k → u.heap.size ≤ k) : u.grownBy w' (some b) :=
  ⟨hg.os.trans h.os, hg.tape.trans h.tape, hg.output.trans h.output, Nat.le_trans h.size hg.size, fun k hk hne =>
    (hg.block k (Nat.lt_of_lt_of_le hk h.size) (fun e => by have := hr k e.symm; omega)).trans (h.block k hk hne)⟩
theorem gnone {u w w' : World} {b : Nat} (h : u.grownBy w (some b)) (hg : w.grownBy w' none) : u.grownBy w' (some b) := gfar h hg (fun k hk => by cases hk)
theorem gbel {u w w' : World} {b : Nat} (h : u.grownBy w (some b)) (hb : Below w.heap.size w w') : u.grownBy w' (some b) := gnone h ⟨hb.os, hb.tape, hb.output, hb.size, fun k hk _ => hb.block k hk⟩
theorem SrcOk.bel {w w' : World} {b : Nat} {a : Option Addr} {len cap : Nat} (h : SrcOk w b a len cap) (hb : Below w.heap.size w w') : SrcOk w' b a len cap := h.far ⟨hb.os, hb.tape, hb.output, hb.size, fun k hk _ => hb.block k hk⟩
/-- Each waits for earlier ones alone. -/
def early (ops : Array Oper) : Bool := (List.range ops.size).all fun i => match ops[i]? with | some o => o.after.all (fun e => decide (e.on < i)) | none => true
theorem all_up {md : Region.Mode} {ops : Array Oper} {L : Array Bool} (he : early ops = true) (hL : L.size = ops.size) (h : Region.ready md ops L = []) : ∀ i, i < ops.size → L.getD i false = true := by
  intro i
  induction i using Nat.strongRecOn with
  | ind i ih =>
    intro hi
    apply Classical.byContradiction
    intro hn
    have hf : L.getD i true = false := by
      have hi2 : i < L.size := by omega
      simp only [Array.getD, hi2, dite_true] at hn ⊢
      simpa using hn
    have hm : i ∈ Region.ready md ops L := mem_ready.2 ⟨hf, ops[i], Array.getElem?_eq_getElem hi, fun e hee _ => by
      have h1 := List.all_eq_true.1 he i (List.mem_range.2 hi)
      rw [Array.getElem?_eq_getElem hi] at h1
      simp only [Array.all_eq_true] at h1
      obtain ⟨j, hj, rfl⟩ := Array.getElem_of_mem hee
      have h2 := of_decide_eq_true (h1 j hj)
      exact ih _ h2 (by omega)⟩
    rw [h] at hm
    exact (List.not_mem_nil hm).elim
def KSrc (b : Nat) (v : Value) : Prop := v = .pointer (some ⟨b, 0, none⟩)
def KNum (lo hi : Int) (v : Value) : Prop := ∃ y : Int, v = .int .i64 y ∧ lo ≤ y ∧ y ≤ hi
def KLit (B : Nat) (C : List Int) (v : Value) (u : World) : Prop := ∃ p, v = .slice (some ⟨p, 0, none⟩) C.length C.length ∧ B ≤ p ∧ u.heap[p]? = some (.cells (C.map (Value.int .i64)).toArray 2 (0, 0))
def KPtr (B : Nat) (C : List Int) (v : Value) (u : World) : Prop := ∃ p r : Nat, v = .pointer (some ⟨p, r, none⟩) ∧ r < C.length ∧ B ≤ p ∧ u.heap[p]? = some (.cells (C.map (Value.int .i64)).toArray 2 (0, 0))
theorem KLit.grow {B b : Nat} {C : List Int} {v : Value} {u u' : World} (h : KLit B C v u) (hb : b < B) (hg : u.grownBy u' (some b)) : KLit B C v u' := by
  obtain ⟨p, h1, h2, h3⟩ := h
  exact ⟨p, h1, h2, (hg.block p (Array.getElem?_eq_some_iff.1 h3).1 (by simp; omega)).trans h3⟩
theorem KPtr.grow {B b : Nat} {C : List Int} {v : Value} {u u' : World} (h : KPtr B C v u) (hb : b < B) (hg : u.grownBy u' (some b)) : KPtr B C v u' := by
  obtain ⟨p, r, h1, h0, h2, h3⟩ := h
  exact ⟨p, r, h1, h0, h2, (hg.block p (Array.getElem?_eq_some_iff.1 h3).1 (by simp; omega)).trans h3⟩
theorem lit_cell {u : World} {p r : Nat} {C : List Int} {t : TypeId} (h : u.heap[p]? = some (.cells (C.map (Value.int .i64)).toArray t (0, 0))) (hr : r < C.length) : u.cell? ⟨p, r, none⟩ = some (.int .i64 C[r]) := by
  simp [World.cell?, h, List.getElem?_map, List.getElem?_eq_getElem hr]
/-- All of a list of numbers are within bounds. -/
def inB (lo hi : Int) (C : List Int) : Prop := ∀ x ∈ C, lo ≤ x ∧ x ≤ hi
theorem inB.at {lo hi : Int} {C : List Int} (h : inB lo hi C) {r : Nat} (hr : r < C.length) : lo ≤ C[r] ∧ C[r] ≤ hi := h _ (List.getElem_mem hr)
theorem gAl {u : World} {b : Nat} {o : Obj} : u.grownBy (u.alloc o) (some b) := World.grownBy_alloc u o _
theorem g_set {w u : World} {B0 b o : Nat} {y : Value} (h : w.grownBy u (some B0)) (hb : w.heap.size ≤ b) : w.grownBy (u.setCell ⟨b, o, none⟩ y) (some B0) :=
  gfar h (row := some b) ⟨rfl, rfl, rfl, by simp [World.setCell], fun j _ hj => Below.heap_setCell _ _ _ _ (fun q => hj (by rw [q]))⟩ (fun j hj => by cases hj; exact hb)
theorem s_set {u : World} {B0 b o : Nat} {y : Value} {a : Option Addr} {len cap : Nat} (h : SrcOk u B0 a len cap) (hb : B0 < b) : SrcOk (u.setCell ⟨b, o, none⟩ y) B0 a len cap :=
  h.keep (fun j hj => Below.heap_setCell _ _ _ _ (by simp only; omega))
end Go.Proofs.YtegcbghhcidcaaaDoor
