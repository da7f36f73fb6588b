import Derived.Test.YtfagohdmepnkkaaRowTE3
import Derived.Deep.RegionWith
import Derived.BigQuiet
namespace Go.Proofs.Ytfagohdmepnkkaa
open Go.ChangeShapes Go.WideShapes Go.ChangeAt Go.RowKit

/-- Whether an entry is right. -/
def teOk (z : TE) : Bool := decide (0 ≤ z.asid ∧ z.asid ≤ 255 ∧ 0 ≤ z.page ∧ z.page ≤ 1023 ∧ 0 ≤ z.frame ∧ z.frame ≤ 1023 ∧ 0 ≤ z.flags ∧ z.flags ≤ 255) && (!z.large || (decide (z.page % 32 = 0) && decide (z.frame % 32 = 0)))
theorem teOk_bad {a p f g : Int} {l : Bool} (h : ¬ (0 ≤ a ∧ a ≤ 255 ∧ 0 ≤ p ∧ p ≤ 1023 ∧ 0 ≤ f ∧ f ≤ 1023 ∧ 0 ≤ g ∧ g ≤ 255)) : teOk ⟨a, p, f, g, l⟩ = false := by
  unfold teOk
  rw [decide_eq_false h]
  rfl
theorem teOk_in {a p f g : Int} {l : Bool} (h : 0 ≤ a ∧ a ≤ 255 ∧ 0 ≤ p ∧ p ≤ 1023 ∧ 0 ≤ f ∧ f ≤ 1023 ∧ 0 ≤ g ∧ g ≤ 255) : teOk ⟨a, p, f, g, l⟩ = (!l || (decide (p % 32 = 0) && decide (f % 32 = 0))) := by
  unfold teOk
  rw [decide_eq_true h]
  rfl
set_option maxRecDepth 100000 in
set_option maxHeartbeats 4000000 in
theorem specEntry_any (z : TE) (w : World) : Calls Try.prog 81 #[teA z] w fun e w' => e = .returned (.bool (teOk z)) ∧ Below w.heap.size w w' := by
  obtain ⟨a, p, f, g, l⟩ := z
  unfold teA
  go_enter Try.func81, Try.ntmps81
  go_wp2
  all_goals go_ret
  all_goals refine ⟨ret_bool ?_, (Below.refl _ _).alloc (Nat.le_refl _) _⟩
  all_goals first
    | rw [teOk_bad (by omega)]
    | (rw [teOk_in (by omega)]; simp [*] <;> rfl)
set_option maxRecDepth 100000 in
set_option maxHeartbeats 4000000 in
theorem implEntry_any (z : TE) (w : World) : Calls Try.prog 79 #[teA z] w fun e w' => e = .returned (.bool (teOk z)) ∧ Below w.heap.size w w' := by
  obtain ⟨a, p, f, g, l⟩ := z
  unfold teA
  go_enter Try.func79, Try.ntmps79
  go_wp2
  all_goals go_ret
  all_goals refine ⟨ret_bool ?_, (Below.refl _ _).alloc (Nat.le_refl _) _⟩
  all_goals first
    | rw [teOk_bad (by omega)]
    | (rw [teOk_in (by omega)]; simp [*] <;> rfl)
/-- Whether two entries stand for one page of one space. -/
def same (x y : TE) : Bool := decide (x.asid = y.asid) && decide (x.page = y.page) && (x.large == y.large)
theorem cel5 {u : World} {b t : Nat} {a0 a1 a2 a3 a4 : Value} (h : u.heap[b]? = some (.cells #[a0, a1, a2, a3, a4] t (0, 0))) : u.cell? ⟨b, 0, none⟩ = some a0 ∧ u.cell? ⟨b, 1, none⟩ = some a1 ∧ u.cell? ⟨b, 2, none⟩ = some a2 ∧ u.cell? ⟨b, 3, none⟩ = some a3 ∧ u.cell? ⟨b, 4, none⟩ = some a4 := by
  simp [World.cell?, h]
/-- A box that holds an entry. -/
def BoxE (w : World) (b : Nat) (e : TE) : Prop := w.heap[b]? = some (.cells #[.int .i64 e.asid, .int .i64 e.page, .int .i64 e.frame, .int .i64 e.flags, .bool e.large] 66 (0, 0))
theorem BoxE.lt {w : World} {b : Nat} {e : TE} (h : BoxE w b e) : b < w.heap.size := (Array.getElem?_eq_some_iff.1 h).1
set_option maxRecDepth 100000 in
set_option maxHeartbeats 4000000 in
theorem spotFn_any (x e : TE) (b : Nat) (w : World) (h : BoxE w b e) : Calls Try.prog 115 #[teA x, .pointer (some ⟨b, 0, none⟩)] w fun r w' => r = .returned (.bool (same x e)) ∧ Below w.heap.size w w' := by
  obtain ⟨a, p, f, g, l⟩ := x
  obtain ⟨a2, p2, f2, g2, l2⟩ := e
  have hb := h.lt
  obtain ⟨c0, c1, c2, c3, c4⟩ := cel5 h
  clear h
  unfold teA
  go_enter Try.func115, Try.ntmps115
  go_wp2
  all_goals go_ret
  all_goals refine ⟨ret_bool ?_, (Below.refl _ _).alloc (Nat.le_refl _) _⟩
  all_goals simp [same, *]
end Go.Proofs.Ytfagohdmepnkkaa
