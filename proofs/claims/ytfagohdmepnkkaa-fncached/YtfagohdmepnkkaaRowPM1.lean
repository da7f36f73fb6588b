import Derived.Test.YtfagohdmepnkkaaOwnB
import Derived.Deep.QuietTactic
import Derived.BigRegion
import Derived.Deep.RegionHeld3
import Derived.Laws.MakeOwn
namespace Go.Proofs.Ytfagohdmepnkkaa
open Go.ChangeShapes Go.WideShapes Go.ChangeAt Go.RowKit

structure PM where
  va : Int
  frame : Int
  flags : Int
  large : Bool
def pmA (m : PM) : Value := .agg #[.int .i64 m.va, .int .i64 m.frame, .int .i64 m.flags, .bool m.large]
def pmC (m : PM) : List Value := [.int .i64 m.va, .int .i64 m.frame, .int .i64 m.flags, .bool m.large]
def pmR (zs : List PM) : List Value := zs.flatMap pmC
theorem pmR_app (xs ys : List PM) : pmR (xs ++ ys) = pmR xs ++ pmR ys := by simp [pmR]
theorem pmR_len (zs : List PM) : (pmR zs).length = zs.length * 4 := by
  induction zs with
  | nil => rfl
  | cons z zs ih =>
    have e : pmR (z :: zs) = pmC z ++ pmR zs := rfl
    rw [e, List.length_append, ih]
    simp [pmC]
    omega
theorem pmR_at (zs : List PM) (k : Nat) (hk : k < zs.length) (j : Nat) (hj : j < 4) : (pmR zs)[k * 4 + j]? = (pmC zs[k])[j]? := by
  induction zs generalizing k with
  | nil => simp at hk
  | cons z zs ih =>
    have e : pmR (z :: zs) = pmC z ++ pmR zs := rfl
    have hl : (pmC z).length = 4 := rfl
    rw [e]
    cases k with
    | zero =>
      rw [List.getElem?_append_left (by omega)]
      simp
    | succ k =>
      rw [List.getElem?_append_right (by omega), hl, show (k + 1) * 4 + j - 4 = k * 4 + j by omega, ih k (by simpa using hk)]
      simp
theorem pm_sl {w : World} {B n : Nat} {v : Value} {xs : List Value} (h : w.ownsRow B 101 4 v n xs) : ∃ ao cap, v = .slice ao n cap := by
  rcases h.2 with ⟨rfl, e⟩ | ⟨g, cap, cur, rfl, _⟩
  · exact ⟨none, 0, by rw [e]⟩
  · exact ⟨_, cap, rfl⟩
theorem pm_below {w w' : World} {B n : Nat} {v : Value} {xs : List Value} (h : w.ownsRow B 101 4 v n xs) (hb : Below w.heap.size w w') : w'.ownsRow B 101 4 v n xs :=
  h.kept (row := none) ⟨hb.os, hb.tape, hb.output, hb.size, fun k hk _ => hb.block k hk⟩ (by cases v.ownBlock <;> simp)
theorem pm_weak {w : World} {B B' : Nat} {v : Value} {n : Nat} {xs : List Value} (h : w.ownsRow B 101 4 v n xs) (hb : B' ≤ B) : w.ownsRow B' 101 4 v n xs := by
  obtain ⟨hl, h | ⟨g, cap, cur, hv, hg, h1, h2, h3, h4, h5⟩⟩ := h
  · exact ⟨hl, .inl h⟩
  · exact ⟨hl, .inr ⟨g, cap, cur, hv, Nat.le_trans hb hg, h1, h2, h3, h4, h5⟩⟩
theorem pm_cast {w : World} {B n n' : Nat} {v : Value} {xs xs' : List Value} (h : w.ownsRow B 101 4 v n xs) (hn : n = n') (hx : xs = xs') : w.ownsRow B 101 4 v n' xs' := by
  subst hn
  subst hx
  exact h
/-- Where a row lies. -/
def PMat (w : World) (g o : Nat) (zs : List PM) : Prop := ∀ (k : Nat) (hk : k < zs.length), w.cell? ⟨g, o + k * 4, none⟩ = some (.int .i64 zs[k].va) ∧ w.cell? ⟨g, o + k * 4 + 1, none⟩ = some (.int .i64 zs[k].frame) ∧ w.cell? ⟨g, o + k * 4 + 2, none⟩ = some (.int .i64 zs[k].flags) ∧ w.cell? ⟨g, o + k * 4 + 3, none⟩ = some (.bool zs[k].large)
/-- A row that may be read. -/
def PMrow (w : World) (v : Value) (zs : List PM) : Prop := (zs = [] ∧ ∃ ao cap, v = .slice ao 0 cap) ∨ ∃ g o cap, v = .slice (some ⟨g, o, none⟩) zs.length cap ∧ zs.length ≤ cap ∧ g < w.heap.size ∧ PMat w g o zs
theorem PMat.below {w w' : World} {g o : Nat} {zs : List PM} (h : PMat w g o zs) {B : Nat} (hb : Below B w w') (hg : g < B) : PMat w' g o zs := by
  intro k hk
  have h2 := h k hk
  have e : ∀ x, w'.cell? ⟨g, x, none⟩ = w.cell? ⟨g, x, none⟩ := fun x => World.cell?_of_block (hb.block g hg)
  simp only [e]
  exact h2
theorem PMrow.below {w w' : World} {v : Value} {zs : List PM} (h : PMrow w v zs) (hb : Below w.heap.size w w') : PMrow w' v zs := by
  rcases h with h | ⟨g, o, cap, hv, hc, hg, ha⟩
  · exact .inl h
  · exact .inr ⟨g, o, cap, hv, hc, Nat.lt_of_lt_of_le hg hb.size, ha.below hb hg⟩
theorem PMrow.sl {w : World} {v : Value} {zs : List PM} (h : PMrow w v zs) : ∃ ao cap, v = .slice ao zs.length cap := by
  rcases h with ⟨rfl, ao, cap, rfl⟩ | ⟨g, o, cap, rfl, _⟩
  · exact ⟨_, _, rfl⟩
  · exact ⟨_, _, rfl⟩
theorem PMrow.of {w : World} {B : Nat} {v : Value} {zs : List PM} (h : w.ownsRow B 101 4 v zs.length (pmR zs)) : PMrow w v zs := by
  rcases h.2 with ⟨rfl, e⟩ | ⟨g, cap, cur, rfl, hB, hg, hc, rest⟩
  · exact .inl ⟨List.length_eq_zero_iff.1 e, _, _, by rfl⟩
  · have h2 : w.ownsRow B 101 4 (.slice (some ⟨g, 0, none⟩) zs.length cap) zs.length (pmR zs) := h
    refine .inr ⟨g, 0, cap, rfl, hc, (Array.getElem?_eq_some_iff.1 hg).1, fun k hk => ?_⟩
    simp only [Nat.zero_add]
    have a0 := h2.cellAt (k * 4 + 0) (by omega)
    have a1 := h2.cellAt (k * 4 + 1) (by omega)
    have a2 := h2.cellAt (k * 4 + 2) (by omega)
    have a3 := h2.cellAt (k * 4 + 3) (by omega)
    rw [pmR_at zs k hk _ (by omega)] at a0 a1 a2 a3
    exact ⟨a0, a1, a2, a3⟩
end Go.Proofs.Ytfagohdmepnkkaa
