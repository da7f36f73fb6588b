import Derived.Test.YtegcbghhcidcaaaDoorOwnB
import Derived.Deep.QuietTactic
import Derived.BigRegion
import Derived.Deep.RegionHeld3
import Derived.Laws.MakeOwn
namespace Go.Proofs.YtegcbghhcidcaaaDoor
open Go.ChangeShapes Go.WideShapes Go.ChangeAt Go.RowKit

structure TM where
  due : Int
  period : Int
  policy : Int
def tiA (m : TM) : Value := .agg #[.int .i64 m.due, .int .i64 m.period, .int .i64 m.policy]
def tiC (m : TM) : List Value := [.int .i64 m.due, .int .i64 m.period, .int .i64 m.policy]
def tiR (zs : List TM) : List Value := zs.flatMap tiC
theorem tiR_app (xs ys : List TM) : tiR (xs ++ ys) = tiR xs ++ tiR ys := by simp [tiR]
theorem tiR_len (zs : List TM) : (tiR zs).length = zs.length * 3 := by
  induction zs with
  | nil => rfl
  | cons z zs ih =>
    have e : tiR (z :: zs) = tiC z ++ tiR zs := rfl
    rw [e, List.length_append, ih]
    simp [tiC]
    omega
theorem tiR_at (zs : List TM) (k : Nat) (hk : k < zs.length) (j : Nat) (hj : j < 3) : (tiR zs)[k * 3 + j]? = (tiC zs[k])[j]? := by
  induction zs generalizing k with
  | nil => simp at hk
  | cons z zs ih =>
    have e : tiR (z :: zs) = tiC z ++ tiR zs := rfl
    have hl : (tiC z).length = 3 := rfl
    rw [e]
    cases k with
    | zero =>
      rw [List.getElem?_append_left (by omega)]
      simp
    | succ k =>
      rw [List.getElem?_append_right (by omega), hl, show (k + 1) * 3 + j - 3 = k * 3 + j by omega, ih k (by simpa using hk)]
      simp
theorem ti_sl {w : World} {B n : Nat} {v : Value} {xs : List Value} (h : w.ownsRow B 34 3 v n xs) : ∃ ao cap, v = .slice ao n cap := by
  rcases h.2 with ⟨rfl, e⟩ | ⟨g, cap, cur, rfl, _⟩
  · exact ⟨none, 0, by rw [e]⟩
  · exact ⟨_, cap, rfl⟩
theorem ti_below {w w' : World} {B n : Nat} {v : Value} {xs : List Value} (h : w.ownsRow B 34 3 v n xs) (hb : Below w.heap.size w w') : w'.ownsRow B 34 3 v n xs :=
  h.kept (row := none) ⟨hb.os, hb.tape, hb.output, hb.size, fun k hk _ => hb.block k hk⟩ (by cases v.ownBlock <;> simp)
theorem ti_weak {w : World} {B B' : Nat} {v : Value} {n : Nat} {xs : List Value} (h : w.ownsRow B 34 3 v n xs) (hb : B' ≤ B) : w.ownsRow B' 34 3 v n xs := by
  obtain ⟨hl, h | ⟨g, cap, cur, hv, hg, h1, h2, h3, h4, h5⟩⟩ := h
  · exact ⟨hl, .inl h⟩
  · exact ⟨hl, .inr ⟨g, cap, cur, hv, Nat.le_trans hb hg, h1, h2, h3, h4, h5⟩⟩
theorem ti_cast {w : World} {B n n' : Nat} {v : Value} {xs xs' : List Value} (h : w.ownsRow B 34 3 v n xs) (hn : n = n') (hx : xs = xs') : w.ownsRow B 34 3 v n' xs' := by
  subst hn
  subst hx
  exact h
/-- Where a row lies. -/
def TMat (w : World) (g o : Nat) (zs : List TM) : Prop := ∀ (k : Nat) (hk : k < zs.length), w.cell? ⟨g, o + k * 3, none⟩ = some (.int .i64 zs[k].due) ∧ w.cell? ⟨g, o + k * 3 + 1, none⟩ = some (.int .i64 zs[k].period) ∧ w.cell? ⟨g, o + k * 3 + 2, none⟩ = some (.int .i64 zs[k].policy)
/-- A row that may be read. -/
def TMrow (w : World) (v : Value) (zs : List TM) : Prop := (zs = [] ∧ ∃ ao cap, v = .slice ao 0 cap) ∨ ∃ g o cap, v = .slice (some ⟨g, o, none⟩) zs.length cap ∧ zs.length ≤ cap ∧ g < w.heap.size ∧ TMat w g o zs
theorem TMat.below {w w' : World} {g o : Nat} {zs : List TM} (h : TMat w g o zs) {B : Nat} (hb : Below B w w') (hg : g < B) : TMat w' g o zs := by
  intro k hk
  have h2 := h k hk
  have e : ∀ x, w'.cell? ⟨g, x, none⟩ = w.cell? ⟨g, x, none⟩ := fun x => World.cell?_of_block (hb.block g hg)
  simp only [e]
  exact h2
theorem TMrow.below {w w' : World} {v : Value} {zs : List TM} (h : TMrow w v zs) (hb : Below w.heap.size w w') : TMrow w' v zs := by
  rcases h with h | ⟨g, o, cap, hv, hc, hg, ha⟩
  · exact .inl h
  · exact .inr ⟨g, o, cap, hv, hc, Nat.lt_of_lt_of_le hg hb.size, ha.below hb hg⟩
theorem TMrow.sl {w : World} {v : Value} {zs : List TM} (h : TMrow w v zs) : ∃ ao cap, v = .slice ao zs.length cap := by
  rcases h with ⟨rfl, ao, cap, rfl⟩ | ⟨g, o, cap, rfl, _⟩
  · exact ⟨_, _, rfl⟩
  · exact ⟨_, _, rfl⟩
theorem TMrow.of {w : World} {B : Nat} {v : Value} {zs : List TM} (h : w.ownsRow B 34 3 v zs.length (tiR zs)) : TMrow w v zs := by
  rcases h.2 with ⟨rfl, e⟩ | ⟨g, cap, cur, rfl, hB, hg, hc, rest⟩
  · exact .inl ⟨List.length_eq_zero_iff.1 e, _, _, by rfl⟩
  · have h2 : w.ownsRow B 34 3 (.slice (some ⟨g, 0, none⟩) zs.length cap) zs.length (tiR zs) := h
    refine .inr ⟨g, 0, cap, rfl, hc, (Array.getElem?_eq_some_iff.1 hg).1, fun k hk => ?_⟩
    simp only [Nat.zero_add]
    have a0 := h2.cellAt (k * 3 + 0) (by omega)
    have a1 := h2.cellAt (k * 3 + 1) (by omega)
    have a2 := h2.cellAt (k * 3 + 2) (by omega)
    rw [tiR_at zs k hk _ (by omega)] at a0 a1 a2
    exact ⟨a0, a1, a2⟩
end Go.Proofs.YtegcbghhcidcaaaDoor
