import Derived.Test.YtpggbbdfbnocfaaOwnB
import Derived.Deep.QuietTactic
import Derived.BigRegion
import Derived.Deep.RegionHeld3
import Derived.Laws.MakeOwn
namespace Go.Proofs.Ytpggbbdfbnocfaa
open Go.ChangeShapes Go.WideShapes Go.ChangeAt Go.RowKit

structure NG where
  rules : Value
def ngA (m : NG) : Value := .agg #[m.rules]
def ngC (m : NG) : List Value := [m.rules]
def ngR (zs : List NG) : List Value := zs.flatMap ngC
theorem ngR_app (xs ys : List NG) : ngR (xs ++ ys) = ngR xs ++ ngR ys := by simp [ngR]
theorem ngR_len (zs : List NG) : (ngR zs).length = zs.length * 1 := by
  induction zs with
  | nil => rfl
  | cons z zs ih =>
    have e : ngR (z :: zs) = ngC z ++ ngR zs := rfl
    rw [e, List.length_append, ih]
    simp [ngC]
    omega
theorem ngR_at (zs : List NG) (k : Nat) (hk : k < zs.length) (j : Nat) (hj : j < 1) : (ngR zs)[k * 1 + j]? = (ngC zs[k])[j]? := by
  induction zs generalizing k with
  | nil => simp at hk
  | cons z zs ih =>
    have e : ngR (z :: zs) = ngC z ++ ngR zs := rfl
    have hl : (ngC z).length = 1 := rfl
    rw [e]
    cases k with
    | zero =>
      rw [List.getElem?_append_left (by omega)]
      simp
    | succ k =>
      rw [List.getElem?_append_right (by omega), hl, show (k + 1) * 1 + j - 1 = k * 1 + j by omega, ih k (by simpa using hk)]
      simp
theorem ng_sl {w : World} {B n : Nat} {v : Value} {xs : List Value} (h : w.ownsRow B 90 1 v n xs) : ∃ ao cap, v = .slice ao n cap := by
  rcases h.2 with ⟨rfl, e⟩ | ⟨g, cap, cur, rfl, _⟩
  · exact ⟨none, 0, by rw [e]⟩
  · exact ⟨_, cap, rfl⟩
theorem ng_below {w w' : World} {B n : Nat} {v : Value} {xs : List Value} (h : w.ownsRow B 90 1 v n xs) (hb : Below w.heap.size w w') : w'.ownsRow B 90 1 v n xs :=
  h.kept (row := none) ⟨hb.os, hb.tape, hb.output, hb.size, fun k hk _ => hb.block k hk⟩ (by cases v.ownBlock <;> simp)
theorem ng_weak {w : World} {B B' : Nat} {v : Value} {n : Nat} {xs : List Value} (h : w.ownsRow B 90 1 v n xs) (hb : B' ≤ B) : w.ownsRow B' 90 1 v n xs := by
  obtain ⟨hl, h | ⟨g, cap, cur, hv, hg, h1, h2, h3, h4, h5⟩⟩ := h
  · exact ⟨hl, .inl h⟩
  · exact ⟨hl, .inr ⟨g, cap, cur, hv, Nat.le_trans hb hg, h1, h2, h3, h4, h5⟩⟩
theorem ng_cast {w : World} {B n n' : Nat} {v : Value} {xs xs' : List Value} (h : w.ownsRow B 90 1 v n xs) (hn : n = n') (hx : xs = xs') : w.ownsRow B 90 1 v n' xs' := by
  subst hn
  subst hx
  exact h
/-- Where a row lies. -/
def NGat (w : World) (g o : Nat) (zs : List NG) : Prop := ∀ (k : Nat) (hk : k < zs.length), w.cell? ⟨g, o + k, none⟩ = some (zs[k].rules)
/-- A row that may be read. -/
def NGrow (w : World) (v : Value) (zs : List NG) : Prop := (zs = [] ∧ ∃ ao cap, v = .slice ao 0 cap) ∨ ∃ g o cap, v = .slice (some ⟨g, o, none⟩) zs.length cap ∧ zs.length ≤ cap ∧ g < w.heap.size ∧ NGat w g o zs
theorem NGat.below {w w' : World} {g o : Nat} {zs : List NG} (h : NGat w g o zs) {B : Nat} (hb : Below B w w') (hg : g < B) : NGat w' g o zs := by
  intro k hk
  have h2 := h k hk
  have e : ∀ x, w'.cell? ⟨g, x, none⟩ = w.cell? ⟨g, x, none⟩ := fun x => World.cell?_of_block (hb.block g hg)
  simp only [e]
  exact h2
theorem NGrow.below {w w' : World} {v : Value} {zs : List NG} (h : NGrow w v zs) (hb : Below w.heap.size w w') : NGrow w' v zs := by
  rcases h with h | ⟨g, o, cap, hv, hc, hg, ha⟩
  · exact .inl h
  · exact .inr ⟨g, o, cap, hv, hc, Nat.lt_of_lt_of_le hg hb.size, ha.below hb hg⟩
theorem NGrow.sl {w : World} {v : Value} {zs : List NG} (h : NGrow w v zs) : ∃ ao cap, v = .slice ao zs.length cap := by
  rcases h with ⟨rfl, ao, cap, rfl⟩ | ⟨g, o, cap, rfl, _⟩
  · exact ⟨_, _, rfl⟩
  · exact ⟨_, _, rfl⟩
theorem NGrow.of {w : World} {B : Nat} {v : Value} {zs : List NG} (h : w.ownsRow B 90 1 v zs.length (ngR zs)) : NGrow w v zs := by
  rcases h.2 with ⟨rfl, e⟩ | ⟨g, cap, cur, rfl, hB, hg, hc, rest⟩
  · exact .inl ⟨List.length_eq_zero_iff.1 e, _, _, by rfl⟩
  · have h2 : w.ownsRow B 90 1 (.slice (some ⟨g, 0, none⟩) zs.length cap) zs.length (ngR zs) := h
    refine .inr ⟨g, 0, cap, rfl, hc, (Array.getElem?_eq_some_iff.1 hg).1, fun k hk => ?_⟩
    simp only [Nat.zero_add]
    have a0 := h2.cellAt (k * 1 + 0) (by omega)
    rw [ngR_at zs k hk _ (by omega)] at a0
    simpa [ngC] using a0
end Go.Proofs.Ytpggbbdfbnocfaa
