import Derived.Test.YtaobbddecmhpnaaOwnB
import Derived.Deep.QuietTactic
import Derived.BigRegion
import Derived.Deep.RegionHeld3
import Derived.Laws.MakeOwn
namespace Go.Proofs.Ytaobbddecmhpnaa
open Go.ChangeShapes Go.WideShapes Go.ChangeAt Go.RowKit

structure SN where
  n : ByteArray
  t : Value
def snA (m : SN) : Value := .agg #[.string m.n, m.t]
def snC (m : SN) : List Value := [.string m.n, m.t]
def snR (zs : List SN) : List Value := zs.flatMap snC
theorem snR_app (xs ys : List SN) : snR (xs ++ ys) = snR xs ++ snR ys := by simp [snR]
theorem snR_len (zs : List SN) : (snR zs).length = zs.length * 2 := by
  induction zs with
  | nil => rfl
  | cons z zs ih =>
    have e : snR (z :: zs) = snC z ++ snR zs := rfl
    rw [e, List.length_append, ih]
    simp [snC]
    omega
theorem snR_at (zs : List SN) (k : Nat) (hk : k < zs.length) (j : Nat) (hj : j < 2) : (snR zs)[k * 2 + j]? = (snC zs[k])[j]? := by
  induction zs generalizing k with
  | nil => simp at hk
  | cons z zs ih =>
    have e : snR (z :: zs) = snC z ++ snR zs := rfl
    have hl : (snC z).length = 2 := rfl
    rw [e]
    cases k with
    | zero =>
      rw [List.getElem?_append_left (by omega)]
      simp
    | succ k =>
      rw [List.getElem?_append_right (by omega), hl, show (k + 1) * 2 + j - 2 = k * 2 + j by omega, ih k (by simpa using hk)]
      simp
theorem sn_sl {w : World} {B n : Nat} {v : Value} {xs : List Value} (h : w.ownsRow B 43 2 v n xs) : ∃ ao cap, v = .slice ao n cap := by
  rcases h.2 with ⟨rfl, e⟩ | ⟨g, cap, cur, rfl, _⟩
  · exact ⟨none, 0, by rw [e]⟩
  · exact ⟨_, cap, rfl⟩
theorem sn_below {w w' : World} {B n : Nat} {v : Value} {xs : List Value} (h : w.ownsRow B 43 2 v n xs) (hb : Below w.heap.size w w') : w'.ownsRow B 43 2 v n xs :=
  h.kept (row := none) ⟨hb.os, hb.tape, hb.output, hb.size, fun k hk _ => hb.block k hk⟩ (by cases v.ownBlock <;> simp)
theorem sn_weak {w : World} {B B' : Nat} {v : Value} {n : Nat} {xs : List Value} (h : w.ownsRow B 43 2 v n xs) (hb : B' ≤ B) : w.ownsRow B' 43 2 v n xs := by
  obtain ⟨hl, h | ⟨g, cap, cur, hv, hg, h1, h2, h3, h4, h5⟩⟩ := h
  · exact ⟨hl, .inl h⟩
  · exact ⟨hl, .inr ⟨g, cap, cur, hv, Nat.le_trans hb hg, h1, h2, h3, h4, h5⟩⟩
theorem sn_cast {w : World} {B n n' : Nat} {v : Value} {xs xs' : List Value} (h : w.ownsRow B 43 2 v n xs) (hn : n = n') (hx : xs = xs') : w.ownsRow B 43 2 v n' xs' := by
  subst hn
  subst hx
  exact h
/-- Where a row lies. -/
def SNat (w : World) (g o : Nat) (zs : List SN) : Prop := ∀ (k : Nat) (hk : k < zs.length), w.cell? ⟨g, o + k * 2, none⟩ = some (.string zs[k].n) ∧ w.cell? ⟨g, o + k * 2 + 1, none⟩ = some (zs[k].t)
/-- A row that may be read. -/
def SNrow (w : World) (v : Value) (zs : List SN) : Prop := (zs = [] ∧ ∃ ao cap, v = .slice ao 0 cap) ∨ ∃ g o cap, v = .slice (some ⟨g, o, none⟩) zs.length cap ∧ zs.length ≤ cap ∧ g < w.heap.size ∧ SNat w g o zs
theorem SNat.below {w w' : World} {g o : Nat} {zs : List SN} (h : SNat w g o zs) {B : Nat} (hb : Below B w w') (hg : g < B) : SNat w' g o zs := by
  intro k hk
  have h2 := h k hk
  have e : ∀ x, w'.cell? ⟨g, x, none⟩ = w.cell? ⟨g, x, none⟩ := fun x => World.cell?_of_block (hb.block g hg)
  simp only [e]
  exact h2
theorem SNrow.below {w w' : World} {v : Value} {zs : List SN} (h : SNrow w v zs) (hb : Below w.heap.size w w') : SNrow w' v zs := by
  rcases h with h | ⟨g, o, cap, hv, hc, hg, ha⟩
  · exact .inl h
  · exact .inr ⟨g, o, cap, hv, hc, Nat.lt_of_lt_of_le hg hb.size, ha.below hb hg⟩
theorem SNrow.sl {w : World} {v : Value} {zs : List SN} (h : SNrow w v zs) : ∃ ao cap, v = .slice ao zs.length cap := by
  rcases h with ⟨rfl, ao, cap, rfl⟩ | ⟨g, o, cap, rfl, _⟩
  · exact ⟨_, _, rfl⟩
  · exact ⟨_, _, rfl⟩
theorem SNrow.of {w : World} {B : Nat} {v : Value} {zs : List SN} (h : w.ownsRow B 43 2 v zs.length (snR zs)) : SNrow w v zs := by
  rcases h.2 with ⟨rfl, e⟩ | ⟨g, cap, cur, rfl, hB, hg, hc, rest⟩
  · exact .inl ⟨List.length_eq_zero_iff.1 e, _, _, by rfl⟩
  · have h2 : w.ownsRow B 43 2 (.slice (some ⟨g, 0, none⟩) zs.length cap) zs.length (snR zs) := h
    refine .inr ⟨g, 0, cap, rfl, hc, (Array.getElem?_eq_some_iff.1 hg).1, fun k hk => ?_⟩
    simp only [Nat.zero_add]
    have a0 := h2.cellAt (k * 2 + 0) (by omega)
    have a1 := h2.cellAt (k * 2 + 1) (by omega)
    rw [snR_at zs k hk _ (by omega)] at a0 a1
    exact ⟨a0, a1⟩
end Go.Proofs.Ytaobbddecmhpnaa
