import Derived.Test.YtaobbddecmhpnaaOwnB
import Derived.Deep.QuietTactic
import Derived.BigRegion
import Derived.Deep.RegionHeld3
import Derived.Laws.MakeOwn
namespace Go.Proofs.Ytaobbddecmhpnaa
open Go.ChangeShapes Go.WideShapes Go.ChangeAt Go.RowKit

structure IG where
  n : ByteArray
  b : ByteArray
  t : Value
  d : Value
  s : Value
def igA (m : IG) : Value := .agg #[.string m.n, .string m.b, m.t, m.d, m.s]
def igC (m : IG) : List Value := [.string m.n, .string m.b, m.t, m.d, m.s]
def igR (zs : List IG) : List Value := zs.flatMap igC
theorem igR_app (xs ys : List IG) : igR (xs ++ ys) = igR xs ++ igR ys := by simp [igR]
theorem igR_len (zs : List IG) : (igR zs).length = zs.length * 5 := by
  induction zs with
  | nil => rfl
  | cons z zs ih =>
    have e : igR (z :: zs) = igC z ++ igR zs := rfl
    rw [e, List.length_append, ih]
    simp [igC]
    omega
theorem igR_at (zs : List IG) (k : Nat) (hk : k < zs.length) (j : Nat) (hj : j < 5) : (igR zs)[k * 5 + j]? = (igC zs[k])[j]? := by
  induction zs generalizing k with
  | nil => simp at hk
  | cons z zs ih =>
    have e : igR (z :: zs) = igC z ++ igR zs := rfl
    have hl : (igC z).length = 5 := rfl
    rw [e]
    cases k with
    | zero =>
      rw [List.getElem?_append_left (by omega)]
      simp
    | succ k =>
      rw [List.getElem?_append_right (by omega), hl, show (k + 1) * 5 + j - 5 = k * 5 + j by omega, ih k (by simpa using hk)]
      simp
theorem ig_sl {w : World} {B n : Nat} {v : Value} {xs : List Value} (h : w.ownsRow B 31 5 v n xs) : ∃ ao cap, v = .slice ao n cap := by
  rcases h.2 with ⟨rfl, e⟩ | ⟨g, cap, cur, rfl, _⟩
  · exact ⟨none, 0, by rw [e]⟩
  · exact ⟨_, cap, rfl⟩
theorem ig_below {w w' : World} {B n : Nat} {v : Value} {xs : List Value} (h : w.ownsRow B 31 5 v n xs) (hb : Below w.heap.size w w') : w'.ownsRow B 31 5 v n xs :=
  h.kept (row := none) ⟨hb.os, hb.tape, hb.output, hb.size, fun k hk _ => hb.block k hk⟩ (by cases v.ownBlock <;> simp)
theorem ig_weak {w : World} {B B' : Nat} {v : Value} {n : Nat} {xs : List Value} (h : w.ownsRow B 31 5 v n xs) (hb : B' ≤ B) : w.ownsRow B' 31 5 v n xs := by
  obtain ⟨hl, h | ⟨g, cap, cur, hv, hg, h1, h2, h3, h4, h5⟩⟩ := h
  · exact ⟨hl, .inl h⟩
  · exact ⟨hl, .inr ⟨g, cap, cur, hv, Nat.le_trans hb hg, h1, h2, h3, h4, h5⟩⟩
theorem ig_cast {w : World} {B n n' : Nat} {v : Value} {xs xs' : List Value} (h : w.ownsRow B 31 5 v n xs) (hn : n = n') (hx : xs = xs') : w.ownsRow B 31 5 v n' xs' := by
  subst hn
  subst hx
  exact h
/-- Where a row lies. -/
def IGat (w : World) (g o : Nat) (zs : List IG) : Prop := ∀ (k : Nat) (hk : k < zs.length), w.cell? ⟨g, o + k * 5, none⟩ = some (.string zs[k].n) ∧ w.cell? ⟨g, o + k * 5 + 1, none⟩ = some (.string zs[k].b) ∧ w.cell? ⟨g, o + k * 5 + 2, none⟩ = some (zs[k].t) ∧ w.cell? ⟨g, o + k * 5 + 3, none⟩ = some (zs[k].d) ∧ w.cell? ⟨g, o + k * 5 + 4, none⟩ = some (zs[k].s)
/-- A row that may be read. -/
def IGrow (w : World) (v : Value) (zs : List IG) : Prop := (zs = [] ∧ ∃ ao cap, v = .slice ao 0 cap) ∨ ∃ g o cap, v = .slice (some ⟨g, o, none⟩) zs.length cap ∧ zs.length ≤ cap ∧ g < w.heap.size ∧ IGat w g o zs
theorem IGat.below {w w' : World} {g o : Nat} {zs : List IG} (h : IGat w g o zs) {B : Nat} (hb : Below B w w') (hg : g < B) : IGat w' g o zs := by
  intro k hk
  have h2 := h k hk
  have e : ∀ x, w'.cell? ⟨g, x, none⟩ = w.cell? ⟨g, x, none⟩ := fun x => World.cell?_of_block (hb.block g hg)
  simp only [e]
  exact h2
theorem IGrow.below {w w' : World} {v : Value} {zs : List IG} (h : IGrow w v zs) (hb : Below w.heap.size w w') : IGrow w' v zs := by
  rcases h with h | ⟨g, o, cap, hv, hc, hg, ha⟩
  · exact .inl h
  · exact .inr ⟨g, o, cap, hv, hc, Nat.lt_of_lt_of_le hg hb.size, ha.below hb hg⟩
theorem IGrow.sl {w : World} {v : Value} {zs : List IG} (h : IGrow w v zs) : ∃ ao cap, v = .slice ao zs.length cap := by
  rcases h with ⟨rfl, ao, cap, rfl⟩ | ⟨g, o, cap, rfl, _⟩
  · exact ⟨_, _, rfl⟩
  · exact ⟨_, _, rfl⟩
theorem IGrow.of {w : World} {B : Nat} {v : Value} {zs : List IG} (h : w.ownsRow B 31 5 v zs.length (igR zs)) : IGrow w v zs := by
  rcases h.2 with ⟨rfl, e⟩ | ⟨g, cap, cur, rfl, hB, hg, hc, rest⟩
  · exact .inl ⟨List.length_eq_zero_iff.1 e, _, _, by rfl⟩
  · have h2 : w.ownsRow B 31 5 (.slice (some ⟨g, 0, none⟩) zs.length cap) zs.length (igR zs) := h
    refine .inr ⟨g, 0, cap, rfl, hc, (Array.getElem?_eq_some_iff.1 hg).1, fun k hk => ?_⟩
    simp only [Nat.zero_add]
    have a0 := h2.cellAt (k * 5 + 0) (by omega)
    have a1 := h2.cellAt (k * 5 + 1) (by omega)
    have a2 := h2.cellAt (k * 5 + 2) (by omega)
    have a3 := h2.cellAt (k * 5 + 3) (by omega)
    have a4 := h2.cellAt (k * 5 + 4) (by omega)
    rw [igR_at zs k hk _ (by omega)] at a0 a1 a2 a3 a4
    exact ⟨a0, a1, a2, a3, a4⟩
end Go.Proofs.Ytaobbddecmhpnaa
