import Derived.Test.YtfagohdmepnkkaaOwnB
import Derived.Deep.QuietTactic
import Derived.BigRegion
import Derived.Deep.RegionHeld3
import Derived.Laws.MakeOwn
namespace Go.Proofs.Ytfagohdmepnkkaa
open Go.ChangeShapes Go.WideShapes Go.ChangeAt Go.RowKit

structure TE where
  asid : Int
  page : Int
  frame : Int
  flags : Int
  large : Bool
def teA (m : TE) : Value := .agg #[.int .i64 m.asid, .int .i64 m.page, .int .i64 m.frame, .int .i64 m.flags, .bool m.large]
def teC (m : TE) : List Value := [.int .i64 m.asid, .int .i64 m.page, .int .i64 m.frame, .int .i64 m.flags, .bool m.large]
def teR (zs : List TE) : List Value := zs.flatMap teC
theorem teR_app (xs ys : List TE) : teR (xs ++ ys) = teR xs ++ teR ys := by simp [teR]
theorem teR_len (zs : List TE) : (teR zs).length = zs.length * 5 := by
  induction zs with
  | nil => rfl
  | cons z zs ih =>
    have e : teR (z :: zs) = teC z ++ teR zs := rfl
    rw [e, List.length_append, ih]
    simp [teC]
    omega
theorem teR_at (zs : List TE) (k : Nat) (hk : k < zs.length) (j : Nat) (hj : j < 5) : (teR zs)[k * 5 + j]? = (teC zs[k])[j]? := by
  induction zs generalizing k with
  | nil => simp at hk
  | cons z zs ih =>
    have e : teR (z :: zs) = teC z ++ teR zs := rfl
    have hl : (teC z).length = 5 := rfl
    rw [e]
    cases k with
    | zero =>
      rw [List.getElem?_append_left (by omega)]
      simp
    | succ k =>
      rw [List.getElem?_append_right (by omega), hl, show (k + 1) * 5 + j - 5 = k * 5 + j by omega, ih k (by simpa using hk)]
      simp
theorem te_sl {w : World} {B n : Nat} {v : Value} {xs : List Value} (h : w.ownsRow B 66 5 v n xs) : ∃ ao cap, v = .slice ao n cap := by
  rcases h.2 with ⟨rfl, e⟩ | ⟨g, cap, cur, rfl, _⟩
  · exact ⟨none, 0, by rw [e]⟩
  · exact ⟨_, cap, rfl⟩
theorem te_below {w w' : World} {B n : Nat} {v : Value} {xs : List Value} (h : w.ownsRow B 66 5 v n xs) (hb : Below w.heap.size w w') : w'.ownsRow B 66 5 v n xs :=
  h.kept (row := none) ⟨hb.os, hb.tape, hb.output, hb.size, fun k hk _ => hb.block k hk⟩ (by cases v.ownBlock <;> simp)
theorem te_weak {w : World} {B B' : Nat} {v : Value} {n : Nat} {xs : List Value} (h : w.ownsRow B 66 5 v n xs) (hb : B' ≤ B) : w.ownsRow B' 66 5 v n xs := by
  obtain ⟨hl, h | ⟨g, cap, cur, hv, hg, h1, h2, h3, h4, h5⟩⟩ := h
  · exact ⟨hl, .inl h⟩
  · exact ⟨hl, .inr ⟨g, cap, cur, hv, Nat.le_trans hb hg, h1, h2, h3, h4, h5⟩⟩
theorem te_cast {w : World} {B n n' : Nat} {v : Value} {xs xs' : List Value} (h : w.ownsRow B 66 5 v n xs) (hn : n = n') (hx : xs = xs') : w.ownsRow B 66 5 v n' xs' := by
  subst hn
  subst hx
  exact h
/-- Where a row lies. -/
def TEat (w : World) (g o : Nat) (zs : List TE) : Prop := ∀ (k : Nat) (hk : k < zs.length), w.cell? ⟨g, o + k * 5, none⟩ = some (.int .i64 zs[k].asid) ∧ w.cell? ⟨g, o + k * 5 + 1, none⟩ = some (.int .i64 zs[k].page) ∧ w.cell? ⟨g, o + k * 5 + 2, none⟩ = some (.int .i64 zs[k].frame) ∧ w.cell? ⟨g, o + k * 5 + 3, none⟩ = some (.int .i64 zs[k].flags) ∧ w.cell? ⟨g, o + k * 5 + 4, none⟩ = some (.bool zs[k].large)
/-- A row that may be read. -/
def TErow (w : World) (v : Value) (zs : List TE) : Prop := (zs = [] ∧ ∃ ao cap, v = .slice ao 0 cap) ∨ ∃ g o cap, v = .slice (some ⟨g, o, none⟩) zs.length cap ∧ zs.length ≤ cap ∧ g < w.heap.size ∧ TEat w g o zs
theorem TEat.below {w w' : World} {g o : Nat} {zs : List TE} (h : TEat w g o zs) {B : Nat} (hb : Below B w w') (hg : g < B) : TEat w' g o zs := by
  intro k hk
  have h2 := h k hk
  have e : ∀ x, w'.cell? ⟨g, x, none⟩ = w.cell? ⟨g, x, none⟩ := fun x => World.cell?_of_block (hb.block g hg)
  simp only [e]
  exact h2
theorem TErow.below {w w' : World} {v : Value} {zs : List TE} (h : TErow w v zs) (hb : Below w.heap.size w w') : TErow w' v zs := by
  rcases h with h | ⟨g, o, cap, hv, hc, hg, ha⟩
  · exact .inl h
  · exact .inr ⟨g, o, cap, hv, hc, Nat.lt_of_lt_of_le hg hb.size, ha.below hb hg⟩
theorem TErow.sl {w : World} {v : Value} {zs : List TE} (h : TErow w v zs) : ∃ ao cap, v = .slice ao zs.length cap := by
  rcases h with ⟨rfl, ao, cap, rfl⟩ | ⟨g, o, cap, rfl, _⟩
  · exact ⟨_, _, rfl⟩
  · exact ⟨_, _, rfl⟩
theorem TErow.of {w : World} {B : Nat} {v : Value} {zs : List TE} (h : w.ownsRow B 66 5 v zs.length (teR zs)) : TErow w v zs := by
  rcases h.2 with ⟨rfl, e⟩ | ⟨g, cap, cur, rfl, hB, hg, hc, rest⟩
  · exact .inl ⟨List.length_eq_zero_iff.1 e, _, _, by rfl⟩
  · have h2 : w.ownsRow B 66 5 (.slice (some ⟨g, 0, none⟩) zs.length cap) zs.length (teR zs) := h
    refine .inr ⟨g, 0, cap, rfl, hc, (Array.getElem?_eq_some_iff.1 hg).1, fun k hk => ?_⟩
    simp only [Nat.zero_add]
    have a0 := h2.cellAt (k * 5 + 0) (by omega)
    have a1 := h2.cellAt (k * 5 + 1) (by omega)
    have a2 := h2.cellAt (k * 5 + 2) (by omega)
    have a3 := h2.cellAt (k * 5 + 3) (by omega)
    have a4 := h2.cellAt (k * 5 + 4) (by omega)
    rw [teR_at zs k hk _ (by omega)] at a0 a1 a2 a3 a4
    exact ⟨a0, a1, a2, a3, a4⟩
end Go.Proofs.Ytfagohdmepnkkaa
