import Derived.Test.YtefeahilamiiaaaOwnB
import Derived.Deep.QuietTactic
import Derived.BigRegion
import Derived.Deep.RegionHeld3
import Derived.Laws.MakeOwn
namespace Go.Proofs.Ytefeahilamiiaaa
open Go.ChangeShapes Go.WideShapes Go.ChangeAt Go.RowKit

structure CQ where
  lim : Int
  p : Value
  s : Value
def cqA (m : CQ) : Value := .agg #[.int .i64 m.lim, m.p, m.s]
def cqC (m : CQ) : List Value := [.int .i64 m.lim, m.p, m.s]
def cqR (zs : List CQ) : List Value := zs.flatMap cqC
theorem cqR_app (xs ys : List CQ) : cqR (xs ++ ys) = cqR xs ++ cqR ys := by simp [cqR]
theorem cqR_len (zs : List CQ) : (cqR zs).length = zs.length * 3 := by
  induction zs with
  | nil => rfl
  | cons z zs ih =>
    have e : cqR (z :: zs) = cqC z ++ cqR zs := rfl
    rw [e, List.length_append, ih]
    simp [cqC]
    omega
theorem cqR_at (zs : List CQ) (k : Nat) (hk : k < zs.length) (j : Nat) (hj : j < 3) : (cqR zs)[k * 3 + j]? = (cqC zs[k])[j]? := by
  induction zs generalizing k with
  | nil => simp at hk
  | cons z zs ih =>
    have e : cqR (z :: zs) = cqC z ++ cqR zs := rfl
    have hl : (cqC z).length = 3 := rfl
    rw [e]
    cases k with
    | zero =>
      rw [List.getElem?_append_left (by omega)]
      simp
    | succ k =>
      rw [List.getElem?_append_right (by omega), hl, show (k + 1) * 3 + j - 3 = k * 3 + j by omega, ih k (by simpa using hk)]
      simp
theorem cq_sl {w : World} {B n : Nat} {v : Value} {xs : List Value} (h : w.ownsRow B 59 3 v n xs) : ∃ ao cap, v = .slice ao n cap := by
  rcases h.2 with ⟨rfl, e⟩ | ⟨g, cap, cur, rfl, _⟩
  · exact ⟨none, 0, by rw [e]⟩
  · exact ⟨_, cap, rfl⟩
theorem cq_below {w w' : World} {B n : Nat} {v : Value} {xs : List Value} (h : w.ownsRow B 59 3 v n xs) (hb : Below w.heap.size w w') : w'.ownsRow B 59 3 v n xs :=
  h.kept (row := none) ⟨hb.os, hb.tape, hb.output, hb.size, fun k hk _ => hb.block k hk⟩ (by cases v.ownBlock <;> simp)
theorem cq_weak {w : World} {B B' : Nat} {v : Value} {n : Nat} {xs : List Value} (h : w.ownsRow B 59 3 v n xs) (hb : B' ≤ B) : w.ownsRow B' 59 3 v n xs := by
  obtain ⟨hl, h | ⟨g, cap, cur, hv, hg, h1, h2, h3, h4, h5⟩⟩ := h
  · exact ⟨hl, .inl h⟩
  · exact ⟨hl, .inr ⟨g, cap, cur, hv, Nat.le_trans hb hg, h1, h2, h3, h4, h5⟩⟩
theorem cq_cast {w : World} {B n n' : Nat} {v : Value} {xs xs' : List Value} (h : w.ownsRow B 59 3 v n xs) (hn : n = n') (hx : xs = xs') : w.ownsRow B 59 3 v n' xs' := by
  subst hn
  subst hx
  exact h
/-- Where a row lies. -/
def CQat (w : World) (g o : Nat) (zs : List CQ) : Prop := ∀ (k : Nat) (hk : k < zs.length), w.cell? ⟨g, o + k * 3, none⟩ = some (.int .i64 zs[k].lim) ∧ w.cell? ⟨g, o + k * 3 + 1, none⟩ = some (zs[k].p) ∧ w.cell? ⟨g, o + k * 3 + 2, none⟩ = some (zs[k].s)
/-- A row that may be read. -/
def CQrow (w : World) (v : Value) (zs : List CQ) : Prop := (zs = [] ∧ ∃ ao cap, v = .slice ao 0 cap) ∨ ∃ g o cap, v = .slice (some ⟨g, o, none⟩) zs.length cap ∧ zs.length ≤ cap ∧ g < w.heap.size ∧ CQat w g o zs
theorem CQat.below {w w' : World} {g o : Nat} {zs : List CQ} (h : CQat w g o zs) {B : Nat} (hb : Below B w w') (hg : g < B) : CQat w' g o zs := by
  intro k hk
  have h2 := h k hk
  have e : ∀ x, w'.cell? ⟨g, x, none⟩ = w.cell? ⟨g, x, none⟩ := fun x => World.cell?_of_block (hb.block g hg)
  simp only [e]
  exact h2
theorem CQrow.below {w w' : World} {v : Value} {zs : List CQ} (h : CQrow w v zs) (hb : Below w.heap.size w w') : CQrow w' v zs := by
  rcases h with h | ⟨g, o, cap, hv, hc, hg, ha⟩
  · exact .inl h
  · exact .inr ⟨g, o, cap, hv, hc, Nat.lt_of_lt_of_le hg hb.size, ha.below hb hg⟩
theorem CQrow.sl {w : World} {v : Value} {zs : List CQ} (h : CQrow w v zs) : ∃ ao cap, v = .slice ao zs.length cap := by
  rcases h with ⟨rfl, ao, cap, rfl⟩ | ⟨g, o, cap, rfl, _⟩
  · exact ⟨_, _, rfl⟩
  · exact ⟨_, _, rfl⟩
theorem CQrow.of {w : World} {B : Nat} {v : Value} {zs : List CQ} (h : w.ownsRow B 59 3 v zs.length (cqR zs)) : CQrow w v zs := by
  rcases h.2 with ⟨rfl, e⟩ | ⟨g, cap, cur, rfl, hB, hg, hc, rest⟩
  · exact .inl ⟨List.length_eq_zero_iff.1 e, _, _, by rfl⟩
  · have h2 : w.ownsRow B 59 3 (.slice (some ⟨g, 0, none⟩) zs.length cap) zs.length (cqR zs) := h
    refine .inr ⟨g, 0, cap, rfl, hc, (Array.getElem?_eq_some_iff.1 hg).1, fun k hk => ?_⟩
    simp only [Nat.zero_add]
    have a0 := h2.cellAt (k * 3 + 0) (by omega)
    have a1 := h2.cellAt (k * 3 + 1) (by omega)
    have a2 := h2.cellAt (k * 3 + 2) (by omega)
    rw [cqR_at zs k hk _ (by omega)] at a0 a1 a2
    exact ⟨a0, a1, a2⟩
end Go.Proofs.Ytefeahilamiiaaa
