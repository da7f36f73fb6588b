import Derived.Test.YtefeahilamiiaaaOwnB
import Derived.Deep.QuietTactic
import Derived.BigRegion
import Derived.Deep.RegionHeld3
import Derived.Laws.MakeOwn
namespace Go.Proofs.Ytefeahilamiiaaa
open Go.ChangeShapes Go.WideShapes Go.ChangeAt Go.RowKit

structure PQ where
  net : Int
  nets : Value
  own : Int
  up : Bool
  rate : Int
  burst : Int
  lev : Int
def pqA (m : PQ) : Value := .agg #[.int .i64 m.net, m.nets, .int .i64 m.own, .bool m.up, .int .i64 m.rate, .int .i64 m.burst, .int .i64 m.lev]
def pqC (m : PQ) : List Value := [.int .i64 m.net, m.nets, .int .i64 m.own, .bool m.up, .int .i64 m.rate, .int .i64 m.burst, .int .i64 m.lev]
def pqR (zs : List PQ) : List Value := zs.flatMap pqC
theorem pqR_app (xs ys : List PQ) : pqR (xs ++ ys) = pqR xs ++ pqR ys := by simp [pqR]
theorem pqR_len (zs : List PQ) : (pqR zs).length = zs.length * 7 := by
  induction zs with
  | nil => rfl
  | cons z zs ih =>
    have e : pqR (z :: zs) = pqC z ++ pqR zs := rfl
    rw [e, List.length_append, ih]
    simp [pqC]
    omega
theorem pqR_at (zs : List PQ) (k : Nat) (hk : k < zs.length) (j : Nat) (hj : j < 7) : (pqR zs)[k * 7 + j]? = (pqC zs[k])[j]? := by
  induction zs generalizing k with
  | nil => simp at hk
  | cons z zs ih =>
    have e : pqR (z :: zs) = pqC z ++ pqR zs := rfl
    have hl : (pqC z).length = 7 := rfl
    rw [e]
    cases k with
    | zero =>
      rw [List.getElem?_append_left (by omega)]
      simp
    | succ k =>
      rw [List.getElem?_append_right (by omega), hl, show (k + 1) * 7 + j - 7 = k * 7 + j by omega, ih k (by simpa using hk)]
      simp
theorem pq_sl {w : World} {B n : Nat} {v : Value} {xs : List Value} (h : w.ownsRow B 73 7 v n xs) : ∃ ao cap, v = .slice ao n cap := by
  rcases h.2 with ⟨rfl, e⟩ | ⟨g, cap, cur, rfl, _⟩
  · exact ⟨none, 0, by rw [e]⟩
  · exact ⟨_, cap, rfl⟩
theorem pq_below {w w' : World} {B n : Nat} {v : Value} {xs : List Value} (h : w.ownsRow B 73 7 v n xs) (hb : Below w.heap.size w w') : w'.ownsRow B 73 7 v n xs :=
  h.kept (row := none) ⟨hb.os, hb.tape, hb.output, hb.size, fun k hk _ => hb.block k hk⟩ (by cases v.ownBlock <;> simp)
theorem pq_weak {w : World} {B B' : Nat} {v : Value} {n : Nat} {xs : List Value} (h : w.ownsRow B 73 7 v n xs) (hb : B' ≤ B) : w.ownsRow B' 73 7 v n xs := by
  obtain ⟨hl, h | ⟨g, cap, cur, hv, hg, h1, h2, h3, h4, h5⟩⟩ := h
  · exact ⟨hl, .inl h⟩
  · exact ⟨hl, .inr ⟨g, cap, cur, hv, Nat.le_trans hb hg, h1, h2, h3, h4, h5⟩⟩
theorem pq_cast {w : World} {B n n' : Nat} {v : Value} {xs xs' : List Value} (h : w.ownsRow B 73 7 v n xs) (hn : n = n') (hx : xs = xs') : w.ownsRow B 73 7 v n' xs' := by
  subst hn
  subst hx
  exact h
/-- Where a row lies. -/
def PQat (w : World) (g o : Nat) (zs : List PQ) : Prop := ∀ (k : Nat) (hk : k < zs.length), w.cell? ⟨g, o + k * 7, none⟩ = some (.int .i64 zs[k].net) ∧ w.cell? ⟨g, o + k * 7 + 1, none⟩ = some (zs[k].nets) ∧ w.cell? ⟨g, o + k * 7 + 2, none⟩ = some (.int .i64 zs[k].own) ∧ w.cell? ⟨g, o + k * 7 + 3, none⟩ = some (.bool zs[k].up) ∧ w.cell? ⟨g, o + k * 7 + 4, none⟩ = some (.int .i64 zs[k].rate) ∧ w.cell? ⟨g, o + k * 7 + 5, none⟩ = some (.int .i64 zs[k].burst) ∧ w.cell? ⟨g, o + k * 7 + 6, none⟩ = some (.int .i64 zs[k].lev)
/-- A row that may be read. -/
def PQrow (w : World) (v : Value) (zs : List PQ) : Prop := (zs = [] ∧ ∃ ao cap, v = .slice ao 0 cap) ∨ ∃ g o cap, v = .slice (some ⟨g, o, none⟩) zs.length cap ∧ zs.length ≤ cap ∧ g < w.heap.size ∧ PQat w g o zs
theorem PQat.below {w w' : World} {g o : Nat} {zs : List PQ} (h : PQat w g o zs) {B : Nat} (hb : Below B w w') (hg : g < B) : PQat w' g o zs := by
  intro k hk
  have h2 := h k hk
  have e : ∀ x, w'.cell? ⟨g, x, none⟩ = w.cell? ⟨g, x, none⟩ := fun x => World.cell?_of_block (hb.block g hg)
  simp only [e]
  exact h2
theorem PQrow.below {w w' : World} {v : Value} {zs : List PQ} (h : PQrow w v zs) (hb : Below w.heap.size w w') : PQrow w' v zs := by
  rcases h with h | ⟨g, o, cap, hv, hc, hg, ha⟩
  · exact .inl h
  · exact .inr ⟨g, o, cap, hv, hc, Nat.lt_of_lt_of_le hg hb.size, ha.below hb hg⟩
theorem PQrow.sl {w : World} {v : Value} {zs : List PQ} (h : PQrow w v zs) : ∃ ao cap, v = .slice ao zs.length cap := by
  rcases h with ⟨rfl, ao, cap, rfl⟩ | ⟨g, o, cap, rfl, _⟩
  · exact ⟨_, _, rfl⟩
  · exact ⟨_, _, rfl⟩
theorem PQrow.of {w : World} {B : Nat} {v : Value} {zs : List PQ} (h : w.ownsRow B 73 7 v zs.length (pqR zs)) : PQrow w v zs := by
  rcases h.2 with ⟨rfl, e⟩ | ⟨g, cap, cur, rfl, hB, hg, hc, rest⟩
  · exact .inl ⟨List.length_eq_zero_iff.1 e, _, _, by rfl⟩
  · have h2 : w.ownsRow B 73 7 (.slice (some ⟨g, 0, none⟩) zs.length cap) zs.length (pqR zs) := h
    refine .inr ⟨g, 0, cap, rfl, hc, (Array.getElem?_eq_some_iff.1 hg).1, fun k hk => ?_⟩
    simp only [Nat.zero_add]
    have a0 := h2.cellAt (k * 7 + 0) (by omega)
    have a1 := h2.cellAt (k * 7 + 1) (by omega)
    have a2 := h2.cellAt (k * 7 + 2) (by omega)
    have a3 := h2.cellAt (k * 7 + 3) (by omega)
    have a4 := h2.cellAt (k * 7 + 4) (by omega)
    have a5 := h2.cellAt (k * 7 + 5) (by omega)
    have a6 := h2.cellAt (k * 7 + 6) (by omega)
    rw [pqR_at zs k hk _ (by omega)] at a0 a1 a2 a3 a4 a5 a6
    exact ⟨a0, a1, a2, a3, a4, a5, a6⟩
end Go.Proofs.Ytefeahilamiiaaa
