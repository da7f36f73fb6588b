import Derived.Test.YthhbfghbpapklaaOwnB
import Derived.Deep.QuietTactic
import Derived.BigRegion
import Derived.Deep.RegionHeld3
import Derived.Laws.MakeOwn
namespace Go.Proofs.Ythhbfghbpapklaa
open Go.ChangeShapes Go.WideShapes Go.ChangeAt Go.RowKit

structure DD where
  pos : Int
  len : Int
  write : Bool
  next : Bool
  ind : Bool
  avl : Bool
  usd : Bool
  num : Int
def ddA (m : DD) : Value := .agg #[.int .i64 m.pos, .int .i64 m.len, .bool m.write, .bool m.next, .bool m.ind, .bool m.avl, .bool m.usd, .int .i64 m.num]
def ddC (m : DD) : List Value := [.int .i64 m.pos, .int .i64 m.len, .bool m.write, .bool m.next, .bool m.ind, .bool m.avl, .bool m.usd, .int .i64 m.num]
def ddR (zs : List DD) : List Value := zs.flatMap ddC
theorem ddR_app (xs ys : List DD) : ddR (xs ++ ys) = ddR xs ++ ddR ys := by simp [ddR]
theorem ddR_len (zs : List DD) : (ddR zs).length = zs.length * 8 := by
  induction zs with
  | nil => rfl
  | cons z zs ih =>
    have e : ddR (z :: zs) = ddC z ++ ddR zs := rfl
    rw [e, List.length_append, ih]
    simp [ddC]
    omega
theorem ddR_at (zs : List DD) (k : Nat) (hk : k < zs.length) (j : Nat) (hj : j < 8) : (ddR zs)[k * 8 + j]? = (ddC zs[k])[j]? := by
  induction zs generalizing k with
  | nil => simp at hk
  | cons z zs ih =>
    have e : ddR (z :: zs) = ddC z ++ ddR zs := rfl
    have hl : (ddC z).length = 8 := rfl
    rw [e]
    cases k with
    | zero =>
      rw [List.getElem?_append_left (by omega)]
      simp
    | succ k =>
      rw [List.getElem?_append_right (by omega), hl, show (k + 1) * 8 + j - 8 = k * 8 + j by omega, ih k (by simpa using hk)]
      simp
theorem dd_sl {w : World} {B n : Nat} {v : Value} {xs : List Value} (h : w.ownsRow B 99 8 v n xs) : ∃ ao cap, v = .slice ao n cap := by
  rcases h.2 with ⟨rfl, e⟩ | ⟨g, cap, cur, rfl, _⟩
  · exact ⟨none, 0, by rw [e]⟩
  · exact ⟨_, cap, rfl⟩
theorem dd_below {w w' : World} {B n : Nat} {v : Value} {xs : List Value} (h : w.ownsRow B 99 8 v n xs) (hb : Below w.heap.size w w') : w'.ownsRow B 99 8 v n xs :=
  h.kept (row := none) ⟨hb.os, hb.tape, hb.output, hb.size, fun k hk _ => hb.block k hk⟩ (by cases v.ownBlock <;> simp)
theorem dd_weak {w : World} {B B' : Nat} {v : Value} {n : Nat} {xs : List Value} (h : w.ownsRow B 99 8 v n xs) (hb : B' ≤ B) : w.ownsRow B' 99 8 v n xs := by
  obtain ⟨hl, h | ⟨g, cap, cur, hv, hg, h1, h2, h3, h4, h5⟩⟩ := h
  · exact ⟨hl, .inl h⟩
  · exact ⟨hl, .inr ⟨g, cap, cur, hv, Nat.le_trans hb hg, h1, h2, h3, h4, h5⟩⟩
theorem dd_cast {w : World} {B n n' : Nat} {v : Value} {xs xs' : List Value} (h : w.ownsRow B 99 8 v n xs) (hn : n = n') (hx : xs = xs') : w.ownsRow B 99 8 v n' xs' := by
  subst hn
  subst hx
  exact h
/-- Where a row lies. -/
def DDat (w : World) (g o : Nat) (zs : List DD) : Prop := ∀ (k : Nat) (hk : k < zs.length), w.cell? ⟨g, o + k * 8, none⟩ = some (.int .i64 zs[k].pos) ∧ w.cell? ⟨g, o + k * 8 + 1, none⟩ = some (.int .i64 zs[k].len) ∧ w.cell? ⟨g, o + k * 8 + 2, none⟩ = some (.bool zs[k].write) ∧ w.cell? ⟨g, o + k * 8 + 3, none⟩ = some (.bool zs[k].next) ∧ w.cell? ⟨g, o + k * 8 + 4, none⟩ = some (.bool zs[k].ind) ∧ w.cell? ⟨g, o + k * 8 + 5, none⟩ = some (.bool zs[k].avl) ∧ w.cell? ⟨g, o + k * 8 + 6, none⟩ = some (.bool zs[k].usd) ∧ w.cell? ⟨g, o + k * 8 + 7, none⟩ = some (.int .i64 zs[k].num)
/-- A row that may be read. -/
def DDrow (w : World) (v : Value) (zs : List DD) : Prop := (zs = [] ∧ ∃ ao cap, v = .slice ao 0 cap) ∨ ∃ g o cap, v = .slice (some ⟨g, o, none⟩) zs.length cap ∧ zs.length ≤ cap ∧ g < w.heap.size ∧ DDat w g o zs
theorem DDat.below {w w' : World} {g o : Nat} {zs : List DD} (h : DDat w g o zs) {B : Nat} (hb : Below B w w') (hg : g < B) : DDat w' g o zs := by
  intro k hk
  have h2 := h k hk
  have e : ∀ x, w'.cell? ⟨g, x, none⟩ = w.cell? ⟨g, x, none⟩ := fun x => World.cell?_of_block (hb.block g hg)
  simp only [e]
  exact h2
theorem DDrow.below {w w' : World} {v : Value} {zs : List DD} (h : DDrow w v zs) (hb : Below w.heap.size w w') : DDrow w' v zs := by
  rcases h with h | ⟨g, o, cap, hv, hc, hg, ha⟩
  · exact .inl h
  · exact .inr ⟨g, o, cap, hv, hc, Nat.lt_of_lt_of_le hg hb.size, ha.below hb hg⟩
theorem DDrow.sl {w : World} {v : Value} {zs : List DD} (h : DDrow w v zs) : ∃ ao cap, v = .slice ao zs.length cap := by
  rcases h with ⟨rfl, ao, cap, rfl⟩ | ⟨g, o, cap, rfl, _⟩
  · exact ⟨_, _, rfl⟩
  · exact ⟨_, _, rfl⟩
theorem DDrow.of {w : World} {B : Nat} {v : Value} {zs : List DD} (h : w.ownsRow B 99 8 v zs.length (ddR zs)) : DDrow w v zs := by
  rcases h.2 with ⟨rfl, e⟩ | ⟨g, cap, cur, rfl, hB, hg, hc, rest⟩
  · exact .inl ⟨List.length_eq_zero_iff.1 e, _, _, by rfl⟩
  · have h2 : w.ownsRow B 99 8 (.slice (some ⟨g, 0, none⟩) zs.length cap) zs.length (ddR zs) := h
    refine .inr ⟨g, 0, cap, rfl, hc, (Array.getElem?_eq_some_iff.1 hg).1, fun k hk => ?_⟩
    simp only [Nat.zero_add]
    have a0 := h2.cellAt (k * 8 + 0) (by omega)
    have a1 := h2.cellAt (k * 8 + 1) (by omega)
    have a2 := h2.cellAt (k * 8 + 2) (by omega)
    have a3 := h2.cellAt (k * 8 + 3) (by omega)
    have a4 := h2.cellAt (k * 8 + 4) (by omega)
    have a5 := h2.cellAt (k * 8 + 5) (by omega)
    have a6 := h2.cellAt (k * 8 + 6) (by omega)
    have a7 := h2.cellAt (k * 8 + 7) (by omega)
    rw [ddR_at zs k hk _ (by omega)] at a0 a1 a2 a3 a4 a5 a6 a7
    exact ⟨a0, a1, a2, a3, a4, a5, a6, a7⟩
end Go.Proofs.Ythhbfghbpapklaa
