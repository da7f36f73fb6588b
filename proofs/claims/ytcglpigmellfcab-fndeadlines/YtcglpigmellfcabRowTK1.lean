import Derived.Test.YtcglpigmellfcabOwnB
import Derived.Deep.QuietTactic
import Derived.BigRegion
import Derived.Deep.RegionHeld3
import Derived.Laws.MakeOwn
namespace Go.Proofs.Ytcglpigmellfcab
open Go.ChangeShapes Go.WideShapes Go.ChangeAt Go.RowKit

structure TK where
  start : Int
  period : Int
  budget : Int
  left : Int
  fin : Int
  missed : Int
def tkA (m : TK) : Value := .agg #[.int .i64 m.start, .int .i64 m.period, .int .i64 m.budget, .int .i64 m.left, .int .i64 m.fin, .int .i64 m.missed]
def tkC (m : TK) : List Value := [.int .i64 m.start, .int .i64 m.period, .int .i64 m.budget, .int .i64 m.left, .int .i64 m.fin, .int .i64 m.missed]
def tkR (zs : List TK) : List Value := zs.flatMap tkC
theorem tkR_app (xs ys : List TK) : tkR (xs ++ ys) = tkR xs ++ tkR ys := by simp [tkR]
theorem tkR_len (zs : List TK) : (tkR zs).length = zs.length * 6 := by
  induction zs with
  | nil => rfl
  | cons z zs ih =>
    have e : tkR (z :: zs) = tkC z ++ tkR zs := rfl
    rw [e, List.length_append, ih]
    simp [tkC]
    omega
theorem tkR_at (zs : List TK) (k : Nat) (hk : k < zs.length) (j : Nat) (hj : j < 6) : (tkR zs)[k * 6 + j]? = (tkC zs[k])[j]? := by
  induction zs generalizing k with
  | nil => simp at hk
  | cons z zs ih =>
    have e : tkR (z :: zs) = tkC z ++ tkR zs := rfl
    have hl : (tkC z).length = 6 := rfl
    rw [e]
    cases k with
    | zero =>
      rw [List.getElem?_append_left (by omega)]
      simp
    | succ k =>
      rw [List.getElem?_append_right (by omega), hl, show (k + 1) * 6 + j - 6 = k * 6 + j by omega, ih k (by simpa using hk)]
      simp
theorem tk_sl {w : World} {B n : Nat} {v : Value} {xs : List Value} (h : w.ownsRow B 110 6 v n xs) : ∃ ao cap, v = .slice ao n cap := by
  rcases h.2 with ⟨rfl, e⟩ | ⟨g, cap, cur, rfl, _⟩
  · exact ⟨none, 0, by rw [e]⟩
  · exact ⟨_, cap, rfl⟩
theorem tk_below {w w' : World} {B n : Nat} {v : Value} {xs : List Value} (h : w.ownsRow B 110 6 v n xs) (hb : Below w.heap.size w w') : w'.ownsRow B 110 6 v n xs :=
  h.kept (row := none) ⟨hb.os, hb.tape, hb.output, hb.size, fun k hk _ => hb.block k hk⟩ (by cases v.ownBlock <;> simp)
theorem tk_weak {w : World} {B B' : Nat} {v : Value} {n : Nat} {xs : List Value} (h : w.ownsRow B 110 6 v n xs) (hb : B' ≤ B) : w.ownsRow B' 110 6 v n xs := by
  obtain ⟨hl, h | ⟨g, cap, cur, hv, hg, h1, h2, h3, h4, h5⟩⟩ := h
  · exact ⟨hl, .inl h⟩
  · exact ⟨hl, .inr ⟨g, cap, cur, hv, Nat.le_trans hb hg, h1, h2, h3, h4, h5⟩⟩
theorem tk_cast {w : World} {B n n' : Nat} {v : Value} {xs xs' : List Value} (h : w.ownsRow B 110 6 v n xs) (hn : n = n') (hx : xs = xs') : w.ownsRow B 110 6 v n' xs' := by
  subst hn
  subst hx
  exact h
/-- Where a row lies. -/
def TKat (w : World) (g o : Nat) (zs : List TK) : Prop := ∀ (k : Nat) (hk : k < zs.length), w.cell? ⟨g, o + k * 6, none⟩ = some (.int .i64 zs[k].start) ∧ w.cell? ⟨g, o + k * 6 + 1, none⟩ = some (.int .i64 zs[k].period) ∧ w.cell? ⟨g, o + k * 6 + 2, none⟩ = some (.int .i64 zs[k].budget) ∧ w.cell? ⟨g, o + k * 6 + 3, none⟩ = some (.int .i64 zs[k].left) ∧ w.cell? ⟨g, o + k * 6 + 4, none⟩ = some (.int .i64 zs[k].fin) ∧ w.cell? ⟨g, o + k * 6 + 5, none⟩ = some (.int .i64 zs[k].missed)
/-- A row that may be read. -/
def TKrow (w : World) (v : Value) (zs : List TK) : Prop := (zs = [] ∧ ∃ ao cap, v = .slice ao 0 cap) ∨ ∃ g o cap, v = .slice (some ⟨g, o, none⟩) zs.length cap ∧ zs.length ≤ cap ∧ g < w.heap.size ∧ TKat w g o zs
theorem TKat.below {w w' : World} {g o : Nat} {zs : List TK} (h : TKat w g o zs) {B : Nat} (hb : Below B w w') (hg : g < B) : TKat w' g o zs := by
  intro k hk
  have h2 := h k hk
  have e : ∀ x, w'.cell? ⟨g, x, none⟩ = w.cell? ⟨g, x, none⟩ := fun x => World.cell?_of_block (hb.block g hg)
  simp only [e]
  exact h2
theorem TKrow.below {w w' : World} {v : Value} {zs : List TK} (h : TKrow w v zs) (hb : Below w.heap.size w w') : TKrow w' v zs := by
  rcases h with h | ⟨g, o, cap, hv, hc, hg, ha⟩
  · exact .inl h
  · exact .inr ⟨g, o, cap, hv, hc, Nat.lt_of_lt_of_le hg hb.size, ha.below hb hg⟩
theorem TKrow.sl {w : World} {v : Value} {zs : List TK} (h : TKrow w v zs) : ∃ ao cap, v = .slice ao zs.length cap := by
  rcases h with ⟨rfl, ao, cap, rfl⟩ | ⟨g, o, cap, rfl, _⟩
  · exact ⟨_, _, rfl⟩
  · exact ⟨_, _, rfl⟩
theorem TKrow.of {w : World} {B : Nat} {v : Value} {zs : List TK} (h : w.ownsRow B 110 6 v zs.length (tkR zs)) : TKrow w v zs := by
  rcases h.2 with ⟨rfl, e⟩ | ⟨g, cap, cur, rfl, hB, hg, hc, rest⟩
  · exact .inl ⟨List.length_eq_zero_iff.1 e, _, _, by rfl⟩
  · have h2 : w.ownsRow B 110 6 (.slice (some ⟨g, 0, none⟩) zs.length cap) zs.length (tkR zs) := h
    refine .inr ⟨g, 0, cap, rfl, hc, (Array.getElem?_eq_some_iff.1 hg).1, fun k hk => ?_⟩
    simp only [Nat.zero_add]
    have a0 := h2.cellAt (k * 6 + 0) (by omega)
    have a1 := h2.cellAt (k * 6 + 1) (by omega)
    have a2 := h2.cellAt (k * 6 + 2) (by omega)
    have a3 := h2.cellAt (k * 6 + 3) (by omega)
    have a4 := h2.cellAt (k * 6 + 4) (by omega)
    have a5 := h2.cellAt (k * 6 + 5) (by omega)
    rw [tkR_at zs k hk _ (by omega)] at a0 a1 a2 a3 a4 a5
    exact ⟨a0, a1, a2, a3, a4, a5⟩
end Go.Proofs.Ytcglpigmellfcab
