import Derived.Test.YtpggbbdfbnocfaaOwnB
import Derived.Deep.QuietTactic
import Derived.BigRegion
import Derived.Deep.RegionHeld3
import Derived.Laws.MakeOwn
namespace Go.Proofs.Ytpggbbdfbnocfaa
open Go.ChangeShapes Go.WideShapes Go.ChangeAt Go.RowKit

structure NH where
  addr : Int
  groups : Value
def nhA (m : NH) : Value := .agg #[.int .i64 m.addr, m.groups]
def nhC (m : NH) : List Value := [.int .i64 m.addr, m.groups]
def nhR (zs : List NH) : List Value := zs.flatMap nhC
theorem nhR_app (xs ys : List NH) : nhR (xs ++ ys) = nhR xs ++ nhR ys := by simp [nhR]
theorem nhR_len (zs : List NH) : (nhR zs).length = zs.length * 2 := by
  induction zs with
  | nil => rfl
  | cons z zs ih =>
    have e : nhR (z :: zs) = nhC z ++ nhR zs := rfl
    rw [e, List.length_append, ih]
    simp [nhC]
    omega
theorem nhR_at (zs : List NH) (k : Nat) (hk : k < zs.length) (j : Nat) (hj : j < 2) : (nhR zs)[k * 2 + j]? = (nhC zs[k])[j]? := by
  induction zs generalizing k with
  | nil => simp at hk
  | cons z zs ih =>
    have e : nhR (z :: zs) = nhC z ++ nhR zs := rfl
    have hl : (nhC z).length = 2 := rfl
    rw [e]
    cases k with
    | zero =>
      rw [List.getElem?_append_left (by omega)]
      simp
    | succ k =>
      rw [List.getElem?_append_right (by omega), hl, show (k + 1) * 2 + j - 2 = k * 2 + j by omega, ih k (by simpa using hk)]
      simp
theorem nh_sl {w : World} {B n : Nat} {v : Value} {xs : List Value} (h : w.ownsRow B 86 2 v n xs) : ∃ ao cap, v = .slice ao n cap := by
  rcases h.2 with ⟨rfl, e⟩ | ⟨g, cap, cur, rfl, _⟩
  · exact ⟨none, 0, by rw [e]⟩
  · exact ⟨_, cap, rfl⟩
theorem nh_below {w w' : World} {B n : Nat} {v : Value} {xs : List Value} (h : w.ownsRow B 86 2 v n xs) (hb : Below w.heap.size w w') : w'.ownsRow B 86 2 v n xs :=
  h.kept (row := none) ⟨hb.os, hb.tape, hb.output, hb.size, fun k hk _ => hb.block k hk⟩ (by cases v.ownBlock <;> simp)
theorem nh_weak {w : World} {B B' : Nat} {v : Value} {n : Nat} {xs : List Value} (h : w.ownsRow B 86 2 v n xs) (hb : B' ≤ B) : w.ownsRow B' 86 2 v n xs := by
  obtain ⟨hl, h | ⟨g, cap, cur, hv, hg, h1, h2, h3, h4, h5⟩⟩ := h
  · exact ⟨hl, .inl h⟩
  · exact ⟨hl, .inr ⟨g, cap, cur, hv, Nat.le_trans hb hg, h1, h2, h3, h4, h5⟩⟩
theorem nh_cast {w : World} {B n n' : Nat} {v : Value} {xs xs' : List Value} (h : w.ownsRow B 86 2 v n xs) (hn : n = n') (hx : xs = xs') : w.ownsRow B 86 2 v n' xs' := by
  subst hn
  subst hx
  exact h
/-- Where a row lies. -/
def NHat (w : World) (g o : Nat) (zs : List NH) : Prop := ∀ (k : Nat) (hk : k < zs.length), w.cell? ⟨g, o + k * 2, none⟩ = some (.int .i64 zs[k].addr) ∧ w.cell? ⟨g, o + k * 2 + 1, none⟩ = some (zs[k].groups)
/-- A row that may be read. -/
def NHrow (w : World) (v : Value) (zs : List NH) : Prop := (zs = [] ∧ ∃ ao cap, v = .slice ao 0 cap) ∨ ∃ g o cap, v = .slice (some ⟨g, o, none⟩) zs.length cap ∧ zs.length ≤ cap ∧ g < w.heap.size ∧ NHat w g o zs
theorem NHat.below {w w' : World} {g o : Nat} {zs : List NH} (h : NHat w g o zs) {B : Nat} (hb : Below B w w') (hg : g < B) : NHat w' g o zs := by
  intro k hk
  have h2 := h k hk
  have e : ∀ x, w'.cell? ⟨g, x, none⟩ = w.cell? ⟨g, x, none⟩ := fun x => World.cell?_of_block (hb.block g hg)
  simp only [e]
  exact h2
theorem NHrow.below {w w' : World} {v : Value} {zs : List NH} (h : NHrow w v zs) (hb : Below w.heap.size w w') : NHrow w' v zs := by
  rcases h with h | ⟨g, o, cap, hv, hc, hg, ha⟩
  · exact .inl h
  · exact .inr ⟨g, o, cap, hv, hc, Nat.lt_of_lt_of_le hg hb.size, ha.below hb hg⟩
theorem NHrow.sl {w : World} {v : Value} {zs : List NH} (h : NHrow w v zs) : ∃ ao cap, v = .slice ao zs.length cap := by
  rcases h with ⟨rfl, ao, cap, rfl⟩ | ⟨g, o, cap, rfl, _⟩
  · exact ⟨_, _, rfl⟩
  · exact ⟨_, _, rfl⟩
theorem NHrow.of {w : World} {B : Nat} {v : Value} {zs : List NH} (h : w.ownsRow B 86 2 v zs.length (nhR zs)) : NHrow w v zs := by
  rcases h.2 with ⟨rfl, e⟩ | ⟨g, cap, cur, rfl, hB, hg, hc, rest⟩
  · exact .inl ⟨List.length_eq_zero_iff.1 e, _, _, by rfl⟩
  · have h2 : w.ownsRow B 86 2 (.slice (some ⟨g, 0, none⟩) zs.length cap) zs.length (nhR zs) := h
    refine .inr ⟨g, 0, cap, rfl, hc, (Array.getElem?_eq_some_iff.1 hg).1, fun k hk => ?_⟩
    simp only [Nat.zero_add]
    have a0 := h2.cellAt (k * 2 + 0) (by omega)
    have a1 := h2.cellAt (k * 2 + 1) (by omega)
    rw [nhR_at zs k hk _ (by omega)] at a0 a1
    exact ⟨a0, a1⟩
end Go.Proofs.Ytpggbbdfbnocfaa
