import Derived.Test.YthncnffnjjclfaaOwnB
import Derived.Deep.QuietTactic
import Derived.BigRegion
import Derived.Deep.RegionHeld3
import Derived.Laws.MakeOwn
namespace Go.Proofs.Ythncnffnjjclfaa
open Go.ChangeShapes Go.WideShapes Go.ChangeAt Go.RowKit

structure LN where
  cpu : Int
  vec : Int
  lev : Bool
  msk : Bool
  hi : Bool
def lnA (m : LN) : Value := .agg #[.int .i64 m.cpu, .int .i64 m.vec, .bool m.lev, .bool m.msk, .bool m.hi]
def lnC (m : LN) : List Value := [.int .i64 m.cpu, .int .i64 m.vec, .bool m.lev, .bool m.msk, .bool m.hi]
def lnR (zs : List LN) : List Value := zs.flatMap lnC
theorem lnR_app (xs ys : List LN) : lnR (xs ++ ys) = lnR xs ++ lnR ys := by simp [lnR]
theorem lnR_len (zs : List LN) : (lnR zs).length = zs.length * 5 := by
  induction zs with
  | nil => rfl
  | cons z zs ih =>
    have e : lnR (z :: zs) = lnC z ++ lnR zs := rfl
    rw [e, List.length_append, ih]
    simp [lnC]
    omega
theorem lnR_at (zs : List LN) (k : Nat) (hk : k < zs.length) (j : Nat) (hj : j < 5) : (lnR zs)[k * 5 + j]? = (lnC zs[k])[j]? := by
  induction zs generalizing k with
  | nil => simp at hk
  | cons z zs ih =>
    have e : lnR (z :: zs) = lnC z ++ lnR zs := rfl
    have hl : (lnC z).length = 5 := rfl
    rw [e]
    cases k with
    | zero =>
      rw [List.getElem?_append_left (by omega)]
      simp
    | succ k =>
      rw [List.getElem?_append_right (by omega), hl, show (k + 1) * 5 + j - 5 = k * 5 + j by omega, ih k (by simpa using hk)]
      simp
/-- Where a row lies. -/
def LNat (w : World) (g o : Nat) (zs : List LN) : Prop := ∀ (k : Nat) (hk : k < zs.length), w.cell? ⟨g, o + k * 5, none⟩ = some (.int .i64 zs[k].cpu) ∧ w.cell? ⟨g, o + k * 5 + 1, none⟩ = some (.int .i64 zs[k].vec) ∧ w.cell? ⟨g, o + k * 5 + 2, none⟩ = some (.bool zs[k].lev) ∧ w.cell? ⟨g, o + k * 5 + 3, none⟩ = some (.bool zs[k].msk) ∧ w.cell? ⟨g, o + k * 5 + 4, none⟩ = some (.bool zs[k].hi)
/-- A row that may be read. -/
def LNrow (w : World) (v : Value) (zs : List LN) : Prop := (zs = [] ∧ ∃ ao cap, v = .slice ao 0 cap) ∨ ∃ g o cap, v = .slice (some ⟨g, o, none⟩) zs.length cap ∧ zs.length ≤ cap ∧ g < w.heap.size ∧ LNat w g o zs
theorem LNat.below {w w' : World} {g o : Nat} {zs : List LN} (h : LNat w g o zs) {B : Nat} (hb : Below B w w') (hg : g < B) : LNat w' g o zs := by
  intro k hk
  have h2 := h k hk
  have e : ∀ x, w'.cell? ⟨g, x, none⟩ = w.cell? ⟨g, x, none⟩ := fun x => World.cell?_of_block (hb.block g hg)
  simp only [e]
  exact h2
theorem LNrow.below {w w' : World} {v : Value} {zs : List LN} (h : LNrow w v zs) (hb : Below w.heap.size w w') : LNrow w' v zs := by
  rcases h with h | ⟨g, o, cap, hv, hc, hg, ha⟩
  · exact .inl h
  · exact .inr ⟨g, o, cap, hv, hc, Nat.lt_of_lt_of_le hg hb.size, ha.below hb hg⟩
theorem LNrow.sl {w : World} {v : Value} {zs : List LN} (h : LNrow w v zs) : ∃ ao cap, v = .slice ao zs.length cap := by
  rcases h with ⟨rfl, ao, cap, rfl⟩ | ⟨g, o, cap, rfl, _⟩
  · exact ⟨_, _, rfl⟩
  · exact ⟨_, _, rfl⟩
end Go.Proofs.Ythncnffnjjclfaa
