import Derived.Test.YthncnffnjjclfaaOwnB
import Derived.Deep.QuietTactic
import Derived.BigRegion
import Derived.Deep.RegionHeld3
import Derived.Laws.MakeOwn
namespace Go.Proofs.Ythncnffnjjclfaa
open Go.ChangeShapes Go.WideShapes Go.ChangeAt Go.RowKit

structure RM where
  dev : Int
  idx : Int
  cpu : Int
  vec : Int
def rmA (m : RM) : Value := .agg #[.int .i64 m.dev, .int .i64 m.idx, .int .i64 m.cpu, .int .i64 m.vec]
def rmC (m : RM) : List Value := [.int .i64 m.dev, .int .i64 m.idx, .int .i64 m.cpu, .int .i64 m.vec]
def rmR (zs : List RM) : List Value := zs.flatMap rmC
theorem rmR_app (xs ys : List RM) : rmR (xs ++ ys) = rmR xs ++ rmR ys := by simp [rmR]
theorem rmR_len (zs : List RM) : (rmR zs).length = zs.length * 4 := by
  induction zs with
  | nil => rfl
  | cons z zs ih =>
    have e : rmR (z :: zs) = rmC z ++ rmR zs := rfl
    rw [e, List.length_append, ih]
    simp [rmC]
    omega
theorem rmR_at (zs : List RM) (k : Nat) (hk : k < zs.length) (j : Nat) (hj : j < 4) : (rmR zs)[k * 4 + j]? = (rmC zs[k])[j]? := by
  induction zs generalizing k with
  | nil => simp at hk
  | cons z zs ih =>
    have e : rmR (z :: zs) = rmC z ++ rmR zs := rfl
    have hl : (rmC z).length = 4 := rfl
    rw [e]
    cases k with
    | zero =>
      rw [List.getElem?_append_left (by omega)]
      simp
    | succ k =>
      rw [List.getElem?_append_right (by omega), hl, show (k + 1) * 4 + j - 4 = k * 4 + j by omega, ih k (by simpa using hk)]
      simp
/-- Where a row lies. -/
def RMat (w : World) (g o : Nat) (zs : List RM) : Prop := ∀ (k : Nat) (hk : k < zs.length), w.cell? ⟨g, o + k * 4, none⟩ = some (.int .i64 zs[k].dev) ∧ w.cell? ⟨g, o + k * 4 + 1, none⟩ = some (.int .i64 zs[k].idx) ∧ w.cell? ⟨g, o + k * 4 + 2, none⟩ = some (.int .i64 zs[k].cpu) ∧ w.cell? ⟨g, o + k * 4 + 3, none⟩ = some (.int .i64 zs[k].vec)
/-- A row that may be read. -/
def RMrow (w : World) (v : Value) (zs : List RM) : Prop := (zs = [] ∧ ∃ ao cap, v = .slice ao 0 cap) ∨ ∃ g o cap, v = .slice (some ⟨g, o, none⟩) zs.length cap ∧ zs.length ≤ cap ∧ g < w.heap.size ∧ RMat w g o zs
theorem RMat.below {w w' : World} {g o : Nat} {zs : List RM} (h : RMat w g o zs) {B : Nat} (hb : Below B w w') (hg : g < B) : RMat w' g o zs := by
  intro k hk
  have h2 := h k hk
  have e : ∀ x, w'.cell? ⟨g, x, none⟩ = w.cell? ⟨g, x, none⟩ := fun x => World.cell?_of_block (hb.block g hg)
  simp only [e]
  exact h2
theorem RMrow.below {w w' : World} {v : Value} {zs : List RM} (h : RMrow w v zs) (hb : Below w.heap.size w w') : RMrow w' v zs := by
  rcases h with h | ⟨g, o, cap, hv, hc, hg, ha⟩
  · exact .inl h
  · exact .inr ⟨g, o, cap, hv, hc, Nat.lt_of_lt_of_le hg hb.size, ha.below hb hg⟩
theorem RMrow.sl {w : World} {v : Value} {zs : List RM} (h : RMrow w v zs) : ∃ ao cap, v = .slice ao zs.length cap := by
  rcases h with ⟨rfl, ao, cap, rfl⟩ | ⟨g, o, cap, rfl, _⟩
  · exact ⟨_, _, rfl⟩
  · exact ⟨_, _, rfl⟩
end Go.Proofs.Ythncnffnjjclfaa
