import Derived.Test.YtkicaihfknfgkaaDoorOwnB
import Derived.Deep.QuietTactic
import Derived.BigRegion
import Derived.Deep.RegionHeld3
import Derived.Laws.MakeOwn
namespace Go.Proofs.YtkicaihfknfgkaaDoor
open Go.ChangeShapes Go.WideShapes Go.ChangeAt Go.RowKit

structure TNT where
  cpu : Int
  mem : Int
  bill : Int
def tntA (m : TNT) : Value := .agg #[.int .i64 m.cpu, .int .i64 m.mem, .int .i64 m.bill]
def tntC (m : TNT) : List Value := [.int .i64 m.cpu, .int .i64 m.mem, .int .i64 m.bill]
def tntR (zs : List TNT) : List Value := zs.flatMap tntC
theorem tntR_app (xs ys : List TNT) : tntR (xs ++ ys) = tntR xs ++ tntR ys := by simp [tntR]
theorem tntR_len (zs : List TNT) : (tntR zs).length = zs.length * 3 := by
  induction zs with
  | nil => rfl
  | cons z zs ih =>
    have e : tntR (z :: zs) = tntC z ++ tntR zs := rfl
    rw [e, List.length_append, ih]
    simp [tntC]
    omega
theorem tntR_at (zs : List TNT) (k : Nat) (hk : k < zs.length) (j : Nat) (hj : j < 3) : (tntR zs)[k * 3 + j]? = (tntC zs[k])[j]? := by
  induction zs generalizing k with
  | nil => simp at hk
  | cons z zs ih =>
    have e : tntR (z :: zs) = tntC z ++ tntR zs := rfl
    have hl : (tntC z).length = 3 := rfl
    rw [e]
    cases k with
    | zero =>
      rw [List.getElem?_append_left (by omega)]
      simp
    | succ k =>
      rw [List.getElem?_append_right (by omega), hl, show (k + 1) * 3 + j - 3 = k * 3 + j by omega, ih k (by simpa using hk)]
      simp
/-- Where a row lies. -/
def TNTat (w : World) (g o : Nat) (zs : List TNT) : Prop := ∀ (k : Nat) (hk : k < zs.length), w.cell? ⟨g, o + k * 3, none⟩ = some (.int .i64 zs[k].cpu) ∧ w.cell? ⟨g, o + k * 3 + 1, none⟩ = some (.int .i64 zs[k].mem) ∧ w.cell? ⟨g, o + k * 3 + 2, none⟩ = some (.int .i64 zs[k].bill)
/-- A row that may be read. -/
def TNTrow (w : World) (v : Value) (zs : List TNT) : Prop := (zs = [] ∧ ∃ ao cap, v = .slice ao 0 cap) ∨ ∃ g o cap, v = .slice (some ⟨g, o, none⟩) zs.length cap ∧ zs.length ≤ cap ∧ g < w.heap.size ∧ TNTat w g o zs
theorem TNTat.below {w w' : World} {g o : Nat} {zs : List TNT} (h : TNTat w g o zs) {B : Nat} (hb : Below B w w') (hg : g < B) : TNTat w' g o zs := by
  intro k hk
  have h2 := h k hk
  have e : ∀ x, w'.cell? ⟨g, x, none⟩ = w.cell? ⟨g, x, none⟩ := fun x => World.cell?_of_block (hb.block g hg)
  simp only [e]
  exact h2
theorem TNTrow.below {w w' : World} {v : Value} {zs : List TNT} (h : TNTrow w v zs) (hb : Below w.heap.size w w') : TNTrow w' v zs := by
  rcases h with h | ⟨g, o, cap, hv, hc, hg, ha⟩
  · exact .inl h
  · exact .inr ⟨g, o, cap, hv, hc, Nat.lt_of_lt_of_le hg hb.size, ha.below hb hg⟩
theorem TNTrow.sl {w : World} {v : Value} {zs : List TNT} (h : TNTrow w v zs) : ∃ ao cap, v = .slice ao zs.length cap := by
  rcases h with ⟨rfl, ao, cap, rfl⟩ | ⟨g, o, cap, rfl, _⟩
  · exact ⟨_, _, rfl⟩
  · exact ⟨_, _, rfl⟩
end Go.Proofs.YtkicaihfknfgkaaDoor
