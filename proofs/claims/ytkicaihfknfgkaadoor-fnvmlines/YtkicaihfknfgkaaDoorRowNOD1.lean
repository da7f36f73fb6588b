import Derived.Test.YtkicaihfknfgkaaDoorOwnB
import Derived.Deep.QuietTactic
import Derived.BigRegion
import Derived.Deep.RegionHeld3
import Derived.Laws.MakeOwn
namespace Go.Proofs.YtkicaihfknfgkaaDoor
open Go.ChangeShapes Go.WideShapes Go.ChangeAt Go.RowKit

structure NOD where
  name : ByteArray
  cpu : Int
  mem : Int
  zone : Int
  beat : Int
  fenced : Bool
  closed : Bool
def nodA (m : NOD) : Value := .agg #[.string m.name, .int .i64 m.cpu, .int .i64 m.mem, .int .i64 m.zone, .int .i64 m.beat, .bool m.fenced, .bool m.closed]
def nodC (m : NOD) : List Value := [.string m.name, .int .i64 m.cpu, .int .i64 m.mem, .int .i64 m.zone, .int .i64 m.beat, .bool m.fenced, .bool m.closed]
def nodR (zs : List NOD) : List Value := zs.flatMap nodC
theorem nodR_app (xs ys : List NOD) : nodR (xs ++ ys) = nodR xs ++ nodR ys := by simp [nodR]
theorem nodR_len (zs : List NOD) : (nodR zs).length = zs.length * 7 := by
  induction zs with
  | nil => rfl
  | cons z zs ih =>
    have e : nodR (z :: zs) = nodC z ++ nodR zs := rfl
    rw [e, List.length_append, ih]
    simp [nodC]
    omega
theorem nodR_at (zs : List NOD) (k : Nat) (hk : k < zs.length) (j : Nat) (hj : j < 7) : (nodR zs)[k * 7 + j]? = (nodC zs[k])[j]? := by
  induction zs generalizing k with
  | nil => simp at hk
  | cons z zs ih =>
    have e : nodR (z :: zs) = nodC z ++ nodR zs := rfl
    have hl : (nodC z).length = 7 := rfl
    rw [e]
    cases k with
    | zero =>
      rw [List.getElem?_append_left (by omega)]
      simp
    | succ k =>
      rw [List.getElem?_append_right (by omega), hl, show (k + 1) * 7 + j - 7 = k * 7 + j by omega, ih k (by simpa using hk)]
      simp
/-- Where a row lies. -/
def NODat (w : World) (g o : Nat) (zs : List NOD) : Prop := ∀ (k : Nat) (hk : k < zs.length), w.cell? ⟨g, o + k * 7, none⟩ = some (.string zs[k].name) ∧ w.cell? ⟨g, o + k * 7 + 1, none⟩ = some (.int .i64 zs[k].cpu) ∧ w.cell? ⟨g, o + k * 7 + 2, none⟩ = some (.int .i64 zs[k].mem) ∧ w.cell? ⟨g, o + k * 7 + 3, none⟩ = some (.int .i64 zs[k].zone) ∧ w.cell? ⟨g, o + k * 7 + 4, none⟩ = some (.int .i64 zs[k].beat) ∧ w.cell? ⟨g, o + k * 7 + 5, none⟩ = some (.bool zs[k].fenced) ∧ w.cell? ⟨g, o + k * 7 + 6, none⟩ = some (.bool zs[k].closed)
/-- A row that may be read. -/
def NODrow (w : World) (v : Value) (zs : List NOD) : Prop := (zs = [] ∧ ∃ ao cap, v = .slice ao 0 cap) ∨ ∃ g o cap, v = .slice (some ⟨g, o, none⟩) zs.length cap ∧ zs.length ≤ cap ∧ g < w.heap.size ∧ NODat w g o zs
theorem NODat.below {w w' : World} {g o : Nat} {zs : List NOD} (h : NODat w g o zs) {B : Nat} (hb : Below B w w') (hg : g < B) : NODat w' g o zs := by
  intro k hk
  have h2 := h k hk
  have e : ∀ x, w'.cell? ⟨g, x, none⟩ = w.cell? ⟨g, x, none⟩ := fun x => World.cell?_of_block (hb.block g hg)
  simp only [e]
  exact h2
theorem NODrow.below {w w' : World} {v : Value} {zs : List NOD} (h : NODrow w v zs) (hb : Below w.heap.size w w') : NODrow w' v zs := by
  rcases h with h | ⟨g, o, cap, hv, hc, hg, ha⟩
  · exact .inl h
  · exact .inr ⟨g, o, cap, hv, hc, Nat.lt_of_lt_of_le hg hb.size, ha.below hb hg⟩
theorem NODrow.sl {w : World} {v : Value} {zs : List NOD} (h : NODrow w v zs) : ∃ ao cap, v = .slice ao zs.length cap := by
  rcases h with ⟨rfl, ao, cap, rfl⟩ | ⟨g, o, cap, rfl, _⟩
  · exact ⟨_, _, rfl⟩
  · exact ⟨_, _, rfl⟩
end Go.Proofs.YtkicaihfknfgkaaDoor
