import Derived.Test.YtblmodlpopnckaaOwnB
import Derived.Deep.QuietTactic
import Derived.BigRegion
import Derived.Deep.RegionHeld3
import Derived.Laws.MakeOwn
import Derived.Test.YtblmodlpopnckaaCt1
import Derived.Test.YtblmodlpopnckaaLG
import Derived.Test.YtblmodlpopnckaaHl
import Derived.Laws.OwnMore
namespace Go.Proofs.Ytblmodlpopnckaa
open Go.ChangeShapes Go.WideShapes Go.ChangeAt Go.RowKit

structure KS where
  salt : Int
  key : ByteArray
  tag : ByteArray
def ksA (m : KS) : Value := .agg #[.int .i64 m.salt, .string m.key, .string m.tag]
def ksC (m : KS) : List Value := [.int .i64 m.salt, .string m.key, .string m.tag]
def ksR (zs : List KS) : List Value := zs.flatMap ksC
theorem ksR_app (xs ys : List KS) : ksR (xs ++ ys) = ksR xs ++ ksR ys := by simp [ksR]
theorem ksR_len (zs : List KS) : (ksR zs).length = zs.length * 3 := by
  induction zs with
  | nil => rfl
  | cons z zs ih =>
    have e : ksR (z :: zs) = ksC z ++ ksR zs := rfl
    rw [e, List.length_append, ih]
    simp [ksC]
    omega
theorem ksR_at (zs : List KS) (k : Nat) (hk : k < zs.length) (j : Nat) (hj : j < 3) : (ksR zs)[k * 3 + j]? = (ksC zs[k])[j]? := by
  induction zs generalizing k with
  | nil => simp at hk
  | cons z zs ih =>
    have e : ksR (z :: zs) = ksC z ++ ksR zs := rfl
    have hl : (ksC z).length = 3 := rfl
    rw [e]
    cases k with
    | zero =>
      rw [List.getElem?_append_left (by omega)]
      simp
    | succ k =>
      rw [List.getElem?_append_right (by omega), hl, show (k + 1) * 3 + j - 3 = k * 3 + j by omega, ih k (by simpa using hk)]
      simp
/-- Where a row lies. -/
def KSat (w : World) (g o : Nat) (zs : List KS) : Prop := ∀ (k : Nat) (hk : k < zs.length), w.cell? ⟨g, o + k * 3, none⟩ = some (.int .i64 zs[k].salt) ∧ w.cell? ⟨g, o + k * 3 + 1, none⟩ = some (.string zs[k].key) ∧ w.cell? ⟨g, o + k * 3 + 2, none⟩ = some (.string zs[k].tag)
/-- A row that may be read. -/
def KSrow (w : World) (v : Value) (zs : List KS) : Prop := (zs = [] ∧ ∃ ao cap, v = .slice ao 0 cap) ∨ ∃ g o cap, v = .slice (some ⟨g, o, none⟩) zs.length cap ∧ zs.length ≤ cap ∧ g < w.heap.size ∧ KSat w g o zs
theorem KSat.below {w w' : World} {g o : Nat} {zs : List KS} (h : KSat w g o zs) {B : Nat} (hb : Below B w w') (hg : g < B) : KSat w' g o zs := by
  intro k hk
  have h2 := h k hk
  have e : ∀ x, w'.cell? ⟨g, x, none⟩ = w.cell? ⟨g, x, none⟩ := fun x => World.cell?_of_block (hb.block g hg)
  simp only [e]
  exact h2
theorem KSrow.below {w w' : World} {v : Value} {zs : List KS} (h : KSrow w v zs) (hb : Below w.heap.size w w') : KSrow w' v zs := by
  rcases h with h | ⟨g, o, cap, hv, hc, hg, ha⟩
  · exact .inl h
  · exact .inr ⟨g, o, cap, hv, hc, Nat.lt_of_lt_of_le hg hb.size, ha.below hb hg⟩
theorem KSrow.sl {w : World} {v : Value} {zs : List KS} (h : KSrow w v zs) : ∃ ao cap, v = .slice ao zs.length cap := by
  rcases h with ⟨rfl, ao, cap, rfl⟩ | ⟨g, o, cap, rfl, _⟩
  · exact ⟨_, _, rfl⟩
  · exact ⟨_, _, rfl⟩

theorem ksR_set (zs : List KS) (k : Nat) (m : KS) (hk : k < zs.length) : ((((ksR zs).set (k * 3) (.int .i64 m.salt)).set (k * 3 + 1) (.string m.key)).set (k * 3 + 2) (.string m.tag)) = ksR (zs.set k m) := by
  induction zs generalizing k with
  | nil => simp at hk
  | cons z zs ih =>
    have e : ksR (z :: zs) = ksC z ++ ksR zs := rfl
    have hl : (ksC z).length = 3 := rfl
    cases k with
    | zero =>
      rw [e, List.set_cons_zero]
      show _ = ksC m ++ ksR zs
      rfl
    | succ k =>
      rw [e, List.set_cons_succ]
      show _ = ksC z ++ ksR (zs.set k m)
      rw [List.set_append_right _ _ (by omega), List.set_append_right _ _ (by omega), List.set_append_right _ _ (by omega), hl,
        show (k + 1) * 3 - 3 = k * 3 by omega, show (k + 1) * 3 + 1 - 3 = k * 3 + 1 by omega, show (k + 1) * 3 + 2 - 3 = k * 3 + 2 by omega, ih k (by simpa using hk)]
theorem gbKS {w0 w u : World} {r : Option Nat} (h : w0.grownBy w r) (hg : w.grownBy u r) : w0.grownBy u r :=
  ⟨hg.os.trans h.os, hg.tape.trans h.tape, hg.output.trans h.output, Nat.le_trans h.size hg.size, fun k hk hn => (hg.block k (Nat.lt_of_lt_of_le hk h.size) hn).trans (h.block k hk hn)⟩

def ks0 : KS := ⟨0, ⟨#[]⟩, ⟨#[]⟩⟩
/-- So many are copied. -/
def ksJ (j : Nat) (zs : List KS) : List KS := zs.take j ++ List.replicate (zs.length - j) ks0
theorem ksJ_len (j : Nat) (zs : List KS) (h : j ≤ zs.length) : (ksJ j zs).length = zs.length := by simp [ksJ]; omega
theorem ksJ_step (j : Nat) (zs : List KS) (h : j < zs.length) : (ksJ j zs).set j zs[j] = ksJ (j + 1) zs := by
  unfold ksJ
  have hl : (zs.take j).length = j := by rw [List.length_take]; omega
  rw [List.set_append_right _ _ (by omega), hl, Nat.sub_self, show zs.length - j = (zs.length - (j + 1)) + 1 by omega, List.replicate_succ, List.set_cons_zero, List.take_succ_eq_append_getElem h, List.append_assoc]
  rfl
theorem ksJ_all (zs : List KS) : ksJ zs.length zs = zs := by simp [ksJ]
theorem ksJ_zero (zs : List KS) : ksJ 0 zs = List.replicate zs.length ks0 := by simp [ksJ]
theorem ks_made (m : Nat) : (madeCells #[.int .i64 0, .string ⟨#[]⟩, .string ⟨#[]⟩] (m * 3)).toList = ksR (List.replicate m ks0) := by
  apply List.ext_getElem?
  intro i
  by_cases hi : i < m * 3
  · have hq : i = i / 3 * 3 + i % 3 := by omega
    have h2 := ksR_at (List.replicate m ks0) (i / 3) (by rw [List.length_replicate]; omega) (i % 3) (by omega)
    rw [← hq] at h2
    rw [h2, List.getElem_replicate]
    have hl : (madeCells #[.int .i64 0, .string ⟨#[]⟩, .string ⟨#[]⟩] (m * 3)).toList.length = m * 3 := by simp [madeCells]
    rw [List.getElem?_eq_getElem (by omega)]
    have : i % 3 < 3 := Nat.mod_lt _ (by omega)
    generalize hr : i % 3 = r at *
    simp only [madeCells, Array.getElem_toList, Array.getElem_map, Array.getElem_range, List.size_toArray, List.length_cons, List.length_nil]
    rw [show i % (0 + 1 + 1 + 1) = r by simpa using hr]
    match r, this with
    | 0, _ => rfl
    | 1, _ => rfl
    | 2, _ => rfl
  · rw [List.getElem?_eq_none (by simp [madeCells]; omega), List.getElem?_eq_none (by rw [ksR_len]; simp; omega)]

/-- The marks of slot i, from k on. -/
def mkZ (k i : Nat) : KS := ⟨((k + 3 * i : Nat) : Int), mtx ((k + 3 * i + 1 : Nat) : Int), mtx ((k + 3 * i + 2 : Nat) : Int)⟩
def mkK (k n : Nat) : List KS := (List.range n).map (mkZ k)
theorem mkK_len (k n : Nat) : (mkK k n).length = n := by simp [mkK]
/-- The first i are marked. -/
def mkJ (k i : Nat) (zs : List KS) : List KS := mkK k i ++ zs.drop i
theorem mkJ_len (k i : Nat) (zs : List KS) (h : i ≤ zs.length) : (mkJ k i zs).length = zs.length := by
  simp [mkJ, mkK_len]
  omega
theorem mkJ_step (k i : Nat) (zs : List KS) (h : i < zs.length) : (mkJ k i zs).set i (mkZ k i) = mkJ k (i + 1) zs := by
  unfold mkJ
  rw [List.set_append_right _ _ (by rw [mkK_len]; omega), mkK_len, Nat.sub_self, List.drop_eq_getElem_cons h, List.set_cons_zero]
  have : mkK k (i + 1) = mkK k i ++ [mkZ k i] := by simp [mkK, List.range_succ]
  rw [this, List.append_assoc]
  rfl
theorem mkJ_all (k : Nat) (zs : List KS) : mkJ k zs.length zs = mkK k zs.length := by simp [mkJ]
theorem gset15 {u w : World} {b : Nat} (h : u.grownBy w (some b)) (i : Nat) (v : Value) : u.grownBy (w.setCell ⟨b, i, none⟩ v) (some b) := ⟨h.os, h.tape, h.output, by simpa [World.setCell] using h.size, fun k hk hn => (Below.heap_setCell _ _ _ _ (fun e => hn (congrArg some e))).trans (h.block k hk hn)⟩
theorem gbel15 {u w w' : World} {b : Nat} (h : u.grownBy w (some b)) (hb : Below w.heap.size w w') : u.grownBy w' (some b) := ⟨hb.os.trans h.os, hb.tape.trans h.tape, hb.output.trans h.output, Nat.le_trans h.size hb.size, fun k hk hn => (hb.block k (Nat.lt_of_lt_of_le hk h.size)).trans (h.block k hk hn)⟩
end Go.Proofs.Ytblmodlpopnckaa
