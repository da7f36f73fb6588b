import Derived.Test.YtkicaihfknfgkaaDoorRowTNT2
namespace Go.Proofs.YtkicaihfknfgkaaDoor
open Go.ChangeShapes Go.WideShapes Go.ChangeAt Go.RowKit

def tnt0 : TNT := ⟨0, 0, 0⟩
/-- So many are copied. -/
def tntJ (j : Nat) (zs : List TNT) : List TNT := zs.take j ++ List.replicate (zs.length - j) tnt0
theorem tntJ_len (j : Nat) (zs : List TNT) (h : j ≤ zs.length) : (tntJ j zs).length = zs.length := by simp [tntJ]; omega
theorem tntJ_step (j : Nat) (zs : List TNT) (h : j < zs.length) : (tntJ j zs).set j zs[j] = tntJ (j + 1) zs := by
  unfold tntJ
  have hl : (zs.take j).length = j := by rw [List.length_take]; omega
  rw [List.set_append_right _ _ (by omega), hl, Nat.sub_self, show zs.length - j = (zs.length - (j + 1)) + 1 by omega, List.replicate_succ, List.set_cons_zero, List.take_succ_eq_append_getElem h, List.append_assoc]
  rfl
theorem tntJ_all (zs : List TNT) : tntJ zs.length zs = zs := by simp [tntJ]
theorem tntJ_zero (zs : List TNT) : tntJ 0 zs = List.replicate zs.length tnt0 := by simp [tntJ]
theorem tnt_made (m : Nat) : (madeCells #[.int .i64 0, .int .i64 0, .int .i64 0] (m * 3)).toList = tntR (List.replicate m tnt0) := by
  apply List.ext_getElem?
  intro i
  by_cases hi : i < m * 3
  · have hq : i = i / 3 * 3 + i % 3 := by omega
    have h2 := tntR_at (List.replicate m tnt0) (i / 3) (by rw [List.length_replicate]; omega) (i % 3) (by omega)
    rw [← hq] at h2
    rw [h2, List.getElem_replicate]
    have hl : (madeCells #[.int .i64 0, .int .i64 0, .int .i64 0] (m * 3)).toList.length = m * 3 := by simp [madeCells]
    rw [List.getElem?_eq_getElem (by omega)]
    have : i % 3 < 3 := Nat.mod_lt _ (by omega)
    generalize hr : i % 3 = r at *
    simp only [madeCells, Array.getElem_toList, Array.getElem_map, Array.getElem_range, List.size_toArray, List.length_cons, List.length_nil]
    rw [show i % (0 + 1 + 1 + 1) = r by simpa using hr]
    match r, this with
    | 0, _ => rfl
    | 1, _ => rfl
    | 2, _ => rfl
  · rw [List.getElem?_eq_none (by simp [madeCells]; omega), List.getElem?_eq_none (by rw [tntR_len]; simp; omega)]
end Go.Proofs.YtkicaihfknfgkaaDoor
