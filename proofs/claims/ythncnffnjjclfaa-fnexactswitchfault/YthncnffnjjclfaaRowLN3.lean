import Derived.Test.YthncnffnjjclfaaRowLN2
namespace Go.Proofs.Ythncnffnjjclfaa
open Go.ChangeShapes Go.WideShapes Go.ChangeAt Go.RowKit

def ln0 : LN := ⟨0, 0, false, false, false⟩
/-- So many are copied. -/
def lnJ (j : Nat) (zs : List LN) : List LN := zs.take j ++ List.replicate (zs.length - j) ln0
theorem lnJ_len (j : Nat) (zs : List LN) (h : j ≤ zs.length) : (lnJ j zs).length = zs.length := by simp [lnJ]; omega
theorem lnJ_step (j : Nat) (zs : List LN) (h : j < zs.length) : (lnJ j zs).set j zs[j] = lnJ (j + 1) zs := by
  unfold lnJ
  have hl : (zs.take j).length = j := by rw [List.length_take]; omega
  rw [List.set_append_right _ _ (by omega), hl, Nat.sub_self, show zs.length - j = (zs.length - (j + 1)) + 1 by omega, List.replicate_succ, List.set_cons_zero, List.take_succ_eq_append_getElem h, List.append_assoc]
  rfl
theorem lnJ_all (zs : List LN) : lnJ zs.length zs = zs := by simp [lnJ]
theorem lnJ_zero (zs : List LN) : lnJ 0 zs = List.replicate zs.length ln0 := by simp [lnJ]
theorem ln_made (m : Nat) : (madeCells #[.int .i64 0, .int .i64 0, .bool false, .bool false, .bool false] (m * 5)).toList = lnR (List.replicate m ln0) := by
  apply List.ext_getElem?
  intro i
  by_cases hi : i < m * 5
  · have hq : i = i / 5 * 5 + i % 5 := by omega
    have h2 := lnR_at (List.replicate m ln0) (i / 5) (by rw [List.length_replicate]; omega) (i % 5) (by omega)
    rw [← hq] at h2
    rw [h2, List.getElem_replicate]
    have hl : (madeCells #[.int .i64 0, .int .i64 0, .bool false, .bool false, .bool false] (m * 5)).toList.length = m * 5 := by simp [madeCells]
    rw [List.getElem?_eq_getElem (by omega)]
    have : i % 5 < 5 := Nat.mod_lt _ (by omega)
    generalize hr : i % 5 = r at *
    simp only [madeCells, Array.getElem_toList, Array.getElem_map, Array.getElem_range, List.size_toArray, List.length_cons, List.length_nil]
    rw [show i % (0 + 1 + 1 + 1 + 1 + 1) = r by simpa using hr]
    match r, this with
    | 0, _ => rfl
    | 1, _ => rfl
    | 2, _ => rfl
    | 3, _ => rfl
    | 4, _ => rfl
  · rw [List.getElem?_eq_none (by simp [madeCells]; omega), List.getElem?_eq_none (by rw [lnR_len]; simp; omega)]
end Go.Proofs.Ythncnffnjjclfaa
