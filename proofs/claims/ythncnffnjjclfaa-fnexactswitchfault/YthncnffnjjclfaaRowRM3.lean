import Derived.Test.YthncnffnjjclfaaRowRM2
namespace Go.Proofs.Ythncnffnjjclfaa
open Go.ChangeShapes Go.WideShapes Go.ChangeAt Go.RowKit

def rm0 : RM := ⟨0, 0, 0, 0⟩
/-- So many are copied. -/
def rmJ (j : Nat) (zs : List RM) : List RM := zs.take j ++ List.replicate (zs.length - j) rm0
theorem rmJ_len (j : Nat) (zs : List RM) (h : j ≤ zs.length) : (rmJ j zs).length = zs.length := by simp [rmJ]; omega
theorem rmJ_step (j : Nat) (zs : List RM) (h : j < zs.length) : (rmJ j zs).set j zs[j] = rmJ (j + 1) zs := by
  unfold rmJ
  have hl : (zs.take j).length = j := by rw [List.length_take]; omega
  rw [List.set_append_right _ _ (by omega), hl, Nat.sub_self, show zs.length - j = (zs.length - (j + 1)) + 1 by omega, List.replicate_succ, List.set_cons_zero, List.take_succ_eq_append_getElem h, List.append_assoc]
  rfl
theorem rmJ_all (zs : List RM) : rmJ zs.length zs = zs := by simp [rmJ]
theorem rmJ_zero (zs : List RM) : rmJ 0 zs = List.replicate zs.length rm0 := by simp [rmJ]
theorem rm_made (m : Nat) : (madeCells #[.int .i64 0, .int .i64 0, .int .i64 0, .int .i64 0] (m * 4)).toList = rmR (List.replicate m rm0) := by
  apply List.ext_getElem?
  intro i
  by_cases hi : i < m * 4
  · have hq : i = i / 4 * 4 + i % 4 := by omega
    have h2 := rmR_at (List.replicate m rm0) (i / 4) (by rw [List.length_replicate]; omega) (i % 4) (by omega)
    rw [← hq] at h2
    rw [h2, List.getElem_replicate]
    have hl : (madeCells #[.int .i64 0, .int .i64 0, .int .i64 0, .int .i64 0] (m * 4)).toList.length = m * 4 := by simp [madeCells]
    rw [List.getElem?_eq_getElem (by omega)]
    have : i % 4 < 4 := Nat.mod_lt _ (by omega)
    generalize hr : i % 4 = r at *
    simp only [madeCells, Array.getElem_toList, Array.getElem_map, Array.getElem_range, List.size_toArray, List.length_cons, List.length_nil]
    rw [show i % (0 + 1 + 1 + 1 + 1) = r by simpa using hr]
    match r, this with
    | 0, _ => rfl
    | 1, _ => rfl
    | 2, _ => rfl
    | 3, _ => rfl
  · rw [List.getElem?_eq_none (by simp [madeCells]; omega), List.getElem?_eq_none (by rw [rmR_len]; simp; omega)]
end Go.Proofs.Ythncnffnjjclfaa
