import Derived.Test.YtkicaihfknfgkaaDoorRowNOD2
namespace Go.Proofs.YtkicaihfknfgkaaDoor
open Go.ChangeShapes Go.WideShapes Go.ChangeAt Go.RowKit

def nod0 : NOD := ⟨⟨#[]⟩, 0, 0, 0, 0, false, false⟩
/-- So many are copied. -/
def nodJ (j : Nat) (zs : List NOD) : List NOD := zs.take j ++ List.replicate (zs.length - j) nod0
theorem nodJ_len (j : Nat) (zs : List NOD) (h : j ≤ zs.length) : (nodJ j zs).length = zs.length := by simp [nodJ]; omega
theorem nodJ_step (j : Nat) (zs : List NOD) (h : j < zs.length) : (nodJ j zs).set j zs[j] = nodJ (j + 1) zs := by
  unfold nodJ
  have hl : (zs.take j).length = j := by rw [List.length_take]; omega
  rw [List.set_append_right _ _ (by omega), hl, Nat.sub_self, show zs.length - j = (zs.length - (j + 1)) + 1 by omega, List.replicate_succ, List.set_cons_zero, List.take_succ_eq_append_getElem h, List.append_assoc]
  rfl
theorem nodJ_all (zs : List NOD) : nodJ zs.length zs = zs := by simp [nodJ]
theorem nodJ_zero (zs : List NOD) : nodJ 0 zs = List.replicate zs.length nod0 := by simp [nodJ]
theorem nod_made (m : Nat) : (madeCells #[.string ⟨#[]⟩, .int .i64 0, .int .i64 0, .int .i64 0, .int .i64 0, .bool false, .bool false] (m * 7)).toList = nodR (List.replicate m nod0) := by
  apply List.ext_getElem?
  intro i
  by_cases hi : i < m * 7
  · have hq : i = i / 7 * 7 + i % 7 := by omega
    have h2 := nodR_at (List.replicate m nod0) (i / 7) (by rw [List.length_replicate]; omega) (i % 7) (by omega)
    rw [← hq] at h2
    rw [h2, List.getElem_replicate]
    have hl : (madeCells #[.string ⟨#[]⟩, .int .i64 0, .int .i64 0, .int .i64 0, .int .i64 0, .bool false, .bool false] (m * 7)).toList.length = m * 7 := by simp [madeCells]
    rw [List.getElem?_eq_getElem (by omega)]
    have : i % 7 < 7 := Nat.mod_lt _ (by omega)
    generalize hr : i % 7 = r at *
    simp only [madeCells, Array.getElem_toList, Array.getElem_map, Array.getElem_range, List.size_toArray, List.length_cons, List.length_nil]
    rw [show i % (0 + 1 + 1 + 1 + 1 + 1 + 1 + 1) = r by simpa using hr]
    match r, this with
    | 0, _ => rfl
    | 1, _ => rfl
    | 2, _ => rfl
    | 3, _ => rfl
    | 4, _ => rfl
    | 5, _ => rfl
    | 6, _ => rfl
  · rw [List.getElem?_eq_none (by simp [madeCells]; omega), List.getElem?_eq_none (by rw [nodR_len]; simp; omega)]
end Go.Proofs.YtkicaihfknfgkaaDoor
