import Derived.Test.YtkicaihfknfgkaaDoorRowVMC2
namespace Go.Proofs.YtkicaihfknfgkaaDoor
open Go.ChangeShapes Go.WideShapes Go.ChangeAt Go.RowKit

def vmc0 : VMC := ⟨⟨#[]⟩, 0, 0, 0, 0, 0, ⟨#[]⟩, 0⟩
/-- So many are copied. -/
def vmcJ (j : Nat) (zs : List VMC) : List VMC := zs.take j ++ List.replicate (zs.length - j) vmc0
theorem vmcJ_len (j : Nat) (zs : List VMC) (h : j ≤ zs.length) : (vmcJ j zs).length = zs.length := by simp [vmcJ]; omega
theorem vmcJ_step (j : Nat) (zs : List VMC) (h : j < zs.length) : (vmcJ j zs).set j zs[j] = vmcJ (j + 1) zs := by
  unfold vmcJ
  have hl : (zs.take j).length = j := by rw [List.length_take]; omega
  rw [List.set_append_right _ _ (by omega), hl, Nat.sub_self, show zs.length - j = (zs.length - (j + 1)) + 1 by omega, List.replicate_succ, List.set_cons_zero, List.take_succ_eq_append_getElem h, List.append_assoc]
  rfl
theorem vmcJ_all (zs : List VMC) : vmcJ zs.length zs = zs := by simp [vmcJ]
theorem vmcJ_zero (zs : List VMC) : vmcJ 0 zs = List.replicate zs.length vmc0 := by simp [vmcJ]
theorem vmc_made (m : Nat) : (madeCells #[.string ⟨#[]⟩, .int .i64 0, .int .i64 0, .int .i64 0, .int .i64 0, .int .i64 0, .string ⟨#[]⟩, .int .i64 0] (m * 8)).toList = vmcR (List.replicate m vmc0) := by
  apply List.ext_getElem?
  intro i
  by_cases hi : i < m * 8
  · have hq : i = i / 8 * 8 + i % 8 := by omega
    have h2 := vmcR_at (List.replicate m vmc0) (i / 8) (by rw [List.length_replicate]; omega) (i % 8) (by omega)
    rw [← hq] at h2
    rw [h2, List.getElem_replicate]
    have hl : (madeCells #[.string ⟨#[]⟩, .int .i64 0, .int .i64 0, .int .i64 0, .int .i64 0, .int .i64 0, .string ⟨#[]⟩, .int .i64 0] (m * 8)).toList.length = m * 8 := by simp [madeCells]
    rw [List.getElem?_eq_getElem (by omega)]
    have : i % 8 < 8 := Nat.mod_lt _ (by omega)
    generalize hr : i % 8 = r at *
    simp only [madeCells, Array.getElem_toList, Array.getElem_map, Array.getElem_range, List.size_toArray, List.length_cons, List.length_nil]
    rw [show i % (0 + 1 + 1 + 1 + 1 + 1 + 1 + 1 + 1) = r by simpa using hr]
    match r, this with
    | 0, _ => rfl
    | 1, _ => rfl
    | 2, _ => rfl
    | 3, _ => rfl
    | 4, _ => rfl
    | 5, _ => rfl
    | 6, _ => rfl
    | 7, _ => rfl
  · rw [List.getElem?_eq_none (by simp [madeCells]; omega), List.getElem?_eq_none (by rw [vmcR_len]; simp; omega)]
theorem vmc_zero : (Tryd.prog.info? 23).map (fun i => (i.zero, i.size)) = some (some (.agg #[.string ⟨#[]⟩, .int .i64 0, .int .i64 0, .int .i64 0, .int .i64 0, .int .i64 0, .string ⟨#[]⟩, .int .i64 0]), 8) := by kernel_rfl
theorem vmc_bytes : ∀ i, Tryd.prog.info? 23 = some i → i.bytes ≤ 80 := by
  intro i h
  have e : (Tryd.prog.info? 23).map (fun i => decide (i.bytes ≤ 80)) = some true := by kernel_rfl
  rw [h] at e
  simpa using e
theorem vmc_own0 (w : World) (m : Nat) (hm : m ≤ 1048576) : (w.alloc (.cells (vmcR (List.replicate m vmc0)).toArray 23)).ownsRow w.heap.size 23 8 (.slice (some ⟨w.heap.size, 0, none⟩) m m) m (vmcR (List.replicate m vmc0)) := by
  have hl := vmcR_len (List.replicate m vmc0)
  rw [List.length_replicate] at hl
  refine ⟨hl, .inr ⟨w.heap.size, m, _, rfl, Nat.le_refl _, (MapKept.heap_alloc w _).1, Nat.le_refl _, by unfold maxLen; omega, by simpa using hl, ?_⟩⟩
  rw [← hl]
  simp
end Go.Proofs.YtkicaihfknfgkaaDoor
