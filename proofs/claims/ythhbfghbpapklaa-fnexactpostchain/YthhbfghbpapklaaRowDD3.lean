import Derived.Test.YthhbfghbpapklaaRowDD2
namespace Go.Proofs.Ythhbfghbpapklaa
open Go.ChangeShapes Go.WideShapes Go.ChangeAt Go.RowKit

def dd0 : DD := ⟨0, 0, false, false, false, false, false, 0⟩
/-- So many are copied. -/
def ddJ (j : Nat) (zs : List DD) : List DD := zs.take j ++ List.replicate (zs.length - j) dd0
theorem ddJ_len (j : Nat) (zs : List DD) (h : j ≤ zs.length) : (ddJ j zs).length = zs.length := by simp [ddJ]; omega
theorem ddJ_step (j : Nat) (zs : List DD) (h : j < zs.length) : (ddJ j zs).set j zs[j] = ddJ (j + 1) zs := by
  unfold ddJ
  have hl : (zs.take j).length = j := by rw [List.length_take]; omega
  rw [List.set_append_right _ _ (by omega), hl, Nat.sub_self, show zs.length - j = (zs.length - (j + 1)) + 1 by omega, List.replicate_succ, List.set_cons_zero, List.take_succ_eq_append_getElem h, List.append_assoc]
  rfl
theorem ddJ_all (zs : List DD) : ddJ zs.length zs = zs := by simp [ddJ]
theorem ddJ_zero (zs : List DD) : ddJ 0 zs = List.replicate zs.length dd0 := by simp [ddJ]
theorem dd_made (m : Nat) : (madeCells #[.int .i64 0, .int .i64 0, .bool false, .bool false, .bool false, .bool false, .bool false, .int .i64 0] (m * 8)).toList = ddR (List.replicate m dd0) := by
  apply List.ext_getElem?
  intro i
  by_cases hi : i < m * 8
  · have hq : i = i / 8 * 8 + i % 8 := by omega
    have h2 := ddR_at (List.replicate m dd0) (i / 8) (by rw [List.length_replicate]; omega) (i % 8) (by omega)
    rw [← hq] at h2
    rw [h2, List.getElem_replicate]
    have hl : (madeCells #[.int .i64 0, .int .i64 0, .bool false, .bool false, .bool false, .bool false, .bool false, .int .i64 0] (m * 8)).toList.length = m * 8 := by simp [madeCells]
    rw [List.getElem?_eq_getElem (by omega)]
    have : i % 8 < 8 := Nat.mod_lt _ (by omega)
    generalize hr : i % 8 = r at *
    simp only [madeCells, Array.getElem_toList, Array.getElem_map, Array.getElem_range, List.size_toArray, List.length_cons, List.length_nil]
    rw [show i % (0 + 1 + 1 + 1 + 1 + 1 + 1 + 1 + 1) = r by simpa using hr]
    match r, this with
    | 0, _ => rfl
    | 1, _ => rfl
    | 2, _ => rfl
    | 3, _ => rfl
    | 4, _ => rfl
    | 5, _ => rfl
    | 6, _ => rfl
    | 7, _ => rfl
  · rw [List.getElem?_eq_none (by simp [madeCells]; omega), List.getElem?_eq_none (by rw [ddR_len]; simp; omega)]
theorem dd_zero : (Try.prog.info? 99).map (fun i => (i.zero, i.size)) = some (some (.agg #[.int .i64 0, .int .i64 0, .bool false, .bool false, .bool false, .bool false, .bool false, .int .i64 0]), 8) := by kernel_rfl
theorem dd_bytes : ∀ i, Try.prog.info? 99 = some i → i.bytes ≤ 64 := by
  intro i h
  have e : (Try.prog.info? 99).map (fun i => decide (i.bytes ≤ 64)) = some true := by kernel_rfl
  rw [h] at e
  simpa using e
theorem dd_mk (w : World) (m : Nat) (hm : m ≤ 1048576) : (Instr.makeSlice 54 (.int .i64 m) (.int .i64 m)).run Try.prog w = .ok (.slice (some ⟨w.heap.size, 0, none⟩) m m) (w.alloc (.cells (ddR (List.replicate m dd0)).toArray 99)) := by
  have h1 := dd_zero
  cases hq : Try.prog.info? 99 with
  | none => simp [hq] at h1
  | some i =>
    have hb := dd_bytes i hq
    simp [hq] at h1
    have h3 : i.bytes * m ≤ 64 * 1048576 := Nat.mul_le_mul hb hm
    have hbm : (i.bytes : Int) * (m : Int) ≤ 281474976710656 := by
      rw [← Int.natCast_mul]
      omega
    have hr := run_make (P := Try.prog) w 54 99 i _ Try.underlying54 hq h1.1 .i64 .i64 m m (by omega) (by omega) hbm (by omega)
    rw [hr, h1.2]
    simp only [Int.toNat_natCast, Value.cells]
    rw [← dd_made]
theorem dd_own0 (w : World) (m : Nat) (hm : m ≤ 1048576) : (w.alloc (.cells (ddR (List.replicate m dd0)).toArray 99)).ownsRow w.heap.size 99 8 (.slice (some ⟨w.heap.size, 0, none⟩) m m) m (ddR (List.replicate m dd0)) := by
  have hl := ddR_len (List.replicate m dd0)
  rw [List.length_replicate] at hl
  refine ⟨hl, .inr ⟨w.heap.size, m, _, rfl, Nat.le_refl _, (MapKept.heap_alloc w _).1, Nat.le_refl _, by unfold maxLen; omega, by simpa using hl, ?_⟩⟩
  rw [← hl]
  simp
end Go.Proofs.Ythhbfghbpapklaa
