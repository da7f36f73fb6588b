import Derived.Test.YtegcbghhcidcaaaDoorRowTM2
namespace Go.Proofs.YtegcbghhcidcaaaDoor
open Go.ChangeShapes Go.WideShapes Go.ChangeAt Go.RowKit

def ti0 : TM := ⟨0, 0, 0⟩
/-- So many are copied. -/
def tiJ (j : Nat) (zs : List TM) : List TM := zs.take j ++ List.replicate (zs.length - j) ti0
theorem tiJ_len (j : Nat) (zs : List TM) (h : j ≤ zs.length) : (tiJ j zs).length = zs.length := by simp [tiJ]; omega
theorem tiJ_step (j : Nat) (zs : List TM) (h : j < zs.length) : (tiJ j zs).set j zs[j] = tiJ (j + 1) zs := by
  unfold tiJ
  have hl : (zs.take j).length = j := by rw [List.length_take]; omega
  rw [List.set_append_right _ _ (by omega), hl, Nat.sub_self, show zs.length - j = (zs.length - (j + 1)) + 1 by omega, List.replicate_succ, List.set_cons_zero, List.take_succ_eq_append_getElem h, List.append_assoc]
  rfl
theorem tiJ_all (zs : List TM) : tiJ zs.length zs = zs := by simp [tiJ]
theorem tiJ_zero (zs : List TM) : tiJ 0 zs = List.replicate zs.length ti0 := by simp [tiJ]
theorem ti_made (m : Nat) : (madeCells #[.int .i64 0, .int .i64 0, .int .i64 0] (m * 3)).toList = tiR (List.replicate m ti0) := by
  apply List.ext_getElem?
  intro i
  by_cases hi : i < m * 3
  · have hq : i = i / 3 * 3 + i % 3 := by omega
    have h2 := tiR_at (List.replicate m ti0) (i / 3) (by rw [List.length_replicate]; omega) (i % 3) (by omega)
    rw [← hq] at h2
    rw [h2, List.getElem_replicate]
    have hl : (madeCells #[.int .i64 0, .int .i64 0, .int .i64 0] (m * 3)).toList.length = m * 3 := by simp [madeCells]
    rw [List.getElem?_eq_getElem (by omega)]
    have : i % 3 < 3 := Nat.mod_lt _ (by omega)
    generalize hr : i % 3 = r at *
    simp only [madeCells, Array.getElem_toList, Array.getElem_map, Array.getElem_range, List.size_toArray, List.length_cons, List.length_nil]
    rw [show i % (0 + 1 + 1 + 1) = r by simpa using hr]
    match r, this with
    | 0, _ => rfl
    | 1, _ => rfl
    | 2, _ => rfl
  · rw [List.getElem?_eq_none (by simp [madeCells]; omega), List.getElem?_eq_none (by rw [tiR_len]; simp; omega)]
theorem ti_zero : (Tryd.prog.info? 34).map (fun i => (i.zero, i.size)) = some (some (.agg #[.int .i64 0, .int .i64 0, .int .i64 0]), 3) := by kernel_rfl
theorem ti_bytes : ∀ i, Tryd.prog.info? 34 = some i → i.bytes ≤ 24 := by
  intro i h
  have e : (Tryd.prog.info? 34).map (fun i => decide (i.bytes ≤ 24)) = some true := by kernel_rfl
  rw [h] at e
  simpa using e
theorem ti_mk (w : World) (m : Nat) (hm : m ≤ 1048576) : (Instr.makeSlice 23 (.int .i64 m) (.int .i64 m)).run Tryd.prog w = .ok (.slice (some ⟨w.heap.size, 0, none⟩) m m) (w.alloc (.cells (tiR (List.replicate m ti0)).toArray 34)) := by
  have h1 := ti_zero
  cases hq : Tryd.prog.info? 34 with
  | none => simp [hq] at h1
  | some i =>
    have hb := ti_bytes i hq
    simp [hq] at h1
    have h3 : i.bytes * m ≤ 24 * 1048576 := Nat.mul_le_mul hb hm
    have hbm : (i.bytes : Int) * (m : Int) ≤ 281474976710656 := by
      rw [← Int.natCast_mul]
      omega
    have hr := run_make (P := Tryd.prog) w 23 34 i _ Tryd.underlying23 hq h1.1 .i64 .i64 m m (by omega) (by omega) hbm (by omega)
    rw [hr, h1.2]
    simp only [Int.toNat_natCast, Value.cells]
    rw [← ti_made]
theorem ti_own0 (w : World) (m : Nat) (hm : m ≤ 1048576) : (w.alloc (.cells (tiR (List.replicate m ti0)).toArray 34)).ownsRow w.heap.size 34 3 (.slice (some ⟨w.heap.size, 0, none⟩) m m) m (tiR (List.replicate m ti0)) := by
  have hl := tiR_len (List.replicate m ti0)
  rw [List.length_replicate] at hl
  refine ⟨hl, .inr ⟨w.heap.size, m, _, rfl, Nat.le_refl _, (MapKept.heap_alloc w _).1, Nat.le_refl _, by unfold maxLen; omega, by simpa using hl, ?_⟩⟩
  rw [← hl]
  simp
end Go.Proofs.YtegcbghhcidcaaaDoor
