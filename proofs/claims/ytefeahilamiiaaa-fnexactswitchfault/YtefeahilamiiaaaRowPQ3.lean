import Derived.Test.YtefeahilamiiaaaRowPQ2
namespace Go.Proofs.Ytefeahilamiiaaa
open Go.ChangeShapes Go.WideShapes Go.ChangeAt Go.RowKit

def pq0 : PQ := ⟨0, .slice none 0 0, 0, false, 0, 0, 0⟩
/-- So many are copied. -/
def pqJ (j : Nat) (zs : List PQ) : List PQ := zs.take j ++ List.replicate (zs.length - j) pq0
theorem pqJ_len (j : Nat) (zs : List PQ) (h : j ≤ zs.length) : (pqJ j zs).length = zs.length := by simp [pqJ]; omega
theorem pqJ_step (j : Nat) (zs : List PQ) (h : j < zs.length) : (pqJ j zs).set j zs[j] = pqJ (j + 1) zs := by
  unfold pqJ
  have hl : (zs.take j).length = j := by rw [List.length_take]; omega
  rw [List.set_append_right _ _ (by omega), hl, Nat.sub_self, show zs.length - j = (zs.length - (j + 1)) + 1 by omega, List.replicate_succ, List.set_cons_zero, List.take_succ_eq_append_getElem h, List.append_assoc]
  rfl
theorem pqJ_all (zs : List PQ) : pqJ zs.length zs = zs := by simp [pqJ]
theorem pqJ_zero (zs : List PQ) : pqJ 0 zs = List.replicate zs.length pq0 := by simp [pqJ]
theorem pq_made (m : Nat) : (madeCells #[.int .i64 0, .slice none 0 0, .int .i64 0, .bool false, .int .i64 0, .int .i64 0, .int .i64 0] (m * 7)).toList = pqR (List.replicate m pq0) := by
  apply List.ext_getElem?
  intro i
  by_cases hi : i < m * 7
  · have hq : i = i / 7 * 7 + i % 7 := by omega
    have h2 := pqR_at (List.replicate m pq0) (i / 7) (by rw [List.length_replicate]; omega) (i % 7) (by omega)
    rw [← hq] at h2
    rw [h2, List.getElem_replicate]
    have hl : (madeCells #[.int .i64 0, .slice none 0 0, .int .i64 0, .bool false, .int .i64 0, .int .i64 0, .int .i64 0] (m * 7)).toList.length = m * 7 := by simp [madeCells]
    rw [List.getElem?_eq_getElem (by omega)]
    have : i % 7 < 7 := Nat.mod_lt _ (by omega)
    generalize hr : i % 7 = r at *
    simp only [madeCells, Array.getElem_toList, Array.getElem_map, Array.getElem_range, List.size_toArray, List.length_cons, List.length_nil]
    rw [show i % (0 + 1 + 1 + 1 + 1 + 1 + 1 + 1) = r by simpa using hr]
    match r, this with
    | 0, _ => rfl
    | 1, _ => rfl
    | 2, _ => rfl
    | 3, _ => rfl
    | 4, _ => rfl
    | 5, _ => rfl
    | 6, _ => rfl
  · rw [List.getElem?_eq_none (by simp [madeCells]; omega), List.getElem?_eq_none (by rw [pqR_len]; simp; omega)]
theorem pq_zero : (Try.prog.info? 73).map (fun i => (i.zero, i.size)) = some (some (.agg #[.int .i64 0, .slice none 0 0, .int .i64 0, .bool false, .int .i64 0, .int .i64 0, .int .i64 0]), 7) := by kernel_rfl
theorem pq_bytes : ∀ i, Try.prog.info? 73 = some i → i.bytes ≤ 72 := by
  intro i h
  have e : (Try.prog.info? 73).map (fun i => decide (i.bytes ≤ 72)) = some true := by kernel_rfl
  rw [h] at e
  simpa using e
theorem pq_mk (w : World) (m : Nat) (hm : m ≤ 1048576) : (Instr.makeSlice 43 (.int .i64 m) (.int .i64 m)).run Try.prog w = .ok (.slice (some ⟨w.heap.size, 0, none⟩) m m) (w.alloc (.cells (pqR (List.replicate m pq0)).toArray 73)) := by
  have h1 := pq_zero
  cases hq : Try.prog.info? 73 with
  | none => simp [hq] at h1
  | some i =>
    have hb := pq_bytes i hq
    simp [hq] at h1
    have h3 : i.bytes * m ≤ 72 * 1048576 := Nat.mul_le_mul hb hm
    have hbm : (i.bytes : Int) * (m : Int) ≤ 281474976710656 := by
      rw [← Int.natCast_mul]
      omega
    have hr := run_make (P := Try.prog) w 43 73 i _ Try.underlying43 hq h1.1 .i64 .i64 m m (by omega) (by omega) hbm (by omega)
    rw [hr, h1.2]
    simp only [Int.toNat_natCast, Value.cells]
    rw [← pq_made]
theorem pq_own0 (w : World) (m : Nat) (hm : m ≤ 1048576) : (w.alloc (.cells (pqR (List.replicate m pq0)).toArray 73)).ownsRow w.heap.size 73 7 (.slice (some ⟨w.heap.size, 0, none⟩) m m) m (pqR (List.replicate m pq0)) := by
  have hl := pqR_len (List.replicate m pq0)
  rw [List.length_replicate] at hl
  refine ⟨hl, .inr ⟨w.heap.size, m, _, rfl, Nat.le_refl _, (MapKept.heap_alloc w _).1, Nat.le_refl _, by unfold maxLen; omega, by simpa using hl, ?_⟩⟩
  rw [← hl]
  simp
end Go.Proofs.Ytefeahilamiiaaa
