import Derived.Test.YtefeahilamiiaaaRowCQ2
namespace Go.Proofs.Ytefeahilamiiaaa
open Go.ChangeShapes Go.WideShapes Go.ChangeAt Go.RowKit

def cq0 : CQ := ⟨0, .slice none 0 0, .slice none 0 0⟩
/-- So many are copied. -/
def cqJ (j : Nat) (zs : List CQ) : List CQ := zs.take j ++ List.replicate (zs.length - j) cq0
theorem cqJ_len (j : Nat) (zs : List CQ) (h : j ≤ zs.length) : (cqJ j zs).length = zs.length := by simp [cqJ]; omega
theorem cqJ_step (j : Nat) (zs : List CQ) (h : j < zs.length) : (cqJ j zs).set j zs[j] = cqJ (j + 1) zs := by
  unfold cqJ
  have hl : (zs.take j).length = j := by rw [List.length_take]; omega
  rw [List.set_append_right _ _ (by omega), hl, Nat.sub_self, show zs.length - j = (zs.length - (j + 1)) + 1 by omega, List.replicate_succ, List.set_cons_zero, List.take_succ_eq_append_getElem h, List.append_assoc]
  rfl
theorem cqJ_all (zs : List CQ) : cqJ zs.length zs = zs := by simp [cqJ]
theorem cqJ_zero (zs : List CQ) : cqJ 0 zs = List.replicate zs.length cq0 := by simp [cqJ]
theorem cq_made (m : Nat) : (madeCells #[.int .i64 0, .slice none 0 0, .slice none 0 0] (m * 3)).toList = cqR (List.replicate m cq0) := by
  apply List.ext_getElem?
  intro i
  by_cases hi : i < m * 3
  · have hq : i = i / 3 * 3 + i % 3 := by omega
    have h2 := cqR_at (List.replicate m cq0) (i / 3) (by rw [List.length_replicate]; omega) (i % 3) (by omega)
    rw [← hq] at h2
    rw [h2, List.getElem_replicate]
    have hl : (madeCells #[.int .i64 0, .slice none 0 0, .slice none 0 0] (m * 3)).toList.length = m * 3 := by simp [madeCells]
    rw [List.getElem?_eq_getElem (by omega)]
    have : i % 3 < 3 := Nat.mod_lt _ (by omega)
    generalize hr : i % 3 = r at *
    simp only [madeCells, Array.getElem_toList, Array.getElem_map, Array.getElem_range, List.size_toArray, List.length_cons, List.length_nil]
    rw [show i % (0 + 1 + 1 + 1) = r by simpa using hr]
    match r, this with
    | 0, _ => rfl
    | 1, _ => rfl
    | 2, _ => rfl
  · rw [List.getElem?_eq_none (by simp [madeCells]; omega), List.getElem?_eq_none (by rw [cqR_len]; simp; omega)]
theorem cq_zero : (Try.prog.info? 59).map (fun i => (i.zero, i.size)) = some (some (.agg #[.int .i64 0, .slice none 0 0, .slice none 0 0]), 3) := by kernel_rfl
theorem cq_bytes : ∀ i, Try.prog.info? 59 = some i → i.bytes ≤ 56 := by
  intro i h
  have e : (Try.prog.info? 59).map (fun i => decide (i.bytes ≤ 56)) = some true := by kernel_rfl
  rw [h] at e
  simpa using e
theorem cq_mk (w : World) (m : Nat) (hm : m ≤ 1048576) : (Instr.makeSlice 30 (.int .i64 m) (.int .i64 m)).run Try.prog w = .ok (.slice (some ⟨w.heap.size, 0, none⟩) m m) (w.alloc (.cells (cqR (List.replicate m cq0)).toArray 59)) := by
  have h1 := cq_zero
  cases hq : Try.prog.info? 59 with
  | none => simp [hq] at h1
  | some i =>
    have hb := cq_bytes i hq
    simp [hq] at h1
    have h3 : i.bytes * m ≤ 56 * 1048576 := Nat.mul_le_mul hb hm
    have hbm : (i.bytes : Int) * (m : Int) ≤ 281474976710656 := by
      rw [← Int.natCast_mul]
      omega
    have hr := run_make (P := Try.prog) w 30 59 i _ Try.underlying30 hq h1.1 .i64 .i64 m m (by omega) (by omega) hbm (by omega)
    rw [hr, h1.2]
    simp only [Int.toNat_natCast, Value.cells]
    rw [← cq_made]
theorem cq_own0 (w : World) (m : Nat) (hm : m ≤ 1048576) : (w.alloc (.cells (cqR (List.replicate m cq0)).toArray 59)).ownsRow w.heap.size 59 3 (.slice (some ⟨w.heap.size, 0, none⟩) m m) m (cqR (List.replicate m cq0)) := by
  have hl := cqR_len (List.replicate m cq0)
  rw [List.length_replicate] at hl
  refine ⟨hl, .inr ⟨w.heap.size, m, _, rfl, Nat.le_refl _, (MapKept.heap_alloc w _).1, Nat.le_refl _, by unfold maxLen; omega, by simpa using hl, ?_⟩⟩
  rw [← hl]
  simp
end Go.Proofs.Ytefeahilamiiaaa
