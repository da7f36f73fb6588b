import Derived.Test.YtcglpigmellfcabRowRK2
namespace Go.Proofs.Ytcglpigmellfcab
open Go.ChangeShapes Go.WideShapes Go.ChangeAt Go.RowKit

def rk0 : RK := ⟨0, 0, 0⟩
/-- So many are copied. -/
def rkJ (j : Nat) (zs : List RK) : List RK := zs.take j ++ List.replicate (zs.length - j) rk0
theorem rkJ_len (j : Nat) (zs : List RK) (h : j ≤ zs.length) : (rkJ j zs).length = zs.length := by simp [rkJ]; omega
theorem rkJ_step (j : Nat) (zs : List RK) (h : j < zs.length) : (rkJ j zs).set j zs[j] = rkJ (j + 1) zs := by
  unfold rkJ
  have hl : (zs.take j).length = j := by rw [List.length_take]; omega
  rw [List.set_append_right _ _ (by omega), hl, Nat.sub_self, show zs.length - j = (zs.length - (j + 1)) + 1 by omega, List.replicate_succ, List.set_cons_zero, List.take_succ_eq_append_getElem h, List.append_assoc]
  rfl
theorem rkJ_all (zs : List RK) : rkJ zs.length zs = zs := by simp [rkJ]
theorem rkJ_zero (zs : List RK) : rkJ 0 zs = List.replicate zs.length rk0 := by simp [rkJ]
theorem rk_made (m : Nat) : (madeCells #[.int .i64 0, .int .i64 0, .int .i64 0] (m * 3)).toList = rkR (List.replicate m rk0) := by
  apply List.ext_getElem?
  intro i
  by_cases hi : i < m * 3
  · have hq : i = i / 3 * 3 + i % 3 := by omega
    have h2 := rkR_at (List.replicate m rk0) (i / 3) (by rw [List.length_replicate]; omega) (i % 3) (by omega)
    rw [← hq] at h2
    rw [h2, List.getElem_replicate]
    have hl : (madeCells #[.int .i64 0, .int .i64 0, .int .i64 0] (m * 3)).toList.length = m * 3 := by simp [madeCells]
    rw [List.getElem?_eq_getElem (by omega)]
    have : i % 3 < 3 := Nat.mod_lt _ (by omega)
    generalize hr : i % 3 = r at *
    simp only [madeCells, Array.getElem_toList, Array.getElem_map, Array.getElem_range, List.size_toArray, List.length_cons, List.length_nil]
    rw [show i % (0 + 1 + 1 + 1) = r by simpa using hr]
    match r, this with
    | 0, _ => rfl
    | 1, _ => rfl
    | 2, _ => rfl
  · rw [List.getElem?_eq_none (by simp [madeCells]; omega), List.getElem?_eq_none (by rw [rkR_len]; simp; omega)]
theorem rk_zero : (Try.prog.info? 49).map (fun i => (i.zero, i.size)) = some (some (.agg #[.int .i64 0, .int .i64 0, .int .i64 0]), 3) := by kernel_rfl
theorem rk_bytes : ∀ i, Try.prog.info? 49 = some i → i.bytes ≤ 24 := by
  intro i h
  have e : (Try.prog.info? 49).map (fun i => decide (i.bytes ≤ 24)) = some true := by kernel_rfl
  rw [h] at e
  simpa using e
theorem rk_mk (w : World) (m : Nat) (hm : m ≤ 1048576) : (Instr.makeSlice 41 (.int .i64 m) (.int .i64 m)).run Try.prog w = .ok (.slice (some ⟨w.heap.size, 0, none⟩) m m) (w.alloc (.cells (rkR (List.replicate m rk0)).toArray 49)) := by
  have h1 := rk_zero
  cases hq : Try.prog.info? 49 with
  | none => simp [hq] at h1
  | some i =>
    have hb := rk_bytes i hq
    simp [hq] at h1
    have h3 : i.bytes * m ≤ 24 * 1048576 := Nat.mul_le_mul hb hm
    have hbm : (i.bytes : Int) * (m : Int) ≤ 281474976710656 := by
      rw [← Int.natCast_mul]
      omega
    have hr := run_make (P := Try.prog) w 41 49 i _ Try.underlying41 hq h1.1 .i64 .i64 m m (by omega) (by omega) hbm (by omega)
    rw [hr, h1.2]
    simp only [Int.toNat_natCast, Value.cells]
    rw [← rk_made]
theorem rk_own0 (w : World) (m : Nat) (hm : m ≤ 1048576) : (w.alloc (.cells (rkR (List.replicate m rk0)).toArray 49)).ownsRow w.heap.size 49 3 (.slice (some ⟨w.heap.size, 0, none⟩) m m) m (rkR (List.replicate m rk0)) := by
  have hl := rkR_len (List.replicate m rk0)
  rw [List.length_replicate] at hl
  refine ⟨hl, .inr ⟨w.heap.size, m, _, rfl, Nat.le_refl _, (MapKept.heap_alloc w _).1, Nat.le_refl _, by unfold maxLen; omega, by simpa using hl, ?_⟩⟩
  rw [← hl]
  simp
end Go.Proofs.Ytcglpigmellfcab
