import Derived.Test.YtcglpigmellfcabRowTK2
namespace Go.Proofs.Ytcglpigmellfcab
open Go.ChangeShapes Go.WideShapes Go.ChangeAt Go.RowKit

def tk0 : TK := ⟨0, 0, 0, 0, 0, 0⟩
/-- So many are copied. -/
def tkJ (j : Nat) (zs : List TK) : List TK := zs.take j ++ List.replicate (zs.length - j) tk0
theorem tkJ_len (j : Nat) (zs : List TK) (h : j ≤ zs.length) : (tkJ j zs).length = zs.length := by simp [tkJ]; omega
theorem tkJ_step (j : Nat) (zs : List TK) (h : j < zs.length) : (tkJ j zs).set j zs[j] = tkJ (j + 1) zs := by
  unfold tkJ
  have hl : (zs.take j).length = j := by rw [List.length_take]; omega
  rw [List.set_append_right _ _ (by omega), hl, Nat.sub_self, show zs.length - j = (zs.length - (j + 1)) + 1 by omega, List.replicate_succ, List.set_cons_zero, List.take_succ_eq_append_getElem h, List.append_assoc]
  rfl
theorem tkJ_all (zs : List TK) : tkJ zs.length zs = zs := by simp [tkJ]
theorem tkJ_zero (zs : List TK) : tkJ 0 zs = List.replicate zs.length tk0 := by simp [tkJ]
theorem tk_made (m : Nat) : (madeCells #[.int .i64 0, .int .i64 0, .int .i64 0, .int .i64 0, .int .i64 0, .int .i64 0] (m * 6)).toList = tkR (List.replicate m tk0) := by
  apply List.ext_getElem?
  intro i
  by_cases hi : i < m * 6
  · have hq : i = i / 6 * 6 + i % 6 := by omega
    have h2 := tkR_at (List.replicate m tk0) (i / 6) (by rw [List.length_replicate]; omega) (i % 6) (by omega)
    rw [← hq] at h2
    rw [h2, List.getElem_replicate]
    have hl : (madeCells #[.int .i64 0, .int .i64 0, .int .i64 0, .int .i64 0, .int .i64 0, .int .i64 0] (m * 6)).toList.length = m * 6 := by simp [madeCells]
    rw [List.getElem?_eq_getElem (by omega)]
    have : i % 6 < 6 := Nat.mod_lt _ (by omega)
    generalize hr : i % 6 = r at *
    simp only [madeCells, Array.getElem_toList, Array.getElem_map, Array.getElem_range, List.size_toArray, List.length_cons, List.length_nil]
    rw [show i % (0 + 1 + 1 + 1 + 1 + 1 + 1) = r by simpa using hr]
    match r, this with
    | 0, _ => rfl
    | 1, _ => rfl
    | 2, _ => rfl
    | 3, _ => rfl
    | 4, _ => rfl
    | 5, _ => rfl
  · rw [List.getElem?_eq_none (by simp [madeCells]; omega), List.getElem?_eq_none (by rw [tkR_len]; simp; omega)]
theorem tk_zero : (Try.prog.info? 110).map (fun i => (i.zero, i.size)) = some (some (.agg #[.int .i64 0, .int .i64 0, .int .i64 0, .int .i64 0, .int .i64 0, .int .i64 0]), 6) := by kernel_rfl
theorem tk_bytes : ∀ i, Try.prog.info? 110 = some i → i.bytes ≤ 48 := by
  intro i h
  have e : (Try.prog.info? 110).map (fun i => decide (i.bytes ≤ 48)) = some true := by kernel_rfl
  rw [h] at e
  simpa using e
theorem tk_mk (w : World) (m : Nat) (hm : m ≤ 1048576) : (Instr.makeSlice 108 (.int .i64 m) (.int .i64 m)).run Try.prog w = .ok (.slice (some ⟨w.heap.size, 0, none⟩) m m) (w.alloc (.cells (tkR (List.replicate m tk0)).toArray 110)) := by
  have h1 := tk_zero
  cases hq : Try.prog.info? 110 with
  | none => simp [hq] at h1
  | some i =>
    have hb := tk_bytes i hq
    simp [hq] at h1
    have h3 : i.bytes * m ≤ 48 * 1048576 := Nat.mul_le_mul hb hm
    have hbm : (i.bytes : Int) * (m : Int) ≤ 281474976710656 := by
      rw [← Int.natCast_mul]
      omega
    have hr := run_make (P := Try.prog) w 108 110 i _ Try.underlying108 hq h1.1 .i64 .i64 m m (by omega) (by omega) hbm (by omega)
    rw [hr, h1.2]
    simp only [Int.toNat_natCast, Value.cells]
    rw [← tk_made]
theorem tk_own0 (w : World) (m : Nat) (hm : m ≤ 1048576) : (w.alloc (.cells (tkR (List.replicate m tk0)).toArray 110)).ownsRow w.heap.size 110 6 (.slice (some ⟨w.heap.size, 0, none⟩) m m) m (tkR (List.replicate m tk0)) := by
  have hl := tkR_len (List.replicate m tk0)
  rw [List.length_replicate] at hl
  refine ⟨hl, .inr ⟨w.heap.size, m, _, rfl, Nat.le_refl _, (MapKept.heap_alloc w _).1, Nat.le_refl _, by unfold maxLen; omega, by simpa using hl, ?_⟩⟩
  rw [← hl]
  simp
end Go.Proofs.Ytcglpigmellfcab
