import Derived.Test.YtpggbbdfbnocfaaRowNH2
namespace Go.Proofs.Ytpggbbdfbnocfaa
open Go.ChangeShapes Go.WideShapes Go.ChangeAt Go.RowKit

def nh0 : NH := ⟨0, .slice none 0 0⟩
/-- So many are copied. -/
def nhJ (j : Nat) (zs : List NH) : List NH := zs.take j ++ List.replicate (zs.length - j) nh0
theorem nhJ_len (j : Nat) (zs : List NH) (h : j ≤ zs.length) : (nhJ j zs).length = zs.length := by simp [nhJ]; omega
theorem nhJ_step (j : Nat) (zs : List NH) (h : j < zs.length) : (nhJ j zs).set j zs[j] = nhJ (j + 1) zs := by
  unfold nhJ
  have hl : (zs.take j).length = j := by rw [List.length_take]; omega
  rw [List.set_append_right _ _ (by omega), hl, Nat.sub_self, show zs.length - j = (zs.length - (j + 1)) + 1 by omega, List.replicate_succ, List.set_cons_zero, List.take_succ_eq_append_getElem h, List.append_assoc]
  rfl
theorem nhJ_all (zs : List NH) : nhJ zs.length zs = zs := by simp [nhJ]
theorem nhJ_zero (zs : List NH) : nhJ 0 zs = List.replicate zs.length nh0 := by simp [nhJ]
theorem nh_made (m : Nat) : (madeCells #[.int .i64 0, .slice none 0 0] (m * 2)).toList = nhR (List.replicate m nh0) := by
  apply List.ext_getElem?
  intro i
  by_cases hi : i < m * 2
  · have hq : i = i / 2 * 2 + i % 2 := by omega
    have h2 := nhR_at (List.replicate m nh0) (i / 2) (by rw [List.length_replicate]; omega) (i % 2) (by omega)
    rw [← hq] at h2
    rw [h2, List.getElem_replicate]
    have hl : (madeCells #[.int .i64 0, .slice none 0 0] (m * 2)).toList.length = m * 2 := by simp [madeCells]
    rw [List.getElem?_eq_getElem (by omega)]
    have : i % 2 < 2 := Nat.mod_lt _ (by omega)
    generalize hr : i % 2 = r at *
    simp only [madeCells, Array.getElem_toList, Array.getElem_map, Array.getElem_range, List.size_toArray, List.length_cons, List.length_nil]
    rw [show i % (0 + 1 + 1) = r by simpa using hr]
    match r, this with
    | 0, _ => rfl
    | 1, _ => rfl
  · rw [List.getElem?_eq_none (by simp [madeCells]; omega), List.getElem?_eq_none (by rw [nhR_len]; simp; omega)]
theorem nh_zero : (Try.prog.info? 86).map (fun i => (i.zero, i.size)) = some (some (.agg #[.int .i64 0, .slice none 0 0]), 2) := by kernel_rfl
theorem nh_bytes : ∀ i, Try.prog.info? 86 = some i → i.bytes ≤ 32 := by
  intro i h
  have e : (Try.prog.info? 86).map (fun i => decide (i.bytes ≤ 32)) = some true := by kernel_rfl
  rw [h] at e
  simpa using e
theorem nh_mk (w : World) (m : Nat) (hm : m ≤ 1048576) : (Instr.makeSlice 30 (.int .i64 m) (.int .i64 m)).run Try.prog w = .ok (.slice (some ⟨w.heap.size, 0, none⟩) m m) (w.alloc (.cells (nhR (List.replicate m nh0)).toArray 86)) := by
  have h1 := nh_zero
  cases hq : Try.prog.info? 86 with
  | none => simp [hq] at h1
  | some i =>
    have hb := nh_bytes i hq
    simp [hq] at h1
    have h3 : i.bytes * m ≤ 32 * 1048576 := Nat.mul_le_mul hb hm
    have hbm : (i.bytes : Int) * (m : Int) ≤ 281474976710656 := by
      rw [← Int.natCast_mul]
      omega
    have hr := run_make (P := Try.prog) w 30 86 i _ Try.underlying30 hq h1.1 .i64 .i64 m m (by omega) (by omega) hbm (by omega)
    rw [hr, h1.2]
    simp only [Int.toNat_natCast, Value.cells]
    rw [← nh_made]
theorem nh_own0 (w : World) (m : Nat) (hm : m ≤ 1048576) : (w.alloc (.cells (nhR (List.replicate m nh0)).toArray 86)).ownsRow w.heap.size 86 2 (.slice (some ⟨w.heap.size, 0, none⟩) m m) m (nhR (List.replicate m nh0)) := by
  have hl := nhR_len (List.replicate m nh0)
  rw [List.length_replicate] at hl
  refine ⟨hl, .inr ⟨w.heap.size, m, _, rfl, Nat.le_refl _, (MapKept.heap_alloc w _).1, Nat.le_refl _, by unfold maxLen; omega, by simpa using hl, ?_⟩⟩
  rw [← hl]
  simp
end Go.Proofs.Ytpggbbdfbnocfaa
