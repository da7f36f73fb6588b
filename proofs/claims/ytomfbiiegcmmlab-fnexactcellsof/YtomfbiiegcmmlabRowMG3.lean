import Derived.Test.YtomfbiiegcmmlabRowMG2
namespace Go.Proofs.Ytomfbiiegcmmlab
open Go.ChangeShapes Go.WideShapes Go.ChangeAt Go.RowKit

def mg0 : MG := ⟨.slice none 0 0, ⟨#[]⟩, .slice none 0 0⟩
/-- So many are copied. -/
def mgJ (j : Nat) (zs : List MG) : List MG := zs.take j ++ List.replicate (zs.length - j) mg0
theorem mgJ_len (j : Nat) (zs : List MG) (h : j ≤ zs.length) : (mgJ j zs).length = zs.length := by simp [mgJ]; omega
theorem mgJ_step (j : Nat) (zs : List MG) (h : j < zs.length) : (mgJ j zs).set j zs[j] = mgJ (j + 1) zs := by
  unfold mgJ
  have hl : (zs.take j).length = j := by rw [List.length_take]; omega
  rw [List.set_append_right _ _ (by omega), hl, Nat.sub_self, show zs.length - j = (zs.length - (j + 1)) + 1 by omega, List.replicate_succ, List.set_cons_zero, List.take_succ_eq_append_getElem h, List.append_assoc]
  rfl
theorem mgJ_all (zs : List MG) : mgJ zs.length zs = zs := by simp [mgJ]
theorem mgJ_zero (zs : List MG) : mgJ 0 zs = List.replicate zs.length mg0 := by simp [mgJ]
theorem mg_made (m : Nat) : (madeCells #[.slice none 0 0, .string ⟨#[]⟩, .slice none 0 0] (m * 3)).toList = mgR (List.replicate m mg0) := by
  apply List.ext_getElem?
  intro i
  by_cases hi : i < m * 3
  · have hq : i = i / 3 * 3 + i % 3 := by omega
    have h2 := mgR_at (List.replicate m mg0) (i / 3) (by rw [List.length_replicate]; omega) (i % 3) (by omega)
    rw [← hq] at h2
    rw [h2, List.getElem_replicate]
    have hl : (madeCells #[.slice none 0 0, .string ⟨#[]⟩, .slice none 0 0] (m * 3)).toList.length = m * 3 := by simp [madeCells]
    rw [List.getElem?_eq_getElem (by omega)]
    have : i % 3 < 3 := Nat.mod_lt _ (by omega)
    generalize hr : i % 3 = r at *
    simp only [madeCells, Array.getElem_toList, Array.getElem_map, Array.getElem_range, List.size_toArray, List.length_cons, List.length_nil]
    rw [show i % (0 + 1 + 1 + 1) = r by simpa using hr]
    match r, this with
    | 0, _ => rfl
    | 1, _ => rfl
    | 2, _ => rfl
  · rw [List.getElem?_eq_none (by simp [madeCells]; omega), List.getElem?_eq_none (by rw [mgR_len]; simp; omega)]
theorem mg_zero : (Try.prog.info? 67).map (fun i => (i.zero, i.size)) = some (some (.agg #[.slice none 0 0, .string ⟨#[]⟩, .slice none 0 0]), 3) := by kernel_rfl
theorem mg_bytes : ∀ i, Try.prog.info? 67 = some i → i.bytes ≤ 64 := by
  intro i h
  have e : (Try.prog.info? 67).map (fun i => decide (i.bytes ≤ 64)) = some true := by kernel_rfl
  rw [h] at e
  simpa using e
theorem mg_mk (w : World) (m : Nat) (hm : m ≤ 1048576) : (Instr.makeSlice 28 (.int .i64 m) (.int .i64 m)).run Try.prog w = .ok (.slice (some ⟨w.heap.size, 0, none⟩) m m) (w.alloc (.cells (mgR (List.replicate m mg0)).toArray 67)) := by
  have h1 := mg_zero
  cases hq : Try.prog.info? 67 with
  | none => simp [hq] at h1
  | some i =>
    have hb := mg_bytes i hq
    simp [hq] at h1
    have h3 : i.bytes * m ≤ 64 * 1048576 := Nat.mul_le_mul hb hm
    have hbm : (i.bytes : Int) * (m : Int) ≤ 281474976710656 := by
      rw [← Int.natCast_mul]
      omega
    have hr := run_make (P := Try.prog) w 28 67 i _ Try.underlying28 hq h1.1 .i64 .i64 m m (by omega) (by omega) hbm (by omega)
    rw [hr, h1.2]
    simp only [Int.toNat_natCast, Value.cells]
    rw [← mg_made]
theorem mg_own0 (w : World) (m : Nat) (hm : m ≤ 1048576) : (w.alloc (.cells (mgR (List.replicate m mg0)).toArray 67)).ownsRow w.heap.size 67 3 (.slice (some ⟨w.heap.size, 0, none⟩) m m) m (mgR (List.replicate m mg0)) := by
  have hl := mgR_len (List.replicate m mg0)
  rw [List.length_replicate] at hl
  refine ⟨hl, .inr ⟨w.heap.size, m, _, rfl, Nat.le_refl _, (MapKept.heap_alloc w _).1, Nat.le_refl _, by unfold maxLen; omega, by simpa using hl, ?_⟩⟩
  rw [← hl]
  simp
end Go.Proofs.Ytomfbiiegcmmlab
