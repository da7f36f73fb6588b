import Derived.Test.YtniaohflkopncaaRowKS2
namespace Go.Proofs.Ytniaohflkopncaa
open Go.ChangeShapes Go.WideShapes Go.ChangeAt Go.RowKit

def ks0 : KS := ⟨0, ⟨#[]⟩, ⟨#[]⟩⟩
/-- So many are copied. -/
def ksJ (j : Nat) (zs : List KS) : List KS := zs.take j ++ List.replicate (zs.length - j) ks0
theorem ksJ_len (j : Nat) (zs : List KS) (h : j ≤ zs.length) : (ksJ j zs).length = zs.length := by simp [ksJ]; omega
theorem ksJ_step (j : Nat) (zs : List KS) (h : j < zs.length) : (ksJ j zs).set j zs[j] = ksJ (j + 1) zs := by
  unfold ksJ
  have hl : (zs.take j).length = j := by rw [List.length_take]; omega
  rw [List.set_append_right _ _ (by omega), hl, Nat.sub_self, show zs.length - j = (zs.length - (j + 1)) + 1 by omega, List.replicate_succ, List.set_cons_zero, List.take_succ_eq_append_getElem h, List.append_assoc]
  rfl
theorem ksJ_all (zs : List KS) : ksJ zs.length zs = zs := by simp [ksJ]
theorem ksJ_zero (zs : List KS) : ksJ 0 zs = List.replicate zs.length ks0 := by simp [ksJ]
theorem ks_made (m : Nat) : (madeCells #[.int .i64 0, .string ⟨#[]⟩, .string ⟨#[]⟩] (m * 3)).toList = ksR (List.replicate m ks0) := by
  apply List.ext_getElem?
  intro i
  by_cases hi : i < m * 3
  · have hq : i = i / 3 * 3 + i % 3 := by omega
    have h2 := ksR_at (List.replicate m ks0) (i / 3) (by rw [List.length_replicate]; omega) (i % 3) (by omega)
    rw [← hq] at h2
    rw [h2, List.getElem_replicate]
    have hl : (madeCells #[.int .i64 0, .string ⟨#[]⟩, .string ⟨#[]⟩] (m * 3)).toList.length = m * 3 := by simp [madeCells]
    rw [List.getElem?_eq_getElem (by omega)]
    have : i % 3 < 3 := Nat.mod_lt _ (by omega)
    generalize hr : i % 3 = r at *
    simp only [madeCells, Array.getElem_toList, Array.getElem_map, Array.getElem_range, List.size_toArray, List.length_cons, List.length_nil]
    rw [show i % (0 + 1 + 1 + 1) = r by simpa using hr]
    match r, this with
    | 0, _ => rfl
    | 1, _ => rfl
    | 2, _ => rfl
  · rw [List.getElem?_eq_none (by simp [madeCells]; omega), List.getElem?_eq_none (by rw [ksR_len]; simp; omega)]
theorem ks_zero : (Try.prog.info? 70).map (fun i => (i.zero, i.size)) = some (some (.agg #[.int .i64 0, .string ⟨#[]⟩, .string ⟨#[]⟩]), 3) := by kernel_rfl
theorem ks_bytes : ∀ i, Try.prog.info? 70 = some i → i.bytes ≤ 40 := by
  intro i h
  have e : (Try.prog.info? 70).map (fun i => decide (i.bytes ≤ 40)) = some true := by kernel_rfl
  rw [h] at e
  simpa using e
theorem ks_mk (w : World) (m : Nat) (hm : m ≤ 1048576) : (Instr.makeSlice 25 (.int .i64 m) (.int .i64 m)).run Try.prog w = .ok (.slice (some ⟨w.heap.size, 0, none⟩) m m) (w.alloc (.cells (ksR (List.replicate m ks0)).toArray 70)) := by
  have h1 := ks_zero
  cases hq : Try.prog.info? 70 with
  | none => simp [hq] at h1
  | some i =>
    have hb := ks_bytes i hq
    simp [hq] at h1
    have h3 : i.bytes * m ≤ 40 * 1048576 := Nat.mul_le_mul hb hm
    have hbm : (i.bytes : Int) * (m : Int) ≤ 281474976710656 := by
      rw [← Int.natCast_mul]
      omega
    have hr := run_make (P := Try.prog) w 25 70 i _ Try.underlying25 hq h1.1 .i64 .i64 m m (by omega) (by omega) hbm (by omega)
    rw [hr, h1.2]
    simp only [Int.toNat_natCast, Value.cells]
    rw [← ks_made]
theorem ks_own0 (w : World) (m : Nat) (hm : m ≤ 1048576) : (w.alloc (.cells (ksR (List.replicate m ks0)).toArray 70)).ownsRow w.heap.size 70 3 (.slice (some ⟨w.heap.size, 0, none⟩) m m) m (ksR (List.replicate m ks0)) := by
  have hl := ksR_len (List.replicate m ks0)
  rw [List.length_replicate] at hl
  refine ⟨hl, .inr ⟨w.heap.size, m, _, rfl, Nat.le_refl _, (MapKept.heap_alloc w _).1, Nat.le_refl _, by unfold maxLen; omega, by simpa using hl, ?_⟩⟩
  rw [← hl]
  simp
end Go.Proofs.Ytniaohflkopncaa
