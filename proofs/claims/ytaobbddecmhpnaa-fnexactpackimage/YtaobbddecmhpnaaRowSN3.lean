import Derived.Test.YtaobbddecmhpnaaRowSN2
namespace Go.Proofs.Ytaobbddecmhpnaa
open Go.ChangeShapes Go.WideShapes Go.ChangeAt Go.RowKit

def sn0 : SN := ⟨⟨#[]⟩, .slice none 0 0⟩
/-- So many are copied. -/
def snJ (j : Nat) (zs : List SN) : List SN := zs.take j ++ List.replicate (zs.length - j) sn0
theorem snJ_len (j : Nat) (zs : List SN) (h : j ≤ zs.length) : (snJ j zs).length = zs.length := by simp [snJ]; omega
theorem snJ_step (j : Nat) (zs : List SN) (h : j < zs.length) : (snJ j zs).set j zs[j] = snJ (j + 1) zs := by
  unfold snJ
  have hl : (zs.take j).length = j := by rw [List.length_take]; omega
  rw [List.set_append_right _ _ (by omega), hl, Nat.sub_self, show zs.length - j = (zs.length - (j + 1)) + 1 by omega, List.replicate_succ, List.set_cons_zero, List.take_succ_eq_append_getElem h, List.append_assoc]
  rfl
theorem snJ_all (zs : List SN) : snJ zs.length zs = zs := by simp [snJ]
theorem snJ_zero (zs : List SN) : snJ 0 zs = List.replicate zs.length sn0 := by simp [snJ]
theorem sn_made (m : Nat) : (madeCells #[.string ⟨#[]⟩, .slice none 0 0] (m * 2)).toList = snR (List.replicate m sn0) := by
  apply List.ext_getElem?
  intro i
  by_cases hi : i < m * 2
  · have hq : i = i / 2 * 2 + i % 2 := by omega
    have h2 := snR_at (List.replicate m sn0) (i / 2) (by rw [List.length_replicate]; omega) (i % 2) (by omega)
    rw [← hq] at h2
    rw [h2, List.getElem_replicate]
    have hl : (madeCells #[.string ⟨#[]⟩, .slice none 0 0] (m * 2)).toList.length = m * 2 := by simp [madeCells]
    rw [List.getElem?_eq_getElem (by omega)]
    have : i % 2 < 2 := Nat.mod_lt _ (by omega)
    generalize hr : i % 2 = r at *
    simp only [madeCells, Array.getElem_toList, Array.getElem_map, Array.getElem_range, List.size_toArray, List.length_cons, List.length_nil]
    rw [show i % (0 + 1 + 1) = r by simpa using hr]
    match r, this with
    | 0, _ => rfl
    | 1, _ => rfl
  · rw [List.getElem?_eq_none (by simp [madeCells]; omega), List.getElem?_eq_none (by rw [snR_len]; simp; omega)]
theorem sn_zero : (Try.prog.info? 43).map (fun i => (i.zero, i.size)) = some (some (.agg #[.string ⟨#[]⟩, .slice none 0 0]), 2) := by kernel_rfl
theorem sn_bytes : ∀ i, Try.prog.info? 43 = some i → i.bytes ≤ 40 := by
  intro i h
  have e : (Try.prog.info? 43).map (fun i => decide (i.bytes ≤ 40)) = some true := by kernel_rfl
  rw [h] at e
  simpa using e
theorem sn_mk (w : World) (m : Nat) (hm : m ≤ 1048576) : (Instr.makeSlice 29 (.int .i64 m) (.int .i64 m)).run Try.prog w = .ok (.slice (some ⟨w.heap.size, 0, none⟩) m m) (w.alloc (.cells (snR (List.replicate m sn0)).toArray 43)) := by
  have h1 := sn_zero
  cases hq : Try.prog.info? 43 with
  | none => simp [hq] at h1
  | some i =>
    have hb := sn_bytes i hq
    simp [hq] at h1
    have h3 : i.bytes * m ≤ 40 * 1048576 := Nat.mul_le_mul hb hm
    have hbm : (i.bytes : Int) * (m : Int) ≤ 281474976710656 := by
      rw [← Int.natCast_mul]
      omega
    have hr := run_make (P := Try.prog) w 29 43 i _ Try.underlying29 hq h1.1 .i64 .i64 m m (by omega) (by omega) hbm (by omega)
    rw [hr, h1.2]
    simp only [Int.toNat_natCast, Value.cells]
    rw [← sn_made]
theorem sn_own0 (w : World) (m : Nat) (hm : m ≤ 1048576) : (w.alloc (.cells (snR (List.replicate m sn0)).toArray 43)).ownsRow w.heap.size 43 2 (.slice (some ⟨w.heap.size, 0, none⟩) m m) m (snR (List.replicate m sn0)) := by
  have hl := snR_len (List.replicate m sn0)
  rw [List.length_replicate] at hl
  refine ⟨hl, .inr ⟨w.heap.size, m, _, rfl, Nat.le_refl _, (MapKept.heap_alloc w _).1, Nat.le_refl _, by unfold maxLen; omega, by simpa using hl, ?_⟩⟩
  rw [← hl]
  simp
end Go.Proofs.Ytaobbddecmhpnaa
