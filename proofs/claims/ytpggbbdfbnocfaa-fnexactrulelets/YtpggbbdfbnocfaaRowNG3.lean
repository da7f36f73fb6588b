import Derived.Test.YtpggbbdfbnocfaaRowNG2
namespace Go.Proofs.Ytpggbbdfbnocfaa
open Go.ChangeShapes Go.WideShapes Go.ChangeAt Go.RowKit

def ng0 : NG := ⟨.slice none 0 0⟩
/-- So many are copied. -/
def ngJ (j : Nat) (zs : List NG) : List NG := zs.take j ++ List.replicate (zs.length - j) ng0
theorem ngJ_len (j : Nat) (zs : List NG) (h : j ≤ zs.length) : (ngJ j zs).length = zs.length := by simp [ngJ]; omega
theorem ngJ_step (j : Nat) (zs : List NG) (h : j < zs.length) : (ngJ j zs).set j zs[j] = ngJ (j + 1) zs := by
  unfold ngJ
  have hl : (zs.take j).length = j := by rw [List.length_take]; omega
  rw [List.set_append_right _ _ (by omega), hl, Nat.sub_self, show zs.length - j = (zs.length - (j + 1)) + 1 by omega, List.replicate_succ, List.set_cons_zero, List.take_succ_eq_append_getElem h, List.append_assoc]
  rfl
theorem ngJ_all (zs : List NG) : ngJ zs.length zs = zs := by simp [ngJ]
theorem ngJ_zero (zs : List NG) : ngJ 0 zs = List.replicate zs.length ng0 := by simp [ngJ]
theorem ng_made (m : Nat) : (madeCells #[.slice none 0 0] (m * 1)).toList = ngR (List.replicate m ng0) := by
  have e : ngR (List.replicate m ng0) = List.replicate m (.slice none 0 0) := by
    induction m with
    | zero => rfl
    | succ m ih => rw [List.replicate_succ, List.replicate_succ, ← ih]; rfl
  rw [e]
  apply List.ext_getElem
  · simp [madeCells]
  · intro i h1 h2
    simp [madeCells, Nat.mod_one]
theorem ng_zero : (Try.prog.info? 90).map (fun i => (i.zero, i.size)) = some (some (.agg #[.slice none 0 0]), 1) := by kernel_rfl
theorem ng_bytes : ∀ i, Try.prog.info? 90 = some i → i.bytes ≤ 24 := by
  intro i h
  have e : (Try.prog.info? 90).map (fun i => decide (i.bytes ≤ 24)) = some true := by kernel_rfl
  rw [h] at e
  simpa using e
theorem ng_mk (w : World) (m : Nat) (hm : m ≤ 1048576) : (Instr.makeSlice 31 (.int .i64 m) (.int .i64 m)).run Try.prog w = .ok (.slice (some ⟨w.heap.size, 0, none⟩) m m) (w.alloc (.cells (ngR (List.replicate m ng0)).toArray 90)) := by
  have h1 := ng_zero
  cases hq : Try.prog.info? 90 with
  | none => simp [hq] at h1
  | some i =>
    have hb := ng_bytes i hq
    simp [hq] at h1
    have h3 : i.bytes * m ≤ 24 * 1048576 := Nat.mul_le_mul hb hm
    have hbm : (i.bytes : Int) * (m : Int) ≤ 281474976710656 := by
      rw [← Int.natCast_mul]
      omega
    have hr := run_make (P := Try.prog) w 31 90 i _ Try.underlying31 hq h1.1 .i64 .i64 m m (by omega) (by omega) hbm (by omega)
    rw [hr, h1.2]
    simp only [Int.toNat_natCast, Value.cells]
    rw [← ng_made]
theorem ng_own0 (w : World) (m : Nat) (hm : m ≤ 1048576) : (w.alloc (.cells (ngR (List.replicate m ng0)).toArray 90)).ownsRow w.heap.size 90 1 (.slice (some ⟨w.heap.size, 0, none⟩) m m) m (ngR (List.replicate m ng0)) := by
  have hl := ngR_len (List.replicate m ng0)
  rw [List.length_replicate] at hl
  refine ⟨hl, .inr ⟨w.heap.size, m, _, rfl, Nat.le_refl _, (MapKept.heap_alloc w _).1, Nat.le_refl _, by unfold maxLen; omega, by simpa using hl, ?_⟩⟩
  rw [← hl]
  simp
end Go.Proofs.Ytpggbbdfbnocfaa
