import Derived.Test.YtaobbddecmhpnaaRowIG2
namespace Go.Proofs.Ytaobbddecmhpnaa
open Go.ChangeShapes Go.WideShapes Go.ChangeAt Go.RowKit

def ig0 : IG := ⟨⟨#[]⟩, ⟨#[]⟩, .slice none 0 0, .slice none 0 0, .slice none 0 0⟩
/-- So many are copied. -/
def igJ (j : Nat) (zs : List IG) : List IG := zs.take j ++ List.replicate (zs.length - j) ig0
theorem igJ_len (j : Nat) (zs : List IG) (h : j ≤ zs.length) : (igJ j zs).length = zs.length := by simp [igJ]; omega
theorem igJ_step (j : Nat) (zs : List IG) (h : j < zs.length) : (igJ j zs).set j zs[j] = igJ (j + 1) zs := by
  unfold igJ
  have hl : (zs.take j).length = j := by rw [List.length_take]; omega
  rw [List.set_append_right _ _ (by omega), hl, Nat.sub_self, show zs.length - j = (zs.length - (j + 1)) + 1 by omega, List.replicate_succ, List.set_cons_zero, List.take_succ_eq_append_getElem h, List.append_assoc]
  rfl
theorem igJ_all (zs : List IG) : igJ zs.length zs = zs := by simp [igJ]
theorem igJ_zero (zs : List IG) : igJ 0 zs = List.replicate zs.length ig0 := by simp [igJ]
theorem ig_made (m : Nat) : (madeCells #[.string ⟨#[]⟩, .string ⟨#[]⟩, .slice none 0 0, .slice none 0 0, .slice none 0 0] (m * 5)).toList = igR (List.replicate m ig0) := by
  apply List.ext_getElem?
  intro i
  by_cases hi : i < m * 5
  · have hq : i = i / 5 * 5 + i % 5 := by omega
    have h2 := igR_at (List.replicate m ig0) (i / 5) (by rw [List.length_replicate]; omega) (i % 5) (by omega)
    rw [← hq] at h2
    rw [h2, List.getElem_replicate]
    have hl : (madeCells #[.string ⟨#[]⟩, .string ⟨#[]⟩, .slice none 0 0, .slice none 0 0, .slice none 0 0] (m * 5)).toList.length = m * 5 := by simp [madeCells]
    rw [List.getElem?_eq_getElem (by omega)]
    have : i % 5 < 5 := Nat.mod_lt _ (by omega)
    generalize hr : i % 5 = r at *
    simp only [madeCells, Array.getElem_toList, Array.getElem_map, Array.getElem_range, List.size_toArray, List.length_cons, List.length_nil]
    rw [show i % (0 + 1 + 1 + 1 + 1 + 1) = r by simpa using hr]
    match r, this with
    | 0, _ => rfl
    | 1, _ => rfl
    | 2, _ => rfl
    | 3, _ => rfl
    | 4, _ => rfl
  · rw [List.getElem?_eq_none (by simp [madeCells]; omega), List.getElem?_eq_none (by rw [igR_len]; simp; omega)]
theorem ig_zero : (Try.prog.info? 31).map (fun i => (i.zero, i.size)) = some (some (.agg #[.string ⟨#[]⟩, .string ⟨#[]⟩, .slice none 0 0, .slice none 0 0, .slice none 0 0]), 5) := by kernel_rfl
theorem ig_bytes : ∀ i, Try.prog.info? 31 = some i → i.bytes ≤ 104 := by
  intro i h
  have e : (Try.prog.info? 31).map (fun i => decide (i.bytes ≤ 104)) = some true := by kernel_rfl
  rw [h] at e
  simpa using e
theorem ig_own0 (w : World) (m : Nat) (hm : m ≤ 1048576) : (w.alloc (.cells (igR (List.replicate m ig0)).toArray 31)).ownsRow w.heap.size 31 5 (.slice (some ⟨w.heap.size, 0, none⟩) m m) m (igR (List.replicate m ig0)) := by
  have hl := igR_len (List.replicate m ig0)
  rw [List.length_replicate] at hl
  refine ⟨hl, .inr ⟨w.heap.size, m, _, rfl, Nat.le_refl _, (MapKept.heap_alloc w _).1, Nat.le_refl _, by unfold maxLen; omega, by simpa using hl, ?_⟩⟩
  rw [← hl]
  simp
end Go.Proofs.Ytaobbddecmhpnaa
