import Derived.Test.YthncnffnjjclfabRowSG2
namespace Go.Proofs.Ythncnffnjjclfab
open Go.ChangeShapes Go.WideShapes Go.ChangeAt Go.RowKit

def sg0 : SG := ⟨0, ⟨#[]⟩⟩
/-- So many are copied. -/
def sgJ (j : Nat) (zs : List SG) : List SG := zs.take j ++ List.replicate (zs.length - j) sg0
theorem sgJ_len (j : Nat) (zs : List SG) (h : j ≤ zs.length) : (sgJ j zs).length = zs.length := by simp [sgJ]; omega
theorem sgJ_step (j : Nat) (zs : List SG) (h : j < zs.length) : (sgJ j zs).set j zs[j] = sgJ (j + 1) zs := by
  unfold sgJ
  have hl : (zs.take j).length = j := by rw [List.length_take]; omega
  rw [List.set_append_right _ _ (by omega), hl, Nat.sub_self, show zs.length - j = (zs.length - (j + 1)) + 1 by omega, List.replicate_succ, List.set_cons_zero, List.take_succ_eq_append_getElem h, List.append_assoc]
  rfl
theorem sgJ_all (zs : List SG) : sgJ zs.length zs = zs := by simp [sgJ]
theorem sgJ_zero (zs : List SG) : sgJ 0 zs = List.replicate zs.length sg0 := by simp [sgJ]
theorem sg_made (m : Nat) : (madeCells #[.int .i64 0, .string ⟨#[]⟩] (m * 2)).toList = sgR (List.replicate m sg0) := by
  apply List.ext_getElem?
  intro i
  by_cases hi : i < m * 2
  · have hq : i = i / 2 * 2 + i % 2 := by omega
    have h2 := sgR_at (List.replicate m sg0) (i / 2) (by rw [List.length_replicate]; omega) (i % 2) (by omega)
    rw [← hq] at h2
    rw [h2, List.getElem_replicate]
    have hl : (madeCells #[.int .i64 0, .string ⟨#[]⟩] (m * 2)).toList.length = m * 2 := by simp [madeCells]
    rw [List.getElem?_eq_getElem (by omega)]
    have : i % 2 < 2 := Nat.mod_lt _ (by omega)
    generalize hr : i % 2 = r at *
    simp only [madeCells, Array.getElem_toList, Array.getElem_map, Array.getElem_range, List.size_toArray, List.length_cons, List.length_nil]
    rw [show i % (0 + 1 + 1) = r by simpa using hr]
    match r, this with
    | 0, _ => rfl
    | 1, _ => rfl
  · rw [List.getElem?_eq_none (by simp [madeCells]; omega), List.getElem?_eq_none (by rw [sgR_len]; simp; omega)]
theorem sg_zero : (Try.prog.info? 86).map (fun i => (i.zero, i.size)) = some (some (.agg #[.int .i64 0, .string ⟨#[]⟩]), 2) := by kernel_rfl
theorem sg_bytes : ∀ i, Try.prog.info? 86 = some i → i.bytes ≤ 24 := by
  intro i h
  have e : (Try.prog.info? 86).map (fun i => decide (i.bytes ≤ 24)) = some true := by kernel_rfl
  rw [h] at e
  simpa using e
theorem sg_mk (w : World) (m : Nat) (hm : m ≤ 1048576) : (Instr.makeSlice 43 (.int .i64 m) (.int .i64 m)).run Try.prog w = .ok (.slice (some ⟨w.heap.size, 0, none⟩) m m) (w.alloc (.cells (sgR (List.replicate m sg0)).toArray 86)) := by
  have h1 := sg_zero
  cases hq : Try.prog.info? 86 with
  | none => simp [hq] at h1
  | some i =>
    have hb := sg_bytes i hq
    simp [hq] at h1
    have h3 : i.bytes * m ≤ 24 * 1048576 := Nat.mul_le_mul hb hm
    have hbm : (i.bytes : Int) * (m : Int) ≤ 281474976710656 := by
      rw [← Int.natCast_mul]
      omega
    have hr := run_make (P := Try.prog) w 43 86 i _ Try.underlying43 hq h1.1 .i64 .i64 m m (by omega) (by omega) hbm (by omega)
    rw [hr, h1.2]
    simp only [Int.toNat_natCast, Value.cells]
    rw [← sg_made]
theorem sg_own0 (w : World) (m : Nat) (hm : m ≤ 1048576) : (w.alloc (.cells (sgR (List.replicate m sg0)).toArray 86)).ownsRow w.heap.size 86 2 (.slice (some ⟨w.heap.size, 0, none⟩) m m) m (sgR (List.replicate m sg0)) := by
  have hl := sgR_len (List.replicate m sg0)
  rw [List.length_replicate] at hl
  refine ⟨hl, .inr ⟨w.heap.size, m, _, rfl, Nat.le_refl _, (MapKept.heap_alloc w _).1, Nat.le_refl _, by unfold maxLen; omega, by simpa using hl, ?_⟩⟩
  rw [← hl]
  simp
set_option maxRecDepth 100000 in
set_option maxHeartbeats 4000000 in
theorem toSG_any (m : SG) (w : World) : Calls Try.prog 54 #[sgA m] w fun e w' => e = .returned (sgA m) ∧ Below w.heap.size w w' := by
  unfold sgA
  go_enter Try.func54, Try.ntmps54
  go_wp2
  refine bodyPost_ret (v := sgA m) (by simp [results, Try.results54, go_sem, sgA]) rfl ⟨rfl, ?_⟩
  exact (((Below.refl _ _).alloc (Nat.le_refl _) _).alloc (by simp) _).alloc (by simp; omega) _
set_option maxRecDepth 100000 in
set_option maxHeartbeats 4000000 in
theorem toSGS_any {w : World} {v : Value} {zs : List SG} (h : SGrow w v zs) (hl : zs.length ≤ 1048576) :
    Calls Try.prog 19 #[v] w fun e w' => ∃ u, e = .returned u ∧ w'.ownsRow w.heap.size 86 2 u zs.length (sgR zs) ∧ Below w.heap.size w w' := by
  obtain ⟨ao, cap, rfl⟩ := h.sl
  have hmk := sg_mk w zs.length hl
  have HO : Hid ((w.alloc (.cells (sgR (List.replicate zs.length sg0)).toArray 86)).ownsRow w.heap.size 86 2 (.slice (some ⟨w.heap.size, 0, none⟩) zs.length zs.length) zs.length (sgR (List.replicate zs.length sg0))) := sg_own0 w zs.length hl
  have HR : Hid (SGrow w (.slice ao zs.length cap) zs) := h
  clear h
  go_enter Try.func19, Try.ntmps19
  go_wp2
  go_loopw [4] (fun i wr => ∃ k : Nat, k ≤ zs.length ∧ i = .int .i64 k ∧ wr.ownsRow w.heap.size 86 2 (.slice (some ⟨w.heap.size, 0, none⟩) zs.length zs.length) zs.length (sgR (sgJ k zs)) ∧ Below w.heap.size w wr) (fun i _ => zs.length - (intOf i).toNat)
  case atStart => exact ⟨0, Nat.zero_le _, rfl, by rw [sgJ_zero]; exact HO.out, (Below.refl _ _).alloc (Nat.le_refl _) _⟩
  case round =>
    obtain ⟨k, hk, rfl, hown, hb⟩ := hrel
    clear hmk
    by_cases hlt : k < zs.length
    · obtain ⟨g, o, cap2, hv, _, hg, hc⟩ := HR.out.resolve_left (fun h => by rw [h.1] at hlt; simp at hlt)
      injection hv with hv1 hv2 hv3
      subst hv1 hv3
      obtain ⟨d0, d1⟩ := hc.below hb hg k hlt
      have hlen := sgJ_len k zs hk
      have hown2 : wr.ownsRow w.heap.size 86 2 (.slice (some ⟨w.heap.size, 0, none⟩) (sgJ k zs).length zs.length) (sgJ k zs).length (sgR (sgJ k zs)) := by rw [hlen]; exact hown
      have HOW : Hid (wr.ownsRow w.heap.size 86 2 (.slice (some ⟨w.heap.size, 0, none⟩) (sgJ k zs).length zs.length) (sgJ k zs).length (sgR (sgJ k zs))) := hown2
      have hTO := fun w' => toSG_any zs[k] w'
      have HZ : Hid _ := sgJ_step k zs hlt
      generalize zs[k] = z at *
      have HB : Hid _ := hb
      have hk0 : (0 : Int) ≤ (k : Int) := by omega
      have hk1 : (k : Int) < (zs.length : Int) := by omega
      have hgw : g < wr.heap.size := Nat.lt_of_lt_of_le hg hb.size
      have HTO : Hid _ := hTO
      unfold sgA at HTO
      clear hc hown hown2 hb hTO
      go_wp2_with (go_at_call 54; refine Calls.mono (HTO.out _) ?_; rintro e u5 ⟨rfl, hu5⟩; have HB5 : Hid (Below wr.heap.size wr u5) := hu5; have HO5 : Hid (u5.ownsRow w.heap.size 86 2 (.slice (some ⟨w.heap.size, 0, none⟩) (sgJ k zs).length zs.length) (sgJ k zs).length (sgR (sgJ k zs))) := sg_below HOW.out hu5; obtain ⟨y, y0, y1⟩ := sg_cells HO5.out rfl k (by omega); have hfz := HO5.out.frozenAt; clear hu5)
      have st := own_setSG HO5.out k (by omega) z
      rw [HZ.out, hlen] at st
      have hb6 : Below w.heap.size w u5 := HB.out.trans (HB5.out.mono HB.out.size)
      refine ⟨⟨k + 1, hlt, by simp, st.1, hb6.grown st.2 hb6.size (fun j hj => by cases hj; exact Nat.le_refl _)⟩, ?_⟩
      simp [intOf]
      omega
    · obtain rfl : k = zs.length := by omega
      rw [sgJ_all] at hown
      have HO2 : Hid _ := hown
      clear hown
      go_wp2
      go_ret
      exact ⟨_, rfl, HO2.out, hb⟩
end Go.Proofs.Ythncnffnjjclfab
