import Derived.Test.YtappocopgckhkaaRowFT2
namespace Go.Proofs.Ytappocopgckhkaa
open Go.ChangeShapes Go.WideShapes Go.ChangeAt Go.RowKit

def ft0 : FT := ⟨⟨#[]⟩, 0, ⟨#[]⟩⟩
/-- So many are copied. -/
def ftJ (j : Nat) (zs : List FT) : List FT := zs.take j ++ List.replicate (zs.length - j) ft0
theorem ftJ_len (j : Nat) (zs : List FT) (h : j ≤ zs.length) : (ftJ j zs).length = zs.length := by simp [ftJ]; omega
theorem ftJ_step (j : Nat) (zs : List FT) (h : j < zs.length) : (ftJ j zs).set j zs[j] = ftJ (j + 1) zs := by
  unfold ftJ
  have hl : (zs.take j).length = j := by rw [List.length_take]; omega
  rw [List.set_append_right _ _ (by omega), hl, Nat.sub_self, show zs.length - j = (zs.length - (j + 1)) + 1 by omega, List.replicate_succ, List.set_cons_zero, List.take_succ_eq_append_getElem h, List.append_assoc]
  rfl
theorem ftJ_all (zs : List FT) : ftJ zs.length zs = zs := by simp [ftJ]
theorem ftJ_zero (zs : List FT) : ftJ 0 zs = List.replicate zs.length ft0 := by simp [ftJ]
theorem ft_made (m : Nat) : (madeCells #[.string ⟨#[]⟩, .int .i64 0, .string ⟨#[]⟩] (m * 3)).toList = ftR (List.replicate m ft0) := by
  apply List.ext_getElem?
  intro i
  by_cases hi : i < m * 3
  · have hq : i = i / 3 * 3 + i % 3 := by omega
    have h2 := ftR_at (List.replicate m ft0) (i / 3) (by rw [List.length_replicate]; omega) (i % 3) (by omega)
    rw [← hq] at h2
    rw [h2, List.getElem_replicate]
    have hl : (madeCells #[.string ⟨#[]⟩, .int .i64 0, .string ⟨#[]⟩] (m * 3)).toList.length = m * 3 := by simp [madeCells]
    rw [List.getElem?_eq_getElem (by omega)]
    have : i % 3 < 3 := Nat.mod_lt _ (by omega)
    generalize hr : i % 3 = r at *
    simp only [madeCells, Array.getElem_toList, Array.getElem_map, Array.getElem_range, List.size_toArray, List.length_cons, List.length_nil]
    rw [show i % (0 + 1 + 1 + 1) = r by simpa using hr]
    match r, this with
    | 0, _ => rfl
    | 1, _ => rfl
    | 2, _ => rfl
  · rw [List.getElem?_eq_none (by simp [madeCells]; omega), List.getElem?_eq_none (by rw [ftR_len]; simp; omega)]
theorem ft_zero : (Try.prog.info? 55).map (fun i => (i.zero, i.size)) = some (some (.agg #[.string ⟨#[]⟩, .int .i64 0, .string ⟨#[]⟩]), 3) := by kernel_rfl
theorem ft_bytes : ∀ i, Try.prog.info? 55 = some i → i.bytes ≤ 40 := by
  intro i h
  have e : (Try.prog.info? 55).map (fun i => decide (i.bytes ≤ 40)) = some true := by kernel_rfl
  rw [h] at e
  simpa using e
theorem ft_mk (w : World) (m : Nat) (hm : m ≤ 1048576) : (Instr.makeSlice 30 (.int .i64 m) (.int .i64 m)).run Try.prog w = .ok (.slice (some ⟨w.heap.size, 0, none⟩) m m) (w.alloc (.cells (ftR (List.replicate m ft0)).toArray 55)) := by
  have h1 := ft_zero
  cases hq : Try.prog.info? 55 with
  | none => simp [hq] at h1
  | some i =>
    have hb := ft_bytes i hq
    simp [hq] at h1
    have h3 : i.bytes * m ≤ 40 * 1048576 := Nat.mul_le_mul hb hm
    have hbm : (i.bytes : Int) * (m : Int) ≤ 281474976710656 := by
      rw [← Int.natCast_mul]
      omega
    have hr := run_make (P := Try.prog) w 30 55 i _ Try.underlying30 hq h1.1 .i64 .i64 m m (by omega) (by omega) hbm (by omega)
    rw [hr, h1.2]
    simp only [Int.toNat_natCast, Value.cells]
    rw [← ft_made]
theorem ft_own0 (w : World) (m : Nat) (hm : m ≤ 1048576) : (w.alloc (.cells (ftR (List.replicate m ft0)).toArray 55)).ownsRow w.heap.size 55 3 (.slice (some ⟨w.heap.size, 0, none⟩) m m) m (ftR (List.replicate m ft0)) := by
  have hl := ftR_len (List.replicate m ft0)
  rw [List.length_replicate] at hl
  refine ⟨hl, .inr ⟨w.heap.size, m, _, rfl, Nat.le_refl _, (MapKept.heap_alloc w _).1, Nat.le_refl _, by unfold maxLen; omega, by simpa using hl, ?_⟩⟩
  rw [← hl]
  simp
set_option maxRecDepth 100000 in
set_option maxHeartbeats 4000000 in
theorem toFT_any (m : FT) (w : World) : Calls Try.prog 37 #[ftA m] w fun e w' => e = .returned (ftA m) ∧ Below w.heap.size w w' := by
  unfold ftA
  go_enter Try.func37, Try.ntmps37
  go_wp2
  refine bodyPost_ret (v := ftA m) (by simp [results, Try.results37, go_sem, ftA]) rfl ⟨rfl, ?_⟩
  exact (((Below.refl _ _).alloc (Nat.le_refl _) _).alloc (by simp) _).alloc (by simp; omega) _
set_option maxRecDepth 100000 in
set_option maxHeartbeats 4000000 in
theorem toFTS_any {w : World} {v : Value} {zs : List FT} (h : FTrow w v zs) (hl : zs.length ≤ 1048576) :
    Calls Try.prog 12 #[v] w fun e w' => ∃ u, e = .returned u ∧ w'.ownsRow w.heap.size 55 3 u zs.length (ftR zs) ∧ Below w.heap.size w w' := by
  obtain ⟨ao, cap, rfl⟩ := h.sl
  have hmk := ft_mk w zs.length hl
  have HO : Hid ((w.alloc (.cells (ftR (List.replicate zs.length ft0)).toArray 55)).ownsRow w.heap.size 55 3 (.slice (some ⟨w.heap.size, 0, none⟩) zs.length zs.length) zs.length (ftR (List.replicate zs.length ft0))) := ft_own0 w zs.length hl
  have HR : Hid (FTrow w (.slice ao zs.length cap) zs) := h
  clear h
  go_enter Try.func12, Try.ntmps12
  go_wp2
  go_loopw [4] (fun i wr => ∃ k : Nat, k ≤ zs.length ∧ i = .int .i64 k ∧ wr.ownsRow w.heap.size 55 3 (.slice (some ⟨w.heap.size, 0, none⟩) zs.length zs.length) zs.length (ftR (ftJ k zs)) ∧ Below w.heap.size w wr) (fun i _ => zs.length - (intOf i).toNat)
  case atStart => exact ⟨0, Nat.zero_le _, rfl, by rw [ftJ_zero]; exact HO.out, (Below.refl _ _).alloc (Nat.le_refl _) _⟩
  case round =>
    obtain ⟨k, hk, rfl, hown, hb⟩ := hrel
    clear hmk
    by_cases hlt : k < zs.length
    · obtain ⟨g, o, cap2, hv, _, hg, hc⟩ := HR.out.resolve_left (fun h => by rw [h.1] at hlt; simp at hlt)
      injection hv with hv1 hv2 hv3
      subst hv1 hv3
      obtain ⟨d0, d1, d2⟩ := hc.below hb hg k hlt
      have hlen := ftJ_len k zs hk
      have hown2 : wr.ownsRow w.heap.size 55 3 (.slice (some ⟨w.heap.size, 0, none⟩) (ftJ k zs).length zs.length) (ftJ k zs).length (ftR (ftJ k zs)) := by rw [hlen]; exact hown
      have HOW : Hid (wr.ownsRow w.heap.size 55 3 (.slice (some ⟨w.heap.size, 0, none⟩) (ftJ k zs).length zs.length) (ftJ k zs).length (ftR (ftJ k zs))) := hown2
      have hTO := fun w' => toFT_any zs[k] w'
      have HZ : Hid _ := ftJ_step k zs hlt
      generalize zs[k] = z at *
      have HB : Hid _ := hb
      have hk0 : (0 : Int) ≤ (k : Int) := by omega
      have hk1 : (k : Int) < (zs.length : Int) := by omega
      have hgw : g < wr.heap.size := Nat.lt_of_lt_of_le hg hb.size
      have HTO : Hid _ := hTO
      unfold ftA at HTO
      clear hc hown hown2 hb hTO
      go_wp2_with (go_at_call 37; refine Calls.mono (HTO.out _) ?_; rintro e u5 ⟨rfl, hu5⟩; have HB5 : Hid (Below wr.heap.size wr u5) := hu5; have HO5 : Hid (u5.ownsRow w.heap.size 55 3 (.slice (some ⟨w.heap.size, 0, none⟩) (ftJ k zs).length zs.length) (ftJ k zs).length (ftR (ftJ k zs))) := ft_below HOW.out hu5; obtain ⟨y, y0, y1, y2⟩ := ft_cells HO5.out rfl k (by omega); have hfz := HO5.out.frozenAt; clear hu5)
      have st := own_setFT HO5.out k (by omega) z
      rw [HZ.out, hlen] at st
      have hb6 : Below w.heap.size w u5 := HB.out.trans (HB5.out.mono HB.out.size)
      refine ⟨⟨k + 1, hlt, by simp, st.1, hb6.grown st.2 hb6.size (fun j hj => by cases hj; exact Nat.le_refl _)⟩, ?_⟩
      simp [intOf]
      omega
    · obtain rfl : k = zs.length := by omega
      rw [ftJ_all] at hown
      have HO2 : Hid _ := hown
      clear hown
      go_wp2
      go_ret
      exact ⟨_, rfl, HO2.out, hb⟩
end Go.Proofs.Ytappocopgckhkaa
