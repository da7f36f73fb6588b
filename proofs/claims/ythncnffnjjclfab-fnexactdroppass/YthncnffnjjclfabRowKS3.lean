import Derived.Test.YthncnffnjjclfabRowKS2
namespace Go.Proofs.Ythncnffnjjclfab
open Go.ChangeShapes Go.WideShapes Go.ChangeAt Go.RowKit

def ks0 : KS := ⟨0, ⟨#[]⟩, ⟨#[]⟩⟩
/-- So many are copied. -/
def ksJ (j : Nat) (zs : List KS) : List KS := zs.take j ++ List.replicate (zs.length - j) ks0
theorem ksJ_len (j : Nat) (zs : List KS) (h : j ≤ zs.length) : (ksJ j zs).length = zs.length := by simp [ksJ]; omega
theorem ksJ_step (j : Nat) (zs : List KS) (h : j < zs.length) : (ksJ j zs).set j zs[j] = ksJ (j + 1) zs := by
  unfold ksJ
  have hl : (zs.take j).length = j := by rw [List.length_take]; omega
  rw [List.set_append_right _ _ (by omega), hl, Nat.sub_self, show zs.length - j = (zs.length - (j + 1)) + 1 by omega, List.replicate_succ, List.set_cons_zero, List.take_succ_eq_append_getElem h, List.append_assoc]
  rfl
theorem ksJ_all (zs : List KS) : ksJ zs.length zs = zs := by simp [ksJ]
theorem ksJ_zero (zs : List KS) : ksJ 0 zs = List.replicate zs.length ks0 := by simp [ksJ]
theorem ks_made (m : Nat) : (madeCells #[.int .i64 0, .string ⟨#[]⟩, .string ⟨#[]⟩] (m * 3)).toList = ksR (List.replicate m ks0) := by
  apply List.ext_getElem?
  intro i
  by_cases hi : i < m * 3
  · have hq : i = i / 3 * 3 + i % 3 := by omega
    have h2 := ksR_at (List.replicate m ks0) (i / 3) (by rw [List.length_replicate]; omega) (i % 3) (by omega)
    rw [← hq] at h2
    rw [h2, List.getElem_replicate]
    have hl : (madeCells #[.int .i64 0, .string ⟨#[]⟩, .string ⟨#[]⟩] (m * 3)).toList.length = m * 3 := by simp [madeCells]
    rw [List.getElem?_eq_getElem (by omega)]
    have : i % 3 < 3 := Nat.mod_lt _ (by omega)
    generalize hr : i % 3 = r at *
    simp only [madeCells, Array.getElem_toList, Array.getElem_map, Array.getElem_range, List.size_toArray, List.length_cons, List.length_nil]
    rw [show i % (0 + 1 + 1 + 1) = r by simpa using hr]
    match r, this with
    | 0, _ => rfl
    | 1, _ => rfl
    | 2, _ => rfl
  · rw [List.getElem?_eq_none (by simp [madeCells]; omega), List.getElem?_eq_none (by rw [ksR_len]; simp; omega)]
theorem ks_zero : (Try.prog.info? 79).map (fun i => (i.zero, i.size)) = some (some (.agg #[.int .i64 0, .string ⟨#[]⟩, .string ⟨#[]⟩]), 3) := by kernel_rfl
theorem ks_bytes : ∀ i, Try.prog.info? 79 = some i → i.bytes ≤ 40 := by
  intro i h
  have e : (Try.prog.info? 79).map (fun i => decide (i.bytes ≤ 40)) = some true := by kernel_rfl
  rw [h] at e
  simpa using e
theorem ks_mk (w : World) (m : Nat) (hm : m ≤ 1048576) : (Instr.makeSlice 26 (.int .i64 m) (.int .i64 m)).run Try.prog w = .ok (.slice (some ⟨w.heap.size, 0, none⟩) m m) (w.alloc (.cells (ksR (List.replicate m ks0)).toArray 79)) := by
  have h1 := ks_zero
  cases hq : Try.prog.info? 79 with
  | none => simp [hq] at h1
  | some i =>
    have hb := ks_bytes i hq
    simp [hq] at h1
    have h3 : i.bytes * m ≤ 40 * 1048576 := Nat.mul_le_mul hb hm
    have hbm : (i.bytes : Int) * (m : Int) ≤ 281474976710656 := by
      rw [← Int.natCast_mul]
      omega
    have hr := run_make (P := Try.prog) w 26 79 i _ Try.underlying26 hq h1.1 .i64 .i64 m m (by omega) (by omega) hbm (by omega)
    rw [hr, h1.2]
    simp only [Int.toNat_natCast, Value.cells]
    rw [← ks_made]
theorem ks_own0 (w : World) (m : Nat) (hm : m ≤ 1048576) : (w.alloc (.cells (ksR (List.replicate m ks0)).toArray 79)).ownsRow w.heap.size 79 3 (.slice (some ⟨w.heap.size, 0, none⟩) m m) m (ksR (List.replicate m ks0)) := by
  have hl := ksR_len (List.replicate m ks0)
  rw [List.length_replicate] at hl
  refine ⟨hl, .inr ⟨w.heap.size, m, _, rfl, Nat.le_refl _, (MapKept.heap_alloc w _).1, Nat.le_refl _, by unfold maxLen; omega, by simpa using hl, ?_⟩⟩
  rw [← hl]
  simp
set_option maxRecDepth 100000 in
set_option maxHeartbeats 4000000 in
theorem toKS_any (m : KS) (w : World) : Calls Try.prog 90 #[ksA m] w fun e w' => e = .returned (ksA m) ∧ Below w.heap.size w w' := by
  unfold ksA
  go_enter Try.func90, Try.ntmps90
  go_wp2
  refine bodyPost_ret (v := ksA m) (by simp [results, Try.results90, go_sem, ksA]) rfl ⟨rfl, ?_⟩
  exact (((Below.refl _ _).alloc (Nat.le_refl _) _).alloc (by simp) _).alloc (by simp; omega) _
set_option maxRecDepth 100000 in
set_option maxHeartbeats 4000000 in
theorem toKSS_any {w : World} {v : Value} {zs : List KS} (h : KSrow w v zs) (hl : zs.length ≤ 1048576) :
    Calls Try.prog 42 #[v] w fun e w' => ∃ u, e = .returned u ∧ w'.ownsRow w.heap.size 79 3 u zs.length (ksR zs) ∧ Below w.heap.size w w' := by
  obtain ⟨ao, cap, rfl⟩ := h.sl
  have hmk := ks_mk w zs.length hl
  have HO : Hid ((w.alloc (.cells (ksR (List.replicate zs.length ks0)).toArray 79)).ownsRow w.heap.size 79 3 (.slice (some ⟨w.heap.size, 0, none⟩) zs.length zs.length) zs.length (ksR (List.replicate zs.length ks0))) := ks_own0 w zs.length hl
  have HR : Hid (KSrow w (.slice ao zs.length cap) zs) := h
  clear h
  go_enter Try.func42, Try.ntmps42
  go_wp2
  go_loopw [4] (fun i wr => ∃ k : Nat, k ≤ zs.length ∧ i = .int .i64 k ∧ wr.ownsRow w.heap.size 79 3 (.slice (some ⟨w.heap.size, 0, none⟩) zs.length zs.length) zs.length (ksR (ksJ k zs)) ∧ Below w.heap.size w wr) (fun i _ => zs.length - (intOf i).toNat)
  case atStart => exact ⟨0, Nat.zero_le _, rfl, by rw [ksJ_zero]; exact HO.out, (Below.refl _ _).alloc (Nat.le_refl _) _⟩
  case round =>
    obtain ⟨k, hk, rfl, hown, hb⟩ := hrel
    clear hmk
    by_cases hlt : k < zs.length
    · obtain ⟨g, o, cap2, hv, _, hg, hc⟩ := HR.out.resolve_left (fun h => by rw [h.1] at hlt; simp at hlt)
      injection hv with hv1 hv2 hv3
      subst hv1 hv3
      obtain ⟨d0, d1, d2⟩ := hc.below hb hg k hlt
      have hlen := ksJ_len k zs hk
      have hown2 : wr.ownsRow w.heap.size 79 3 (.slice (some ⟨w.heap.size, 0, none⟩) (ksJ k zs).length zs.length) (ksJ k zs).length (ksR (ksJ k zs)) := by rw [hlen]; exact hown
      have HOW : Hid (wr.ownsRow w.heap.size 79 3 (.slice (some ⟨w.heap.size, 0, none⟩) (ksJ k zs).length zs.length) (ksJ k zs).length (ksR (ksJ k zs))) := hown2
      have hTO := fun w' => toKS_any zs[k] w'
      have HZ : Hid _ := ksJ_step k zs hlt
      generalize zs[k] = z at *
      have HB : Hid _ := hb
      have hk0 : (0 : Int) ≤ (k : Int) := by omega
      have hk1 : (k : Int) < (zs.length : Int) := by omega
      have hgw : g < wr.heap.size := Nat.lt_of_lt_of_le hg hb.size
      have HTO : Hid _ := hTO
      unfold ksA at HTO
      clear hc hown hown2 hb hTO
      go_wp2_with (go_at_call 90; refine Calls.mono (HTO.out _) ?_; rintro e u5 ⟨rfl, hu5⟩; have HB5 : Hid (Below wr.heap.size wr u5) := hu5; have HO5 : Hid (u5.ownsRow w.heap.size 79 3 (.slice (some ⟨w.heap.size, 0, none⟩) (ksJ k zs).length zs.length) (ksJ k zs).length (ksR (ksJ k zs))) := ks_below HOW.out hu5; obtain ⟨y, y0, y1, y2⟩ := ks_cells HO5.out rfl k (by omega); have hfz := HO5.out.frozenAt; clear hu5)
      have st := own_setKS HO5.out k (by omega) z
      rw [HZ.out, hlen] at st
      have hb6 : Below w.heap.size w u5 := HB.out.trans (HB5.out.mono HB.out.size)
      refine ⟨⟨k + 1, hlt, by simp, st.1, hb6.grown st.2 hb6.size (fun j hj => by cases hj; exact Nat.le_refl _)⟩, ?_⟩
      simp [intOf]
      omega
    · obtain rfl : k = zs.length := by omega
      rw [ksJ_all] at hown
      have HO2 : Hid _ := hown
      clear hown
      go_wp2
      go_ret
      exact ⟨_, rfl, HO2.out, hb⟩
end Go.Proofs.Ythncnffnjjclfab
