import Derived.Test.YtlpkkclmcgnapaaRowDV2
namespace Go.Proofs.Ytlpkkclmcgnapaa
open Go.ChangeShapes Go.WideShapes Go.ChangeAt Go.RowKit

def dv0 : DV := ⟨0, 0, 0⟩
/-- So many are copied. -/
def dvJ (j : Nat) (zs : List DV) : List DV := zs.take j ++ List.replicate (zs.length - j) dv0
theorem dvJ_len (j : Nat) (zs : List DV) (h : j ≤ zs.length) : (dvJ j zs).length = zs.length := by simp [dvJ]; omega
theorem dvJ_step (j : Nat) (zs : List DV) (h : j < zs.length) : (dvJ j zs).set j zs[j] = dvJ (j + 1) zs := by
  unfold dvJ
  have hl : (zs.take j).length = j := by rw [List.length_take]; omega
  rw [List.set_append_right _ _ (by omega), hl, Nat.sub_self, show zs.length - j = (zs.length - (j + 1)) + 1 by omega, List.replicate_succ, List.set_cons_zero, List.take_succ_eq_append_getElem h, List.append_assoc]
  rfl
theorem dvJ_all (zs : List DV) : dvJ zs.length zs = zs := by simp [dvJ]
theorem dvJ_zero (zs : List DV) : dvJ 0 zs = List.replicate zs.length dv0 := by simp [dvJ]
theorem dv_made (m : Nat) : (madeCells #[.int .i64 0, .int .i64 0, .int .i64 0] (m * 3)).toList = dvR (List.replicate m dv0) := by
  apply List.ext_getElem?
  intro i
  by_cases hi : i < m * 3
  · have hq : i = i / 3 * 3 + i % 3 := by omega
    have h2 := dvR_at (List.replicate m dv0) (i / 3) (by rw [List.length_replicate]; omega) (i % 3) (by omega)
    rw [← hq] at h2
    rw [h2, List.getElem_replicate]
    have hl : (madeCells #[.int .i64 0, .int .i64 0, .int .i64 0] (m * 3)).toList.length = m * 3 := by simp [madeCells]
    rw [List.getElem?_eq_getElem (by omega)]
    have : i % 3 < 3 := Nat.mod_lt _ (by omega)
    generalize hr : i % 3 = r at *
    simp only [madeCells, Array.getElem_toList, Array.getElem_map, Array.getElem_range, List.size_toArray, List.length_cons, List.length_nil]
    rw [show i % (0 + 1 + 1 + 1) = r by simpa using hr]
    match r, this with
    | 0, _ => rfl
    | 1, _ => rfl
    | 2, _ => rfl
  · rw [List.getElem?_eq_none (by simp [madeCells]; omega), List.getElem?_eq_none (by rw [dvR_len]; simp; omega)]
theorem dv_zero : (Try.prog.info? 49).map (fun i => (i.zero, i.size)) = some (some (.agg #[.int .i64 0, .int .i64 0, .int .i64 0]), 3) := by kernel_rfl
theorem dv_bytes : ∀ i, Try.prog.info? 49 = some i → i.bytes ≤ 24 := by
  intro i h
  have e : (Try.prog.info? 49).map (fun i => decide (i.bytes ≤ 24)) = some true := by kernel_rfl
  rw [h] at e
  simpa using e
theorem dv_mk (w : World) (m : Nat) (hm : m ≤ 1048576) : (Instr.makeSlice 27 (.int .i64 m) (.int .i64 m)).run Try.prog w = .ok (.slice (some ⟨w.heap.size, 0, none⟩) m m) (w.alloc (.cells (dvR (List.replicate m dv0)).toArray 49)) := by
  have h1 := dv_zero
  cases hq : Try.prog.info? 49 with
  | none => simp [hq] at h1
  | some i =>
    have hb := dv_bytes i hq
    simp [hq] at h1
    have h3 : i.bytes * m ≤ 24 * 1048576 := Nat.mul_le_mul hb hm
    have hbm : (i.bytes : Int) * (m : Int) ≤ 281474976710656 := by
      rw [← Int.natCast_mul]
      omega
    have hr := run_make (P := Try.prog) w 27 49 i _ Try.underlying27 hq h1.1 .i64 .i64 m m (by omega) (by omega) hbm (by omega)
    rw [hr, h1.2]
    simp only [Int.toNat_natCast, Value.cells]
    rw [← dv_made]
theorem dv_own0 (w : World) (m : Nat) (hm : m ≤ 1048576) : (w.alloc (.cells (dvR (List.replicate m dv0)).toArray 49)).ownsRow w.heap.size 49 3 (.slice (some ⟨w.heap.size, 0, none⟩) m m) m (dvR (List.replicate m dv0)) := by
  have hl := dvR_len (List.replicate m dv0)
  rw [List.length_replicate] at hl
  refine ⟨hl, .inr ⟨w.heap.size, m, _, rfl, Nat.le_refl _, (MapKept.heap_alloc w _).1, Nat.le_refl _, by unfold maxLen; omega, by simpa using hl, ?_⟩⟩
  rw [← hl]
  simp
set_option maxRecDepth 100000 in
set_option maxHeartbeats 4000000 in
theorem szDVS_any (ao : Option Addr) (m cap : Nat) (l : Int) (w : World) (h0 : 0 ≤ l) (h1 : l ≤ 1048576) (hm : m ≤ maxLen) : Calls Try.prog 24 #[.slice ao m cap, .int .i64 l] w fun e w' => e = .returned (.int .i64 (if l < (m : Int) then -1 else l - m)) ∧ w' = w := by
  unfold maxLen at hm
  by_cases h : l < (m : Int)
  · rw [if_pos h]
    have h2 : l - (m : Int) < 0 := by omega
    have hw : IntKind.i64.wrap (l - (m : Int)) = l - (m : Int) := by rw [IntKind.wrap_i64]; omega
    have HH : Hid _ := h
    clear hm h h1 h0
    go_enter Try.func24, Try.ntmps24
    go_wp2
    go_ret
    exact ⟨rfl, rfl⟩
  · rw [if_neg h]
    have h2 : ¬ l - (m : Int) < 0 := by omega
    have hw : IntKind.i64.wrap (l - (m : Int)) = l - (m : Int) := by rw [IntKind.wrap_i64]; omega
    clear hm h h1 h0
    go_enter Try.func24, Try.ntmps24
    go_wp2
    go_ret
    exact ⟨rfl, rfl⟩
set_option maxRecDepth 100000 in
set_option maxHeartbeats 4000000 in
theorem toDV_any (m : DV) (w : World) : Calls Try.prog 41 #[dvA m] w fun e w' => e = .returned (dvA m) ∧ Below w.heap.size w w' := by
  unfold dvA
  go_enter Try.func41, Try.ntmps41
  go_wp2
  refine bodyPost_ret (v := dvA m) (by simp [results, Try.results41, go_sem, dvA]) rfl ⟨rfl, ?_⟩
  exact (((Below.refl _ _).alloc (Nat.le_refl _) _).alloc (by simp) _).alloc (by simp; omega) _
set_option maxRecDepth 100000 in
set_option maxHeartbeats 4000000 in
theorem toDVS_any {w : World} {v : Value} {zs : List DV} (h : DVrow w v zs) (hl : zs.length ≤ 1048576) :
    Calls Try.prog 25 #[v] w fun e w' => ∃ u, e = .returned u ∧ w'.ownsRow w.heap.size 49 3 u zs.length (dvR zs) ∧ Below w.heap.size w w' := by
  obtain ⟨ao, cap, rfl⟩ := h.sl
  have hmk := dv_mk w zs.length hl
  have HO : Hid ((w.alloc (.cells (dvR (List.replicate zs.length dv0)).toArray 49)).ownsRow w.heap.size 49 3 (.slice (some ⟨w.heap.size, 0, none⟩) zs.length zs.length) zs.length (dvR (List.replicate zs.length dv0))) := dv_own0 w zs.length hl
  have HR : Hid (DVrow w (.slice ao zs.length cap) zs) := h
  clear h
  go_enter Try.func25, Try.ntmps25
  go_wp2
  go_loopw [4] (fun i wr => ∃ k : Nat, k ≤ zs.length ∧ i = .int .i64 k ∧ wr.ownsRow w.heap.size 49 3 (.slice (some ⟨w.heap.size, 0, none⟩) zs.length zs.length) zs.length (dvR (dvJ k zs)) ∧ Below w.heap.size w wr) (fun i _ => zs.length - (intOf i).toNat)
  case atStart => exact ⟨0, Nat.zero_le _, rfl, by rw [dvJ_zero]; exact HO.out, (Below.refl _ _).alloc (Nat.le_refl _) _⟩
  case round =>
    obtain ⟨k, hk, rfl, hown, hb⟩ := hrel
    clear hmk
    by_cases hlt : k < zs.length
    · obtain ⟨g, o, cap2, hv, _, hg, hc⟩ := HR.out.resolve_left (fun h => by rw [h.1] at hlt; simp at hlt)
      injection hv with hv1 hv2 hv3
      subst hv1 hv3
      obtain ⟨d0, d1, d2⟩ := hc.below hb hg k hlt
      have hlen := dvJ_len k zs hk
      have hown2 : wr.ownsRow w.heap.size 49 3 (.slice (some ⟨w.heap.size, 0, none⟩) (dvJ k zs).length zs.length) (dvJ k zs).length (dvR (dvJ k zs)) := by rw [hlen]; exact hown
      have HOW : Hid (wr.ownsRow w.heap.size 49 3 (.slice (some ⟨w.heap.size, 0, none⟩) (dvJ k zs).length zs.length) (dvJ k zs).length (dvR (dvJ k zs))) := hown2
      have hTO := fun w' => toDV_any zs[k] w'
      have HZ : Hid _ := dvJ_step k zs hlt
      generalize zs[k] = z at *
      have HB : Hid _ := hb
      have hk0 : (0 : Int) ≤ (k : Int) := by omega
      have hk1 : (k : Int) < (zs.length : Int) := by omega
      have hgw : g < wr.heap.size := Nat.lt_of_lt_of_le hg hb.size
      have HTO : Hid _ := hTO
      unfold dvA at HTO
      clear hc hown hown2 hb hTO
      go_wp2_with (go_at_call 41; refine Calls.mono (HTO.out _) ?_; rintro e u5 ⟨rfl, hu5⟩; have HB5 : Hid (Below wr.heap.size wr u5) := hu5; have HO5 : Hid (u5.ownsRow w.heap.size 49 3 (.slice (some ⟨w.heap.size, 0, none⟩) (dvJ k zs).length zs.length) (dvJ k zs).length (dvR (dvJ k zs))) := dv_below HOW.out hu5; obtain ⟨y, y0, y1, y2⟩ := dv_cells HO5.out rfl k (by omega); have hfz := HO5.out.frozenAt; clear hu5)
      have st := own_setDV HO5.out k (by omega) z
      rw [HZ.out, hlen] at st
      have hb6 : Below w.heap.size w u5 := HB.out.trans (HB5.out.mono HB.out.size)
      refine ⟨⟨k + 1, hlt, by simp, st.1, hb6.grown st.2 hb6.size (fun j hj => by cases hj; exact Nat.le_refl _)⟩, ?_⟩
      simp [intOf]
      omega
    · obtain rfl : k = zs.length := by omega
      rw [dvJ_all] at hown
      have HO2 : Hid _ := hown
      clear hown
      go_wp2
      go_ret
      exact ⟨_, rfl, HO2.out, hb⟩
end Go.Proofs.Ytlpkkclmcgnapaa
