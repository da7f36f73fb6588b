import Derived.Test.YtcglpigmellfcaaRowVC2
namespace Go.Proofs.Ytcglpigmellfcaa
open Go.ChangeShapes Go.WideShapes Go.ChangeAt Go.RowKit

def vc0 : VC := ⟨0, 0, 0, 0, false, 0, 0, 0, 0⟩
/-- So many are copied. -/
def vcJ (j : Nat) (zs : List VC) : List VC := zs.take j ++ List.replicate (zs.length - j) vc0
theorem vcJ_len (j : Nat) (zs : List VC) (h : j ≤ zs.length) : (vcJ j zs).length = zs.length := by simp [vcJ]; omega
theorem vcJ_step (j : Nat) (zs : List VC) (h : j < zs.length) : (vcJ j zs).set j zs[j] = vcJ (j + 1) zs := by
  unfold vcJ
  have hl : (zs.take j).length = j := by rw [List.length_take]; omega
  rw [List.set_append_right _ _ (by omega), hl, Nat.sub_self, show zs.length - j = (zs.length - (j + 1)) + 1 by omega, List.replicate_succ, List.set_cons_zero, List.take_succ_eq_append_getElem h, List.append_assoc]
  rfl
theorem vcJ_all (zs : List VC) : vcJ zs.length zs = zs := by simp [vcJ]
theorem vcJ_zero (zs : List VC) : vcJ 0 zs = List.replicate zs.length vc0 := by simp [vcJ]
theorem vc_made (m : Nat) : (madeCells #[.int .i64 0, .int .i64 0, .int .i64 0, .int .i64 0, .bool false, .int .i64 0, .int .i64 0, .int .i64 0, .int .i64 0] (m * 9)).toList = vcR (List.replicate m vc0) := by
  apply List.ext_getElem?
  intro i
  by_cases hi : i < m * 9
  · have hq : i = i / 9 * 9 + i % 9 := by omega
    have h2 := vcR_at (List.replicate m vc0) (i / 9) (by rw [List.length_replicate]; omega) (i % 9) (by omega)
    rw [← hq] at h2
    rw [h2, List.getElem_replicate]
    have hl : (madeCells #[.int .i64 0, .int .i64 0, .int .i64 0, .int .i64 0, .bool false, .int .i64 0, .int .i64 0, .int .i64 0, .int .i64 0] (m * 9)).toList.length = m * 9 := by simp [madeCells]
    rw [List.getElem?_eq_getElem (by omega)]
    have : i % 9 < 9 := Nat.mod_lt _ (by omega)
    generalize hr : i % 9 = r at *
    simp only [madeCells, Array.getElem_toList, Array.getElem_map, Array.getElem_range, List.size_toArray, List.length_cons, List.length_nil]
    rw [show i % (0 + 1 + 1 + 1 + 1 + 1 + 1 + 1 + 1 + 1) = r by simpa using hr]
    match r, this with
    | 0, _ => rfl
    | 1, _ => rfl
    | 2, _ => rfl
    | 3, _ => rfl
    | 4, _ => rfl
    | 5, _ => rfl
    | 6, _ => rfl
    | 7, _ => rfl
    | 8, _ => rfl
  · rw [List.getElem?_eq_none (by simp [madeCells]; omega), List.getElem?_eq_none (by rw [vcR_len]; simp; omega)]
theorem vc_zero : (Try.prog.info? 60).map (fun i => (i.zero, i.size)) = some (some (.agg #[.int .i64 0, .int .i64 0, .int .i64 0, .int .i64 0, .bool false, .int .i64 0, .int .i64 0, .int .i64 0, .int .i64 0]), 9) := by kernel_rfl
theorem vc_bytes : ∀ i, Try.prog.info? 60 = some i → i.bytes ≤ 72 := by
  intro i h
  have e : (Try.prog.info? 60).map (fun i => decide (i.bytes ≤ 72)) = some true := by kernel_rfl
  rw [h] at e
  simpa using e
theorem vc_mk (w : World) (m : Nat) (hm : m ≤ 1048576) : (Instr.makeSlice 25 (.int .i64 m) (.int .i64 m)).run Try.prog w = .ok (.slice (some ⟨w.heap.size, 0, none⟩) m m) (w.alloc (.cells (vcR (List.replicate m vc0)).toArray 60)) := by
  have h1 := vc_zero
  cases hq : Try.prog.info? 60 with
  | none => simp [hq] at h1
  | some i =>
    have hb := vc_bytes i hq
    simp [hq] at h1
    have h3 : i.bytes * m ≤ 72 * 1048576 := Nat.mul_le_mul hb hm
    have hbm : (i.bytes : Int) * (m : Int) ≤ 281474976710656 := by
      rw [← Int.natCast_mul]
      omega
    have hr := run_make (P := Try.prog) w 25 60 i _ Try.underlying25 hq h1.1 .i64 .i64 m m (by omega) (by omega) hbm (by omega)
    rw [hr, h1.2]
    simp only [Int.toNat_natCast, Value.cells]
    rw [← vc_made]
theorem vc_own0 (w : World) (m : Nat) (hm : m ≤ 1048576) : (w.alloc (.cells (vcR (List.replicate m vc0)).toArray 60)).ownsRow w.heap.size 60 9 (.slice (some ⟨w.heap.size, 0, none⟩) m m) m (vcR (List.replicate m vc0)) := by
  have hl := vcR_len (List.replicate m vc0)
  rw [List.length_replicate] at hl
  refine ⟨hl, .inr ⟨w.heap.size, m, _, rfl, Nat.le_refl _, (MapKept.heap_alloc w _).1, Nat.le_refl _, by unfold maxLen; omega, by simpa using hl, ?_⟩⟩
  rw [← hl]
  simp
set_option maxRecDepth 100000 in
set_option maxHeartbeats 4000000 in
theorem szVCS_any (ao : Option Addr) (m cap : Nat) (l : Int) (w : World) (h0 : 0 ≤ l) (h1 : l ≤ 1048576) (hm : m ≤ maxLen) : Calls Try.prog 9 #[.slice ao m cap, .int .i64 l] w fun e w' => e = .returned (.int .i64 (if l < (m : Int) then -1 else l - m)) ∧ w' = w := by
  unfold maxLen at hm
  by_cases h : l < (m : Int)
  · rw [if_pos h]
    have h2 : l - (m : Int) < 0 := by omega
    have hw : IntKind.i64.wrap (l - (m : Int)) = l - (m : Int) := by rw [IntKind.wrap_i64]; omega
    have HH : Hid _ := h
    clear hm h h1 h0
    go_enter Try.func9, Try.ntmps9
    go_wp2
    go_ret
    exact ⟨rfl, rfl⟩
  · rw [if_neg h]
    have h2 : ¬ l - (m : Int) < 0 := by omega
    have hw : IntKind.i64.wrap (l - (m : Int)) = l - (m : Int) := by rw [IntKind.wrap_i64]; omega
    clear hm h h1 h0
    go_enter Try.func9, Try.ntmps9
    go_wp2
    go_ret
    exact ⟨rfl, rfl⟩
set_option maxRecDepth 100000 in
set_option maxHeartbeats 4000000 in
theorem toVC_any (m : VC) (w : World) : Calls Try.prog 39 #[vcA m] w fun e w' => e = .returned (vcA m) ∧ Below w.heap.size w w' := by
  unfold vcA
  go_enter Try.func39, Try.ntmps39
  go_wp2
  refine bodyPost_ret (v := vcA m) (by simp [results, Try.results39, go_sem, vcA]) rfl ⟨rfl, ?_⟩
  exact (((Below.refl _ _).alloc (Nat.le_refl _) _).alloc (by simp) _).alloc (by simp; omega) _
set_option maxRecDepth 100000 in
set_option maxHeartbeats 4000000 in
theorem toVCS_any {w : World} {v : Value} {zs : List VC} (h : VCrow w v zs) (hl : zs.length ≤ 1048576) :
    Calls Try.prog 11 #[v] w fun e w' => ∃ u, e = .returned u ∧ w'.ownsRow w.heap.size 60 9 u zs.length (vcR zs) ∧ Below w.heap.size w w' := by
  obtain ⟨ao, cap, rfl⟩ := h.sl
  have hmk := vc_mk w zs.length hl
  have HO : Hid ((w.alloc (.cells (vcR (List.replicate zs.length vc0)).toArray 60)).ownsRow w.heap.size 60 9 (.slice (some ⟨w.heap.size, 0, none⟩) zs.length zs.length) zs.length (vcR (List.replicate zs.length vc0))) := vc_own0 w zs.length hl
  have HR : Hid (VCrow w (.slice ao zs.length cap) zs) := h
  clear h
  go_enter Try.func11, Try.ntmps11
  go_wp2
  go_loopw [4] (fun i wr => ∃ k : Nat, k ≤ zs.length ∧ i = .int .i64 k ∧ wr.ownsRow w.heap.size 60 9 (.slice (some ⟨w.heap.size, 0, none⟩) zs.length zs.length) zs.length (vcR (vcJ k zs)) ∧ Below w.heap.size w wr) (fun i _ => zs.length - (intOf i).toNat)
  case atStart => exact ⟨0, Nat.zero_le _, rfl, by rw [vcJ_zero]; exact HO.out, (Below.refl _ _).alloc (Nat.le_refl _) _⟩
  case round =>
    obtain ⟨k, hk, rfl, hown, hb⟩ := hrel
    clear hmk
    by_cases hlt : k < zs.length
    · obtain ⟨g, o, cap2, hv, _, hg, hc⟩ := HR.out.resolve_left (fun h => by rw [h.1] at hlt; simp at hlt)
      injection hv with hv1 hv2 hv3
      subst hv1 hv3
      obtain ⟨d0, d1, d2, d3, d4, d5, d6, d7, d8⟩ := hc.below hb hg k hlt
      have hlen := vcJ_len k zs hk
      have hown2 : wr.ownsRow w.heap.size 60 9 (.slice (some ⟨w.heap.size, 0, none⟩) (vcJ k zs).length zs.length) (vcJ k zs).length (vcR (vcJ k zs)) := by rw [hlen]; exact hown
      have HOW : Hid (wr.ownsRow w.heap.size 60 9 (.slice (some ⟨w.heap.size, 0, none⟩) (vcJ k zs).length zs.length) (vcJ k zs).length (vcR (vcJ k zs))) := hown2
      have hTO := fun w' => toVC_any zs[k] w'
      have HZ : Hid _ := vcJ_step k zs hlt
      generalize zs[k] = z at *
      have HB : Hid _ := hb
      have hk0 : (0 : Int) ≤ (k : Int) := by omega
      have hk1 : (k : Int) < (zs.length : Int) := by omega
      have hgw : g < wr.heap.size := Nat.lt_of_lt_of_le hg hb.size
      have HTO : Hid _ := hTO
      unfold vcA at HTO
      clear hc hown hown2 hb hTO
      go_wp2_with (go_at_call 39; refine Calls.mono (HTO.out _) ?_; rintro e u5 ⟨rfl, hu5⟩; have HB5 : Hid (Below wr.heap.size wr u5) := hu5; have HO5 : Hid (u5.ownsRow w.heap.size 60 9 (.slice (some ⟨w.heap.size, 0, none⟩) (vcJ k zs).length zs.length) (vcJ k zs).length (vcR (vcJ k zs))) := vc_below HOW.out hu5; obtain ⟨y, y0, y1, y2, y3, y4, y5, y6, y7, y8⟩ := vc_cells HO5.out rfl k (by omega); have hfz := HO5.out.frozenAt; clear hu5)
      have st := own_setVC HO5.out k (by omega) z
      rw [HZ.out, hlen] at st
      have hb6 : Below w.heap.size w u5 := HB.out.trans (HB5.out.mono HB.out.size)
      refine ⟨⟨k + 1, hlt, by simp, st.1, hb6.grown st.2 hb6.size (fun j hj => by cases hj; exact Nat.le_refl _)⟩, ?_⟩
      simp [intOf]
      omega
    · obtain rfl : k = zs.length := by omega
      rw [vcJ_all] at hown
      have HO2 : Hid _ := hown
      clear hown
      go_wp2
      go_ret
      exact ⟨_, rfl, HO2.out, hb⟩
end Go.Proofs.Ytcglpigmellfcaa
