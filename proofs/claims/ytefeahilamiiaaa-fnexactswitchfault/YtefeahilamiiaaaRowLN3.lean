import Derived.Test.YtefeahilamiiaaaRowLN2
namespace Go.Proofs.Ytefeahilamiiaaa
open Go.ChangeShapes Go.WideShapes Go.ChangeAt Go.RowKit

def ln0 : LN := ⟨0, 0, false, false, false⟩
/-- So many are copied. -/
def lnJ (j : Nat) (zs : List LN) : List LN := zs.take j ++ List.replicate (zs.length - j) ln0
theorem lnJ_len (j : Nat) (zs : List LN) (h : j ≤ zs.length) : (lnJ j zs).length = zs.length := by simp [lnJ]; omega
theorem lnJ_step (j : Nat) (zs : List LN) (h : j < zs.length) : (lnJ j zs).set j zs[j] = lnJ (j + 1) zs := by
  unfold lnJ
  have hl : (zs.take j).length = j := by rw [List.length_take]; omega
  rw [List.set_append_right _ _ (by omega), hl, Nat.sub_self, show zs.length - j = (zs.length - (j + 1)) + 1 by omega, List.replicate_succ, List.set_cons_zero, List.take_succ_eq_append_getElem h, List.append_assoc]
  rfl
theorem lnJ_all (zs : List LN) : lnJ zs.length zs = zs := by simp [lnJ]
theorem lnJ_zero (zs : List LN) : lnJ 0 zs = List.replicate zs.length ln0 := by simp [lnJ]
theorem ln_made (m : Nat) : (madeCells #[.int .i64 0, .int .i64 0, .bool false, .bool false, .bool false] (m * 5)).toList = lnR (List.replicate m ln0) := by
  apply List.ext_getElem?
  intro i
  by_cases hi : i < m * 5
  · have hq : i = i / 5 * 5 + i % 5 := by omega
    have h2 := lnR_at (List.replicate m ln0) (i / 5) (by rw [List.length_replicate]; omega) (i % 5) (by omega)
    rw [← hq] at h2
    rw [h2, List.getElem_replicate]
    have hl : (madeCells #[.int .i64 0, .int .i64 0, .bool false, .bool false, .bool false] (m * 5)).toList.length = m * 5 := by simp [madeCells]
    rw [List.getElem?_eq_getElem (by omega)]
    have : i % 5 < 5 := Nat.mod_lt _ (by omega)
    generalize hr : i % 5 = r at *
    simp only [madeCells, Array.getElem_toList, Array.getElem_map, Array.getElem_range, List.size_toArray, List.length_cons, List.length_nil]
    rw [show i % (0 + 1 + 1 + 1 + 1 + 1) = r by simpa using hr]
    match r, this with
    | 0, _ => rfl
    | 1, _ => rfl
    | 2, _ => rfl
    | 3, _ => rfl
    | 4, _ => rfl
  · rw [List.getElem?_eq_none (by simp [madeCells]; omega), List.getElem?_eq_none (by rw [lnR_len]; simp; omega)]
theorem ln_zero : (Try.prog.info? 54).map (fun i => (i.zero, i.size)) = some (some (.agg #[.int .i64 0, .int .i64 0, .bool false, .bool false, .bool false]), 5) := by kernel_rfl
theorem ln_bytes : ∀ i, Try.prog.info? 54 = some i → i.bytes ≤ 40 := by
  intro i h
  have e : (Try.prog.info? 54).map (fun i => decide (i.bytes ≤ 40)) = some true := by kernel_rfl
  rw [h] at e
  simpa using e
theorem ln_mk (w : World) (m : Nat) (hm : m ≤ 1048576) : (Instr.makeSlice 29 (.int .i64 m) (.int .i64 m)).run Try.prog w = .ok (.slice (some ⟨w.heap.size, 0, none⟩) m m) (w.alloc (.cells (lnR (List.replicate m ln0)).toArray 54)) := by
  have h1 := ln_zero
  cases hq : Try.prog.info? 54 with
  | none => simp [hq] at h1
  | some i =>
    have hb := ln_bytes i hq
    simp [hq] at h1
    have h3 : i.bytes * m ≤ 40 * 1048576 := Nat.mul_le_mul hb hm
    have hbm : (i.bytes : Int) * (m : Int) ≤ 281474976710656 := by
      rw [← Int.natCast_mul]
      omega
    have hr := run_make (P := Try.prog) w 29 54 i _ Try.underlying29 hq h1.1 .i64 .i64 m m (by omega) (by omega) hbm (by omega)
    rw [hr, h1.2]
    simp only [Int.toNat_natCast, Value.cells]
    rw [← ln_made]
theorem ln_own0 (w : World) (m : Nat) (hm : m ≤ 1048576) : (w.alloc (.cells (lnR (List.replicate m ln0)).toArray 54)).ownsRow w.heap.size 54 5 (.slice (some ⟨w.heap.size, 0, none⟩) m m) m (lnR (List.replicate m ln0)) := by
  have hl := lnR_len (List.replicate m ln0)
  rw [List.length_replicate] at hl
  refine ⟨hl, .inr ⟨w.heap.size, m, _, rfl, Nat.le_refl _, (MapKept.heap_alloc w _).1, Nat.le_refl _, by unfold maxLen; omega, by simpa using hl, ?_⟩⟩
  rw [← hl]
  simp
set_option maxRecDepth 100000 in
set_option maxHeartbeats 4000000 in
theorem szLNS_any (ao : Option Addr) (m cap : Nat) (l : Int) (w : World) (h0 : 0 ≤ l) (h1 : l ≤ 1048576) (hm : m ≤ maxLen) : Calls Try.prog 15 #[.slice ao m cap, .int .i64 l] w fun e w' => e = .returned (.int .i64 (if l < (m : Int) then -1 else l - m)) ∧ w' = w := by
  unfold maxLen at hm
  by_cases h : l < (m : Int)
  · rw [if_pos h]
    have h2 : l - (m : Int) < 0 := by omega
    have hw : IntKind.i64.wrap (l - (m : Int)) = l - (m : Int) := by rw [IntKind.wrap_i64]; omega
    have HH : Hid _ := h
    clear hm h h1 h0
    go_enter Try.func15, Try.ntmps15
    go_wp2
    go_ret
    exact ⟨rfl, rfl⟩
  · rw [if_neg h]
    have h2 : ¬ l - (m : Int) < 0 := by omega
    have hw : IntKind.i64.wrap (l - (m : Int)) = l - (m : Int) := by rw [IntKind.wrap_i64]; omega
    clear hm h h1 h0
    go_enter Try.func15, Try.ntmps15
    go_wp2
    go_ret
    exact ⟨rfl, rfl⟩
set_option maxRecDepth 100000 in
set_option maxHeartbeats 4000000 in
theorem toLN_any (m : LN) (w : World) : Calls Try.prog 40 #[lnA m] w fun e w' => e = .returned (lnA m) ∧ Below w.heap.size w w' := by
  unfold lnA
  go_enter Try.func40, Try.ntmps40
  go_wp2
  refine bodyPost_ret (v := lnA m) (by simp [results, Try.results40, go_sem, lnA]) rfl ⟨rfl, ?_⟩
  exact (((Below.refl _ _).alloc (Nat.le_refl _) _).alloc (by simp) _).alloc (by simp; omega) _
set_option maxRecDepth 100000 in
set_option maxHeartbeats 4000000 in
theorem toLNS_any {w : World} {v : Value} {zs : List LN} (h : LNrow w v zs) (hl : zs.length ≤ 1048576) :
    Calls Try.prog 20 #[v] w fun e w' => ∃ u, e = .returned u ∧ w'.ownsRow w.heap.size 54 5 u zs.length (lnR zs) ∧ Below w.heap.size w w' := by
  obtain ⟨ao, cap, rfl⟩ := h.sl
  have hmk := ln_mk w zs.length hl
  have HO : Hid ((w.alloc (.cells (lnR (List.replicate zs.length ln0)).toArray 54)).ownsRow w.heap.size 54 5 (.slice (some ⟨w.heap.size, 0, none⟩) zs.length zs.length) zs.length (lnR (List.replicate zs.length ln0))) := ln_own0 w zs.length hl
  have HR : Hid (LNrow w (.slice ao zs.length cap) zs) := h
  clear h
  go_enter Try.func20, Try.ntmps20
  go_wp2
  go_loopw [4] (fun i wr => ∃ k : Nat, k ≤ zs.length ∧ i = .int .i64 k ∧ wr.ownsRow w.heap.size 54 5 (.slice (some ⟨w.heap.size, 0, none⟩) zs.length zs.length) zs.length (lnR (lnJ k zs)) ∧ Below w.heap.size w wr) (fun i _ => zs.length - (intOf i).toNat)
  case atStart => exact ⟨0, Nat.zero_le _, rfl, by rw [lnJ_zero]; exact HO.out, (Below.refl _ _).alloc (Nat.le_refl _) _⟩
  case round =>
    obtain ⟨k, hk, rfl, hown, hb⟩ := hrel
    clear hmk
    by_cases hlt : k < zs.length
    · obtain ⟨g, o, cap2, hv, _, hg, hc⟩ := HR.out.resolve_left (fun h => by rw [h.1] at hlt; simp at hlt)
      injection hv with hv1 hv2 hv3
      subst hv1 hv3
      obtain ⟨d0, d1, d2, d3, d4⟩ := hc.below hb hg k hlt
      have hlen := lnJ_len k zs hk
      have hown2 : wr.ownsRow w.heap.size 54 5 (.slice (some ⟨w.heap.size, 0, none⟩) (lnJ k zs).length zs.length) (lnJ k zs).length (lnR (lnJ k zs)) := by rw [hlen]; exact hown
      have HOW : Hid (wr.ownsRow w.heap.size 54 5 (.slice (some ⟨w.heap.size, 0, none⟩) (lnJ k zs).length zs.length) (lnJ k zs).length (lnR (lnJ k zs))) := hown2
      have hTO := fun w' => toLN_any zs[k] w'
      have HZ : Hid _ := lnJ_step k zs hlt
      generalize zs[k] = z at *
      have HB : Hid _ := hb
      have hk0 : (0 : Int) ≤ (k : Int) := by omega
      have hk1 : (k : Int) < (zs.length : Int) := by omega
      have hgw : g < wr.heap.size := Nat.lt_of_lt_of_le hg hb.size
      have HTO : Hid _ := hTO
      unfold lnA at HTO
      clear hc hown hown2 hb hTO
      go_wp2_with (go_at_call 40; refine Calls.mono (HTO.out _) ?_; rintro e u5 ⟨rfl, hu5⟩; have HB5 : Hid (Below wr.heap.size wr u5) := hu5; have HO5 : Hid (u5.ownsRow w.heap.size 54 5 (.slice (some ⟨w.heap.size, 0, none⟩) (lnJ k zs).length zs.length) (lnJ k zs).length (lnR (lnJ k zs))) := ln_below HOW.out hu5; obtain ⟨y, y0, y1, y2, y3, y4⟩ := ln_cells HO5.out rfl k (by omega); have hfz := HO5.out.frozenAt; clear hu5)
      have st := own_setLN HO5.out k (by omega) z
      rw [HZ.out, hlen] at st
      have hb6 : Below w.heap.size w u5 := HB.out.trans (HB5.out.mono HB.out.size)
      refine ⟨⟨k + 1, hlt, by simp, st.1, hb6.grown st.2 hb6.size (fun j hj => by cases hj; exact Nat.le_refl _)⟩, ?_⟩
      simp [intOf]
      omega
    · obtain rfl : k = zs.length := by omega
      rw [lnJ_all] at hown
      have HO2 : Hid _ := hown
      clear hown
      go_wp2
      go_ret
      exact ⟨_, rfl, HO2.out, hb⟩
end Go.Proofs.Ytefeahilamiiaaa
