import Derived.Test.YtkmbhhkgfofcoaaRowTNT2
namespace Go.Proofs.Ytkmbhhkgfofcoaa
open Go.ChangeShapes Go.WideShapes Go.ChangeAt Go.RowKit

def tnt0 : TNT := ⟨0, 0, 0⟩
/-- So many are copied. -/
def tntJ (j : Nat) (zs : List TNT) : List TNT := zs.take j ++ List.replicate (zs.length - j) tnt0
theorem tntJ_len (j : Nat) (zs : List TNT) (h : j ≤ zs.length) : (tntJ j zs).length = zs.length := by simp [tntJ]; omega
theorem tntJ_step (j : Nat) (zs : List TNT) (h : j < zs.length) : (tntJ j zs).set j zs[j] = tntJ (j + 1) zs := by
  unfold tntJ
  have hl : (zs.take j).length = j := by rw [List.length_take]; omega
  rw [List.set_append_right _ _ (by omega), hl, Nat.sub_self, show zs.length - j = (zs.length - (j + 1)) + 1 by omega, List.replicate_succ, List.set_cons_zero, List.take_succ_eq_append_getElem h, List.append_assoc]
  rfl
theorem tntJ_all (zs : List TNT) : tntJ zs.length zs = zs := by simp [tntJ]
theorem tntJ_zero (zs : List TNT) : tntJ 0 zs = List.replicate zs.length tnt0 := by simp [tntJ]
theorem tnt_made (m : Nat) : (madeCells #[.int .i64 0, .int .i64 0, .int .i64 0] (m * 3)).toList = tntR (List.replicate m tnt0) := by
  apply List.ext_getElem?
  intro i
  by_cases hi : i < m * 3
  · have hq : i = i / 3 * 3 + i % 3 := by omega
    have h2 := tntR_at (List.replicate m tnt0) (i / 3) (by rw [List.length_replicate]; omega) (i % 3) (by omega)
    rw [← hq] at h2
    rw [h2, List.getElem_replicate]
    have hl : (madeCells #[.int .i64 0, .int .i64 0, .int .i64 0] (m * 3)).toList.length = m * 3 := by simp [madeCells]
    rw [List.getElem?_eq_getElem (by omega)]
    have : i % 3 < 3 := Nat.mod_lt _ (by omega)
    generalize hr : i % 3 = r at *
    simp only [madeCells, Array.getElem_toList, Array.getElem_map, Array.getElem_range, List.size_toArray, List.length_cons, List.length_nil]
    rw [show i % (0 + 1 + 1 + 1) = r by simpa using hr]
    match r, this with
    | 0, _ => rfl
    | 1, _ => rfl
    | 2, _ => rfl
  · rw [List.getElem?_eq_none (by simp [madeCells]; omega), List.getElem?_eq_none (by rw [tntR_len]; simp; omega)]
theorem tnt_zero : (Try.prog.info? 54).map (fun i => (i.zero, i.size)) = some (some (.agg #[.int .i64 0, .int .i64 0, .int .i64 0]), 3) := by kernel_rfl
theorem tnt_bytes : ∀ i, Try.prog.info? 54 = some i → i.bytes ≤ 24 := by
  intro i h
  have e : (Try.prog.info? 54).map (fun i => decide (i.bytes ≤ 24)) = some true := by kernel_rfl
  rw [h] at e
  simpa using e
theorem tnt_mk (w : World) (m : Nat) (hm : m ≤ 1048576) : (Instr.makeSlice 31 (.int .i64 m) (.int .i64 m)).run Try.prog w = .ok (.slice (some ⟨w.heap.size, 0, none⟩) m m) (w.alloc (.cells (tntR (List.replicate m tnt0)).toArray 54)) := by
  have h1 := tnt_zero
  cases hq : Try.prog.info? 54 with
  | none => simp [hq] at h1
  | some i =>
    have hb := tnt_bytes i hq
    simp [hq] at h1
    have h3 : i.bytes * m ≤ 24 * 1048576 := Nat.mul_le_mul hb hm
    have hbm : (i.bytes : Int) * (m : Int) ≤ 281474976710656 := by
      rw [← Int.natCast_mul]
      omega
    have hr := run_make (P := Try.prog) w 31 54 i _ Try.underlying31 hq h1.1 .i64 .i64 m m (by omega) (by omega) hbm (by omega)
    rw [hr, h1.2]
    simp only [Int.toNat_natCast, Value.cells]
    rw [← tnt_made]
theorem tnt_own0 (w : World) (m : Nat) (hm : m ≤ 1048576) : (w.alloc (.cells (tntR (List.replicate m tnt0)).toArray 54)).ownsRow w.heap.size 54 3 (.slice (some ⟨w.heap.size, 0, none⟩) m m) m (tntR (List.replicate m tnt0)) := by
  have hl := tntR_len (List.replicate m tnt0)
  rw [List.length_replicate] at hl
  refine ⟨hl, .inr ⟨w.heap.size, m, _, rfl, Nat.le_refl _, (MapKept.heap_alloc w _).1, Nat.le_refl _, by unfold maxLen; omega, by simpa using hl, ?_⟩⟩
  rw [← hl]
  simp
set_option maxRecDepth 100000 in
set_option maxHeartbeats 4000000 in
theorem szTNTS_any (ao : Option Addr) (m cap : Nat) (l : Int) (w : World) (h0 : 0 ≤ l) (h1 : l ≤ 1048576) (hm : m ≤ maxLen) : Calls Try.prog 19 #[.slice ao m cap, .int .i64 l] w fun e w' => e = .returned (.int .i64 (if l < (m : Int) then -1 else l - m)) ∧ w' = w := by
  unfold maxLen at hm
  by_cases h : l < (m : Int)
  · rw [if_pos h]
    have h2 : l - (m : Int) < 0 := by omega
    have hw : IntKind.i64.wrap (l - (m : Int)) = l - (m : Int) := by rw [IntKind.wrap_i64]; omega
    have HH : Hid _ := h
    clear hm h h1 h0
    go_enter Try.func19, Try.ntmps19
    go_wp2
    go_ret
    exact ⟨rfl, rfl⟩
  · rw [if_neg h]
    have h2 : ¬ l - (m : Int) < 0 := by omega
    have hw : IntKind.i64.wrap (l - (m : Int)) = l - (m : Int) := by rw [IntKind.wrap_i64]; omega
    clear hm h h1 h0
    go_enter Try.func19, Try.ntmps19
    go_wp2
    go_ret
    exact ⟨rfl, rfl⟩
set_option maxRecDepth 100000 in
set_option maxHeartbeats 4000000 in
theorem toTNT_any (m : TNT) (w : World) : Calls Try.prog 42 #[tntA m] w fun e w' => e = .returned (tntA m) ∧ Below w.heap.size w w' := by
  unfold tntA
  go_enter Try.func42, Try.ntmps42
  go_wp2
  refine bodyPost_ret (v := tntA m) (by simp [results, Try.results42, go_sem, tntA]) rfl ⟨rfl, ?_⟩
  exact (((Below.refl _ _).alloc (Nat.le_refl _) _).alloc (by simp) _).alloc (by simp; omega) _
set_option maxRecDepth 100000 in
set_option maxHeartbeats 4000000 in
theorem toTNTS_any {w : World} {v : Value} {zs : List TNT} (h : TNTrow w v zs) (hl : zs.length ≤ 1048576) :
    Calls Try.prog 27 #[v] w fun e w' => ∃ u, e = .returned u ∧ w'.ownsRow w.heap.size 54 3 u zs.length (tntR zs) ∧ Below w.heap.size w w' := by
  obtain ⟨ao, cap, rfl⟩ := h.sl
  have hmk := tnt_mk w zs.length hl
  have HO : Hid ((w.alloc (.cells (tntR (List.replicate zs.length tnt0)).toArray 54)).ownsRow w.heap.size 54 3 (.slice (some ⟨w.heap.size, 0, none⟩) zs.length zs.length) zs.length (tntR (List.replicate zs.length tnt0))) := tnt_own0 w zs.length hl
  have HR : Hid (TNTrow w (.slice ao zs.length cap) zs) := h
  clear h
  go_enter Try.func27, Try.ntmps27
  go_wp2
  go_loopw [4] (fun i wr => ∃ k : Nat, k ≤ zs.length ∧ i = .int .i64 k ∧ wr.ownsRow w.heap.size 54 3 (.slice (some ⟨w.heap.size, 0, none⟩) zs.length zs.length) zs.length (tntR (tntJ k zs)) ∧ Below w.heap.size w wr) (fun i _ => zs.length - (intOf i).toNat)
  case atStart => exact ⟨0, Nat.zero_le _, rfl, by rw [tntJ_zero]; exact HO.out, (Below.refl _ _).alloc (Nat.le_refl _) _⟩
  case round =>
    obtain ⟨k, hk, rfl, hown, hb⟩ := hrel
    clear hmk
    by_cases hlt : k < zs.length
    · obtain ⟨g, o, cap2, hv, _, hg, hc⟩ := HR.out.resolve_left (fun h => by rw [h.1] at hlt; simp at hlt)
      injection hv with hv1 hv2 hv3
      subst hv1 hv3
      obtain ⟨d0, d1, d2⟩ := hc.below hb hg k hlt
      have hlen := tntJ_len k zs hk
      have hown2 : wr.ownsRow w.heap.size 54 3 (.slice (some ⟨w.heap.size, 0, none⟩) (tntJ k zs).length zs.length) (tntJ k zs).length (tntR (tntJ k zs)) := by rw [hlen]; exact hown
      have HOW : Hid (wr.ownsRow w.heap.size 54 3 (.slice (some ⟨w.heap.size, 0, none⟩) (tntJ k zs).length zs.length) (tntJ k zs).length (tntR (tntJ k zs))) := hown2
      have hTO := fun w' => toTNT_any zs[k] w'
      have HZ : Hid _ := tntJ_step k zs hlt
      generalize zs[k] = z at *
      have HB : Hid _ := hb
      have hk0 : (0 : Int) ≤ (k : Int) := by omega
      have hk1 : (k : Int) < (zs.length : Int) := by omega
      have hgw : g < wr.heap.size := Nat.lt_of_lt_of_le hg hb.size
      have HTO : Hid _ := hTO
      unfold tntA at HTO
      clear hc hown hown2 hb hTO
      go_wp2_with (go_at_call 42; refine Calls.mono (HTO.out _) ?_; rintro e u5 ⟨rfl, hu5⟩; have HB5 : Hid (Below wr.heap.size wr u5) := hu5; have HO5 : Hid (u5.ownsRow w.heap.size 54 3 (.slice (some ⟨w.heap.size, 0, none⟩) (tntJ k zs).length zs.length) (tntJ k zs).length (tntR (tntJ k zs))) := tnt_below HOW.out hu5; obtain ⟨y, y0, y1, y2⟩ := tnt_cells HO5.out rfl k (by omega); have hfz := HO5.out.frozenAt; clear hu5)
      have st := own_setTNT HO5.out k (by omega) z
      rw [HZ.out, hlen] at st
      have hb6 : Below w.heap.size w u5 := HB.out.trans (HB5.out.mono HB.out.size)
      refine ⟨⟨k + 1, hlt, by simp, st.1, hb6.grown st.2 hb6.size (fun j hj => by cases hj; exact Nat.le_refl _)⟩, ?_⟩
      simp [intOf]
      omega
    · obtain rfl : k = zs.length := by omega
      rw [tntJ_all] at hown
      have HO2 : Hid _ := hown
      clear hown
      go_wp2
      go_ret
      exact ⟨_, rfl, HO2.out, hb⟩
end Go.Proofs.Ytkmbhhkgfofcoaa
