import Derived.Test.YtomfbiiegcmmlabMp4
import Derived.Deep.RegionWith
namespace Go.Proofs.Ytomfbiiegcmmlab
open Go.ChangeShapes Go.WideShapes Go.ChangeAt Go.RowKit

set_option maxRecDepth 100000
/-- So many bytes from a place on are within n. -/
def inW (n : Nat) (a z : Int) : Bool := decide (0 ≤ a ∧ 0 ≤ z ∧ a + z ≤ (n : Int))
theorem inW_iff {n : Nat} {a z : Int} : inW n a z = true ↔ 0 ≤ a ∧ 0 ≤ z ∧ a + z ≤ (n : Int) := by simp [inW]
theorem inW_no {n : Nat} {a z : Int} : inW n a z = false ↔ ¬ (0 ≤ a ∧ 0 ≤ z ∧ a + z ≤ (n : Int)) := by simp [inW]
/-- A number of int64. -/
def i64B (a : Int) : Prop := -9223372036854775808 ≤ a ∧ a ≤ 9223372036854775807
theorem isWithin_any (n : Nat) (a z : Int) (w : World) (hn : n ≤ 1048576) (hz : i64B z) :
    Calls Try.prog 40 #[.int .i64 n, .int .i64 a, .int .i64 z] w fun e w' => e = .returned (.bool (inW n a z)) ∧ w' = w := by
  obtain ⟨z1, z2⟩ := hz
  by_cases h1 : 0 ≤ a
  · by_cases h2 : 0 ≤ z
    · have E : Hid (inW n a z = decide (a ≤ (n : Int) - z)) := by
        show inW _ _ _ = _
        unfold inW
        exact decide_eq_decide.2 (by omega)
      go_enter Try.func40, Try.ntmps40
      go_wp2
      go_ret
      exact ⟨ret_bool E.out.symm, rfl⟩
    · have E : Hid (inW n a z = false) := inW_no.2 (by omega)
      go_enter Try.func40, Try.ntmps40
      go_wp2
      go_ret
      exact ⟨ret_bool E.out.symm, rfl⟩
  · have E : Hid (inW n a z = false) := inW_no.2 (by omega)
    go_enter Try.func40, Try.ntmps40
    go_wp2
    go_ret
    exact ⟨ret_bool E.out.symm, rfl⟩
/-- A slot that stands for a text of a store. -/
def ltB (l : List ByteArray) (kd : Int) (x : SL) : Bool := x.kind == kd && inB l x.pos
theorem inW_one {n : Nat} {p : Int} : inW n p 1 = decide (0 ≤ p ∧ p < (n : Int)) := by unfold inW; exact decide_eq_decide.2 (by omega)
set_option maxHeartbeats 4000000 in
theorem ledTo_cellNo {w : World} {v : Value} {zs : List ByteArray} (h : Srow w v zs) (hl : zs.length ≤ 1048576) (kd : Int) (x : SL) : Calls Try.prog 136 #[.agg #[.int .i64 kd, v], slA x] w fun e w' => e = .returned (.bool (ltB zs kd x)) ∧ Below w.heap.size w w' := by
  obtain ⟨ao, cap, rfl⟩ := h.sl
  have HR : Hid (Srow w (.slice ao zs.length cap) zs) := h
  have hb0 : Below w.heap.size w (w.alloc (.cells #[.int .i64 kd, .slice ao zs.length cap] 125)) := (Below.refl _ _).alloc (Nat.le_refl _) _
  have hb1 : Below (w.alloc (.cells #[.int .i64 kd, .slice ao zs.length cap] 125)).heap.size (w.alloc (.cells #[.int .i64 kd, .slice ao zs.length cap] 125)) ((w.alloc (.cells #[.int .i64 kd, .slice ao zs.length cap] 125)).alloc (.cells #[.int .i64 x.kind, .int .i64 x.pos, .int .i64 x.used] 70)) := (Below.refl _ _).alloc (Nat.le_refl _) _
  have HB : Hid (Below w.heap.size w ((w.alloc (.cells #[.int .i64 kd, .slice ao zs.length cap] 125)).alloc (.cells #[.int .i64 x.kind, .int .i64 x.pos, .int .i64 x.used] 70))) := hb0.trans (hb1.mono hb0.size)
  have hbx : ((w.alloc (.cells #[.int .i64 kd, .slice ao zs.length cap] 125)).alloc (.cells #[.int .i64 x.kind, .int .i64 x.pos, .int .i64 x.used] 70)).heap[w.heap.size]? = some (.cells #[.int .i64 kd, .slice ao zs.length cap] 125 (0, 0)) := (hb1.block _ (by simp)).trans (heap_new _ _)
  have t0 : ((w.alloc (.cells #[.int .i64 kd, .slice ao zs.length cap] 125)).alloc (.cells #[.int .i64 x.kind, .int .i64 x.pos, .int .i64 x.used] 70)).cell? ⟨w.heap.size, 0, none⟩ = some (.int .i64 kd) := by
    simp only [World.cell?, hbx]
    rfl
  have t1 : ((w.alloc (.cells #[.int .i64 kd, .slice ao zs.length cap] 125)).alloc (.cells #[.int .i64 x.kind, .int .i64 x.pos, .int .i64 x.used] 70)).cell? ⟨w.heap.size, 1, none⟩ = some (.slice ao zs.length cap) := by
    simp only [World.cell?, hbx]
    rfl
  obtain ⟨s0, s1, s2, _⟩ := cel3 (heap_new (w.alloc (.cells #[.int .i64 kd, .slice ao zs.length cap] 125)) (.cells #[.int .i64 x.kind, .int .i64 x.pos, .int .i64 x.used] 70))
  have es : (w.alloc (.cells #[.int .i64 kd, .slice ao zs.length cap] 125)).heap.size = w.heap.size + 1 := by simp
  rw [es] at s0 s1 s2
  have hlt0 : w.heap.size < ((w.alloc (.cells #[.int .i64 kd, .slice ao zs.length cap] 125)).alloc (.cells #[.int .i64 x.kind, .int .i64 x.pos, .int .i64 x.used] 70)).heap.size := (Array.getElem?_eq_some_iff.1 hbx).1
  have HW : Hid _ := fun (u : World) => isWithin_any zs.length x.pos 1 u hl ⟨by decide, by decide⟩
  rw [inW_one] at HW
  obtain ⟨G, hG⟩ : ∃ G, ltB zs kd x = G := ⟨_, rfl⟩
  rw [hG]
  unfold ltB at hG
  clear h hb0 hb1 hbx es
  unfold slA
  obtain ⟨xk, p, xu⟩ := x
  simp only at s0 s1 s2 hG HB HW t0 t1 hlt0 ⊢
  cases hk : (xk == kd)
  · rw [hk, Bool.false_and] at hG
    subst hG
    have hk1 : ¬ xk = kd := by simpa using hk
    clear HR hl HW
    go_enter Try.func136, Try.ntmps136
    go_wp2
    go_ret
    exact ⟨rfl, HB.out⟩
  · rw [hk, Bool.true_and] at hG
    obtain rfl : xk = kd := by simpa using hk
    clear hk
    by_cases hp : 0 ≤ p ∧ p < (zs.length : Int)
    · rw [decide_eq_true hp] at HW
      obtain ⟨k, rfl⟩ : ∃ k : Nat, p = (k : Int) := ⟨p.toNat, by omega⟩
      have hlt : k < zs.length := by omega
      rw [inB_at hlt] at hG
      obtain ⟨g, o, cap2, hv, _, hg, hc⟩ := HR.out.resolve_left (fun h => by rw [h.1] at hlt; simp at hlt)
      injection hv with hv1 hv2 hv3
      subst hv1 hv3
      have d0 := hc.below HB.out hg k hlt
      have hk0 : (0 : Int) ≤ (k : Int) := by omega
      have hk1 : (k : Int) < (zs.length : Int) := by omega
      generalize zs[k] = y at *
      clear hc hv2 hp
      by_cases y0 : y.size = 0
      · have HQ : Hid (G = false) := (show G = false by rw [← hG]; exact decide_eq_false (fun h => h y0))
        have ye := ba_empty y0
        clear y0 hG
        subst ye
        go_enter Try.func136, Try.ntmps136
        go_wp2_with (go_at_call 40; refine Calls.mono (HW.out _) ?_; rintro e u1 ⟨rfl, hu⟩; rw [hu]; clear hu)
        go_ret
        exact ⟨ret_bool HQ.out.symm, HB.out⟩
      · have HQ : Hid (G = true) := (show G = true by rw [← hG]; exact decide_eq_true y0)
        obtain ⟨yi, yn⟩ := ba_ne y0
        clear y0 hG
        go_enter Try.func136, Try.ntmps136
        go_wp2_with (go_at_call 40; refine Calls.mono (HW.out _) ?_; rintro e u1 ⟨rfl, hu⟩; rw [hu]; clear hu)
        go_ret
        exact ⟨ret_bool HQ.out.symm, HB.out⟩
    · have HQ : Hid (G = false) := (show G = false by
        rw [← hG]
        by_cases p0 : p < 0
        · exact inB_neg p0
        · exact inB_far (by omega))
      rw [decide_eq_false hp] at HW
      clear hG hp HR
      go_enter Try.func136, Try.ntmps136
      go_wp2_with (go_at_call 40; refine Calls.mono (HW.out _) ?_; rintro e u1 ⟨rfl, hu⟩; rw [hu]; clear hu)
      go_ret
      exact ⟨ret_bool HQ.out.symm, HB.out⟩
set_option maxHeartbeats 4000000 in
theorem ledTo_placeNo {w : World} {v : Value} {zs : List ByteArray} (h : Srow w v zs) (hl : zs.length ≤ 1048576) (kd : Int) (x : SL) : Calls Try.prog 137 #[.agg #[.int .i64 kd, v], slA x] w fun e w' => e = .returned (.bool (ltB zs kd x)) ∧ Below w.heap.size w w' := by
  obtain ⟨ao, cap, rfl⟩ := h.sl
  have HR : Hid (Srow w (.slice ao zs.length cap) zs) := h
  have hb0 : Below w.heap.size w (w.alloc (.cells #[.int .i64 kd, .slice ao zs.length cap] 126)) := (Below.refl _ _).alloc (Nat.le_refl _) _
  have hb1 : Below (w.alloc (.cells #[.int .i64 kd, .slice ao zs.length cap] 126)).heap.size (w.alloc (.cells #[.int .i64 kd, .slice ao zs.length cap] 126)) ((w.alloc (.cells #[.int .i64 kd, .slice ao zs.length cap] 126)).alloc (.cells #[.int .i64 x.kind, .int .i64 x.pos, .int .i64 x.used] 70)) := (Below.refl _ _).alloc (Nat.le_refl _) _
  have HB : Hid (Below w.heap.size w ((w.alloc (.cells #[.int .i64 kd, .slice ao zs.length cap] 126)).alloc (.cells #[.int .i64 x.kind, .int .i64 x.pos, .int .i64 x.used] 70))) := hb0.trans (hb1.mono hb0.size)
  have hbx : ((w.alloc (.cells #[.int .i64 kd, .slice ao zs.length cap] 126)).alloc (.cells #[.int .i64 x.kind, .int .i64 x.pos, .int .i64 x.used] 70)).heap[w.heap.size]? = some (.cells #[.int .i64 kd, .slice ao zs.length cap] 126 (0, 0)) := (hb1.block _ (by simp)).trans (heap_new _ _)
  have t0 : ((w.alloc (.cells #[.int .i64 kd, .slice ao zs.length cap] 126)).alloc (.cells #[.int .i64 x.kind, .int .i64 x.pos, .int .i64 x.used] 70)).cell? ⟨w.heap.size, 0, none⟩ = some (.int .i64 kd) := by
    simp only [World.cell?, hbx]
    rfl
  have t1 : ((w.alloc (.cells #[.int .i64 kd, .slice ao zs.length cap] 126)).alloc (.cells #[.int .i64 x.kind, .int .i64 x.pos, .int .i64 x.used] 70)).cell? ⟨w.heap.size, 1, none⟩ = some (.slice ao zs.length cap) := by
    simp only [World.cell?, hbx]
    rfl
  obtain ⟨s0, s1, s2, _⟩ := cel3 (heap_new (w.alloc (.cells #[.int .i64 kd, .slice ao zs.length cap] 126)) (.cells #[.int .i64 x.kind, .int .i64 x.pos, .int .i64 x.used] 70))
  have es : (w.alloc (.cells #[.int .i64 kd, .slice ao zs.length cap] 126)).heap.size = w.heap.size + 1 := by simp
  rw [es] at s0 s1 s2
  have hlt0 : w.heap.size < ((w.alloc (.cells #[.int .i64 kd, .slice ao zs.length cap] 126)).alloc (.cells #[.int .i64 x.kind, .int .i64 x.pos, .int .i64 x.used] 70)).heap.size := (Array.getElem?_eq_some_iff.1 hbx).1
  have HW : Hid _ := fun (u : World) => isWithin_any zs.length x.pos 1 u hl ⟨by decide, by decide⟩
  rw [inW_one] at HW
  obtain ⟨G, hG⟩ : ∃ G, ltB zs kd x = G := ⟨_, rfl⟩
  rw [hG]
  unfold ltB at hG
  clear h hb0 hb1 hbx es
  unfold slA
  obtain ⟨xk, p, xu⟩ := x
  simp only at s0 s1 s2 hG HB HW t0 t1 hlt0 ⊢
  cases hk : (xk == kd)
  · rw [hk, Bool.false_and] at hG
    subst hG
    have hk1 : ¬ xk = kd := by simpa using hk
    clear HR hl HW
    go_enter Try.func137, Try.ntmps137
    go_wp2
    go_ret
    exact ⟨rfl, HB.out⟩
  · rw [hk, Bool.true_and] at hG
    obtain rfl : xk = kd := by simpa using hk
    clear hk
    by_cases hp : 0 ≤ p ∧ p < (zs.length : Int)
    · rw [decide_eq_true hp] at HW
      obtain ⟨k, rfl⟩ : ∃ k : Nat, p = (k : Int) := ⟨p.toNat, by omega⟩
      have hlt : k < zs.length := by omega
      rw [inB_at hlt] at hG
      obtain ⟨g, o, cap2, hv, _, hg, hc⟩ := HR.out.resolve_left (fun h => by rw [h.1] at hlt; simp at hlt)
      injection hv with hv1 hv2 hv3
      subst hv1 hv3
      have d0 := hc.below HB.out hg k hlt
      have hk0 : (0 : Int) ≤ (k : Int) := by omega
      have hk1 : (k : Int) < (zs.length : Int) := by omega
      generalize zs[k] = y at *
      clear hc hv2 hp
      by_cases y0 : y.size = 0
      · have HQ : Hid (G = false) := (show G = false by rw [← hG]; exact decide_eq_false (fun h => h y0))
        have ye := ba_empty y0
        clear y0 hG
        subst ye
        go_enter Try.func137, Try.ntmps137
        go_wp2_with (go_at_call 40; refine Calls.mono (HW.out _) ?_; rintro e u1 ⟨rfl, hu⟩; rw [hu]; clear hu)
        go_ret
        exact ⟨ret_bool HQ.out.symm, HB.out⟩
      · have HQ : Hid (G = true) := (show G = true by rw [← hG]; exact decide_eq_true y0)
        obtain ⟨yi, yn⟩ := ba_ne y0
        clear y0 hG
        go_enter Try.func137, Try.ntmps137
        go_wp2_with (go_at_call 40; refine Calls.mono (HW.out _) ?_; rintro e u1 ⟨rfl, hu⟩; rw [hu]; clear hu)
        go_ret
        exact ⟨ret_bool HQ.out.symm, HB.out⟩
    · have HQ : Hid (G = false) := (show G = false by
        rw [← hG]
        by_cases p0 : p < 0
        · exact inB_neg p0
        · exact inB_far (by omega))
      rw [decide_eq_false hp] at HW
      clear hG hp HR
      go_enter Try.func137, Try.ntmps137
      go_wp2_with (go_at_call 40; refine Calls.mono (HW.out _) ?_; rintro e u1 ⟨rfl, hu⟩; rw [hu]; clear hu)
      go_ret
      exact ⟨ret_bool HQ.out.symm, HB.out⟩
end Go.Proofs.Ytomfbiiegcmmlab
