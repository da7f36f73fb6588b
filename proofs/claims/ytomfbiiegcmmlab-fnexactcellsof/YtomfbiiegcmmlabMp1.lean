import Derived.Test.YtomfbiiegcmmlabMf6
import Derived.Test.YtomfbiiegcmmlabIdxS
namespace Go.Proofs.Ytomfbiiegcmmlab
open Go.ChangeShapes Go.WideShapes Go.ChangeAt Go.RowKit

set_option maxRecDepth 100000
/-- A host at work behind a pointer: the program's side. -/
structure PH (w u : World) (B : Nat) (h : MH) (a : HA) : Prop where
  bel : Below w.heap.size w u
  ge : w.heap.size ≤ B
  box : u.heap[B]? = some (.cells #[.int .i64 1, a.vc, .int .i64 2, a.vp, a.vg, .int .i64 h.time] 128 (0, 0))
  row : HRows w h a
theorem PH.lt {w u : World} {B : Nat} {h : MH} {a : HA} (x : PH w u B h a) : B < u.heap.size := (Array.getElem?_eq_some_iff.1 x.box).1
theorem PH.step {w u u' : World} {B : Nat} {h : MH} {a : HA} (x : PH w u B h a) (hb : Below u.heap.size u u') : PH w u' B h a := ⟨x.bel.trans (hb.mono x.bel.size), x.ge, (hb.block _ x.lt).trans x.box, x.row⟩
set_option maxHeartbeats 4000000 in
theorem memoryOf_any {w : World} {h : MH} {a : HA} (hr : HRows w h a) : Calls Try.prog 38 #[mhA a h.time] w fun e w' => e = .returned (.pointer (some ⟨w.heap.size + 1, 0, none⟩)) ∧ PH w w' (w.heap.size + 1) h a := by
  obtain ⟨al, kl, el⟩ := hr.cs.sl
  obtain ⟨am, km, em⟩ := hr.ps.sl
  obtain ⟨ac, kc, ec⟩ := hr.mg.sl
  rw [hr.gi.len] at ec
  have hx := HX.new hr
  obtain ⟨c0, c1, c2, c3⟩ := hx.cel
  have hl := hx.lt
  have HP : Hid (PH w ((w.alloc (.cells #[a.vc, a.vp, a.vg, .int .i64 h.time] 30)).alloc (.cells #[.int .i64 1, a.vc, .int .i64 2, a.vp, a.vg, .int .i64 h.time] 128)) (w.heap.size + 1) h a) :=
    (show PH _ _ _ _ _ from ⟨((Below.refl _ _).alloc (Nat.le_refl _) _).alloc (by simp) _, by omega, by simpa using heap_new (w.alloc (.cells #[a.vc, a.vp, a.vg, .int .i64 h.time] 30)) (.cells #[.int .i64 1, a.vc, .int .i64 2, a.vp, a.vg, .int .i64 h.time] 128), hr⟩)
  clear hr hx
  unfold mhA
  rw [el, em, ec] at HP c0 c1 c2 c3 hl ⊢
  clear el em ec
  go_enter Try.func38, Try.ntmps38
  go_wp2
  go_ret
  exact ⟨rfl, HP.out⟩
def tmB (t : Int) : Bool := decide (0 ≤ t) && decide (t ≤ 1099511627776)
theorem isTime_any (t : Int) (w : World) : Calls Try.prog 103 #[.int .i64 t] w fun e w' => e = .returned (.bool (tmB t)) ∧ w' = w := by
  unfold tmB
  go_enter Try.func103, Try.ntmps103
  go_wp2
  all_goals go_ret
  all_goals refine ⟨ret_bool ?_, rfl⟩
  all_goals simp
  all_goals omega
theorem textIs_cellNo (x : ByteArray) (w : World) : Calls Try.prog 101 #[.string x] w fun e w' => e = .returned (.bool (!stB x)) ∧ w' = w := by
  by_cases y0 : x.size = 0
  · have e : stB x = true := by unfold stB; exact decide_eq_true (.inl y0)
    rw [e]
    have ye := ba_empty y0
    clear y0 e
    subst ye
    go_enter Try.func101, Try.ntmps101
    go_wp2
    go_ret
    exact ⟨rfl, rfl⟩
  · obtain ⟨yi, yn⟩ := ba_ne y0
    by_cases y16 : x.size = 16
    · have e : stB x = true := by unfold stB; exact decide_eq_true (.inr y16)
      have ys : ((x.size : Nat) : Int) = 16 := by omega
      rw [e]
      clear y0 y16 e
      go_enter Try.func101, Try.ntmps101
      go_wp2
      go_ret
      exact ⟨rfl, rfl⟩
    · have e : stB x = false := by unfold stB; exact decide_eq_false (by omega)
      have ys : ¬ ((x.size : Nat) : Int) = 16 := by omega
      rw [e]
      clear y0 y16 e
      go_enter Try.func101, Try.ntmps101
      go_wp2
      go_ret
      exact ⟨ret_bool (by simpa using ys), rfl⟩
set_option maxHeartbeats 4000000 in
theorem right_cellNo {w : World} {v : Value} {zs : List ByteArray} (h : Srow w v zs) (hl : zs.length ≤ 1048576) (kd : Int) : Calls Try.prog 69 #[.agg #[.int .i64 kd, v]] w fun e w' => e = .returned (.bool (mtB zs)) ∧ Below w.heap.size w w' := by
  obtain ⟨ao, cap, rfl⟩ := h.sl
  have hb0 : Below w.heap.size w (w.alloc (.cells #[.int .i64 kd, .slice ao zs.length cap] 125)) := (Below.refl _ _).alloc (Nat.le_refl _) _
  have HC : Hid _ := containsByteArray_any (h.below hb0) hl 101 #[] (fun x => !stB x) (fun xs w' => by kernel_rfl) (fun x w' _ => (textIs_cellNo x w').mono (by rintro e u ⟨rfl, rfl⟩; exact ⟨rfl, Below.refl _ _⟩))
  have hbx := heap_new w (.cells #[.int .i64 kd, .slice ao zs.length cap] 125)
  have c1 : (w.alloc (.cells #[.int .i64 kd, .slice ao zs.length cap] 125)).cell? ⟨w.heap.size, 1, none⟩ = some (.slice ao zs.length cap) := by
    simp only [World.cell?, hbx]
    rfl
  have hsz : w.heap.size < (w.alloc (.cells #[.int .i64 kd, .slice ao zs.length cap] 125)).heap.size := by simp
  have HB : Hid _ := hb0
  have e0 : zs.any (fun x => !stB x) = !zs.all stB := by rw [List.not_all_eq_any_not]
  rw [e0] at HC
  clear h hb0 hbx e0
  unfold mtB
  by_cases t : zs.length ≤ 64
  · have ti : (zs.length : Int) ≤ 64 := by omega
    rw [decide_eq_true t, Bool.true_and]
    generalize zs.all stB = b at *
    go_enter Try.func69, Try.ntmps69
    go_wp2_with (go_at_call 100; refine Calls.mono HC.out ?_; rintro e u1 ⟨rfl, hu⟩; have HU : Hid (Below w.heap.size w u1) := HB.out.trans (hu.mono HB.out.size); clear hu)
    go_ret
    exact ⟨rfl, HU.out⟩
  · have ti : ¬ (zs.length : Int) ≤ 64 := by omega
    rw [decide_eq_false t, Bool.false_and]
    go_enter Try.func69, Try.ntmps69
    go_wp2
    go_ret
    exact ⟨rfl, HB.out⟩
theorem textIs_placeNo (x : ByteArray) (w : World) : Calls Try.prog 102 #[.string x] w fun e w' => e = .returned (.bool (!stB x)) ∧ w' = w := by
  by_cases y0 : x.size = 0
  · have e : stB x = true := by unfold stB; exact decide_eq_true (.inl y0)
    rw [e]
    have ye := ba_empty y0
    clear y0 e
    subst ye
    go_enter Try.func102, Try.ntmps102
    go_wp2
    go_ret
    exact ⟨rfl, rfl⟩
  · obtain ⟨yi, yn⟩ := ba_ne y0
    by_cases y16 : x.size = 16
    · have e : stB x = true := by unfold stB; exact decide_eq_true (.inr y16)
      have ys : ((x.size : Nat) : Int) = 16 := by omega
      rw [e]
      clear y0 y16 e
      go_enter Try.func102, Try.ntmps102
      go_wp2
      go_ret
      exact ⟨rfl, rfl⟩
    · have e : stB x = false := by unfold stB; exact decide_eq_false (by omega)
      have ys : ¬ ((x.size : Nat) : Int) = 16 := by omega
      rw [e]
      clear y0 y16 e
      go_enter Try.func102, Try.ntmps102
      go_wp2
      go_ret
      exact ⟨ret_bool (by simpa using ys), rfl⟩
set_option maxHeartbeats 4000000 in
theorem right_placeNo {w : World} {v : Value} {zs : List ByteArray} (h : Srow w v zs) (hl : zs.length ≤ 1048576) (kd : Int) : Calls Try.prog 70 #[.agg #[.int .i64 kd, v]] w fun e w' => e = .returned (.bool (mtB zs)) ∧ Below w.heap.size w w' := by
  obtain ⟨ao, cap, rfl⟩ := h.sl
  have hb0 : Below w.heap.size w (w.alloc (.cells #[.int .i64 kd, .slice ao zs.length cap] 126)) := (Below.refl _ _).alloc (Nat.le_refl _) _
  have HC : Hid _ := containsByteArray_any (h.below hb0) hl 102 #[] (fun x => !stB x) (fun xs w' => by kernel_rfl) (fun x w' _ => (textIs_placeNo x w').mono (by rintro e u ⟨rfl, rfl⟩; exact ⟨rfl, Below.refl _ _⟩))
  have hbx := heap_new w (.cells #[.int .i64 kd, .slice ao zs.length cap] 126)
  have c1 : (w.alloc (.cells #[.int .i64 kd, .slice ao zs.length cap] 126)).cell? ⟨w.heap.size, 1, none⟩ = some (.slice ao zs.length cap) := by
    simp only [World.cell?, hbx]
    rfl
  have hsz : w.heap.size < (w.alloc (.cells #[.int .i64 kd, .slice ao zs.length cap] 126)).heap.size := by simp
  have HB : Hid _ := hb0
  have e0 : zs.any (fun x => !stB x) = !zs.all stB := by rw [List.not_all_eq_any_not]
  rw [e0] at HC
  clear h hb0 hbx e0
  unfold mtB
  by_cases t : zs.length ≤ 64
  · have ti : (zs.length : Int) ≤ 64 := by omega
    rw [decide_eq_true t, Bool.true_and]
    generalize zs.all stB = b at *
    go_enter Try.func70, Try.ntmps70
    go_wp2_with (go_at_call 100; refine Calls.mono HC.out ?_; rintro e u1 ⟨rfl, hu⟩; have HU : Hid (Below w.heap.size w u1) := HB.out.trans (hu.mono HB.out.size); clear hu)
    go_ret
    exact ⟨rfl, HU.out⟩
  · have ti : ¬ (zs.length : Int) ≤ 64 := by omega
    rw [decide_eq_false t, Bool.false_and]
    go_enter Try.func70, Try.ntmps70
    go_wp2
    go_ret
    exact ⟨rfl, HB.out⟩
end Go.Proofs.Ytomfbiiegcmmlab
