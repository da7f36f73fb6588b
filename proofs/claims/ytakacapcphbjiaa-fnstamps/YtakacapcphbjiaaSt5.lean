import Derived.Test.YtakacapcphbjiaaSt4
import Derived.Deep.RegionWith
namespace Go.Proofs.Ytakacapcphbjiaa
open Go.ChangeShapes Go.WideShapes Go.ChangeAt Go.RowKit

/-- Whether a stamp is right, and its seconds. -/
def okS (y m d s : Int) : Prop := 2000 ≤ y ∧ y ≤ 2099 ∧ 1 ≤ m ∧ m ≤ 12 ∧ 1 ≤ d ∧ d ≤ dm y m ∧ 0 ≤ s ∧ s < 86400
instance (y m d s : Int) : Decidable (okS y m d s) := by unfold okS; infer_instance
def secs (y m d s : Int) : Int := (d - 1 + cy y + cm y m) * 86400 + s
theorem bx1 (w : World) (o : Obj) : Below w.heap.size w (w.alloc o) := (Below.refl _ _).alloc (Nat.le_refl _) _
set_option maxRecDepth 100000 in
set_option maxHeartbeats 4000000 in
theorem isStamp_any (y m d s : Int) (w : World) : Calls Try.prog 18 #[sA y m d s] w fun e w' => e = .returned (.bool (decide (okS y m d s))) ∧ Below w.heap.size w w' := by
  unfold sA
  by_cases h1 : y < 2000
  · have hb : decide (okS y m d s) = false := decide_eq_false (fun h => by unfold okS at h; omega)
    rw [hb]
    clear hb
    go_enter Try.func18, Try.ntmps18
    go_wp2
    go_ret
    exact ⟨rfl, bx1 _ _⟩
  by_cases h2 : 2099 < y
  · have hb : decide (okS y m d s) = false := decide_eq_false (fun h => by unfold okS at h; omega)
    rw [hb]
    clear hb
    go_enter Try.func18, Try.ntmps18
    go_wp2
    go_ret
    exact ⟨rfl, bx1 _ _⟩
  by_cases h3 : m < 1
  · have hb : decide (okS y m d s) = false := decide_eq_false (fun h => by unfold okS at h; omega)
    rw [hb]
    clear hb
    go_enter Try.func18, Try.ntmps18
    go_wp2
    go_ret
    exact ⟨rfl, bx1 _ _⟩
  by_cases h4 : 12 < m
  · have hb : decide (okS y m d s) = false := decide_eq_false (fun h => by unfold okS at h; omega)
    rw [hb]
    clear hb
    go_enter Try.func18, Try.ntmps18
    go_wp2
    go_ret
    exact ⟨rfl, bx1 _ _⟩
  have HM : Hid _ := fun u => daysOfMonth_any y m u (by omega)
  have E : decide (okS y m d s) = (decide (1 ≤ d) && decide (d ≤ dm y m) && decide (0 ≤ s) && decide (s < 86400)) := by
    refine Bool.eq_iff_iff.2 ?_
    rw [decide_eq_true_iff]
    simp only [Bool.and_eq_true, decide_eq_true_eq]
    unfold okS
    exact ⟨fun ⟨_, _, _, _, a, b, c, d⟩ => ⟨⟨⟨a, b⟩, c⟩, d⟩, fun ⟨⟨⟨a, b⟩, c⟩, d⟩ => ⟨by omega, by omega, by omega, by omega, a, b, c, d⟩⟩
  rw [E]
  clear E
  generalize dm y m = M at *
  by_cases h5 : 1 ≤ d
  · by_cases h6 : d ≤ M
    · by_cases h7 : 0 ≤ s
      · go_enter Try.func18, Try.ntmps18
        go_wp2_with fail
        go_quiet (first | (go_at_call 15; exact Calls.quiet_of_same (HM.out _)))
        go_wp2
        go_ret
        exact ⟨ret_bool (by simp [h5, h6, h7]), bdn (bx1 _ _) _⟩
      · have h7' : decide (0 ≤ s) = false := decide_eq_false h7
        go_enter Try.func18, Try.ntmps18
        go_wp2_with fail
        go_quiet (first | (go_at_call 15; exact Calls.quiet_of_same (HM.out _)))
        go_wp2
        go_ret
        exact ⟨ret_bool (by rw [h7']; simp), bdn (bx1 _ _) _⟩
    · have h6' : decide (d ≤ M) = false := decide_eq_false h6
      go_enter Try.func18, Try.ntmps18
      go_wp2_with fail
      go_quiet (first | (go_at_call 15; exact Calls.quiet_of_same (HM.out _)))
      go_wp2
      go_ret
      exact ⟨ret_bool (by rw [h6']; simp), bdn (bx1 _ _) _⟩
  · have h5' : decide (1 ≤ d) = false := decide_eq_false h5
    go_enter Try.func18, Try.ntmps18
    go_wp2_with fail
    go_quiet (first | (go_at_call 15; exact Calls.quiet_of_same (HM.out _)))
    go_wp2
    go_ret
    exact ⟨ret_bool (by rw [h5']; simp), bdn (bx1 _ _) _⟩
theorem SecCy {y : Int} (h0 : 2000 ≤ y) (h1 : y ≤ 2099) : 0 ≤ cy y ∧ cy y ≤ 36160 := by unfold cy; omega
/-- An argument's box. -/
def Bx (w u : World) (y m d s : Int) : Prop := Below w.heap.size w u ∧ u.heap[w.heap.size]? = some (.cells #[.int .i64 y, .int .i64 m, .int .i64 d, .int .i64 s] 23 (0, 0))
theorem Bx.lt {w u : World} {y m d s : Int} (h : Bx w u y m d s) : w.heap.size < u.heap.size := (Array.getElem?_eq_some_iff.1 h.2).1
theorem Bx.step {w u u' : World} {y m d s : Int} (h : Bx w u y m d s) (hb : Below u.heap.size u u') : Bx w u' y m d s := ⟨h.1.trans (hb.mono h.1.size), (hb.block _ h.lt).trans h.2⟩
theorem Bx.new (w : World) (y m d s : Int) : Bx w (w.alloc (.cells #[.int .i64 y, .int .i64 m, .int .i64 d, .int .i64 s] 23)) y m d s := ⟨bx1 _ _, heap_new _ _⟩
set_option maxRecDepth 100000 in
set_option maxHeartbeats 4000000 in
theorem implSeconds_yes (y m d s : Int) (w : World) (h : okS y m d s) : Calls Try.prog 11 #[sA y m d s] w fun e w' => e = .returned (.int .i64 (secs y m d s)) ∧ Below w.heap.size w w' := by
  have HS : Hid _ := fun u => isStamp_any y m d s u
  rw [show decide (okS y m d s) = true from decide_eq_true h] at HS
  have HB0 : Hid (Bx w (w.alloc (.cells #[.int .i64 y, .int .i64 m, .int .i64 d, .int .i64 s] 23)) y m d s) := Bx.new _ _ _ _ _
  obtain ⟨y0, y1, m0, m1, d0, d1, s0, s1⟩ := h
  have hd31 : d ≤ 31 := by have := dm_pos y m; omega
  clear d1
  unfold secs
  have HAG : Hid (sA y m d s = .agg #[.int .i64 y, .int .i64 m, .int .i64 d, .int .i64 s]) := rfl
  rw [HAG.out] at HS ⊢
  clear HAG
  go_enter Try.func11, Try.ntmps11
  go_wp2_with fail
  generalize (w.alloc (.cells #[.int .i64 y, .int .i64 m, .int .i64 d, .int .i64 s] 23)) = u0 at *
  refine (HS.out u0).mono ?_
  rintro e u1 ⟨rfl, hb⟩
  have HB1 : Hid (Bx w u1 y m d s) := HB0.out.step hb
  clear hb HB0 HS
  obtain ⟨c0, c1, c2, c3, cf⟩ := cel4 HB1.out.2
  have lt := HB1.out.lt
  go_wp2_with fail
  go_loopw [3, 4] (fun a b wr => ∃ k : Int, 2000 ≤ k ∧ k ≤ y ∧ a = .int .i64 (d - 1 + cy k) ∧ b = .int .i64 k ∧ u1 = wr) (fun _ b _ => (y - intOf b).toNat)
  case atStart => exact ⟨2000, by omega, by omega, by unfold cy; simp, rfl, rfl⟩
  case round =>
    obtain ⟨k, k0, k1, rfl, rfl, rfl⟩ := hrel
    have hcy := SecCy k0 (by omega)
    have HY : Hid _ := fun u => daysOfYear_any k u (by omega)
    have HSU : Hid (cy (k + 1) = cy k + dy k) := cy_succ k
    have hp := dy_pos k
    generalize dy k = Y at *
    by_cases hlt : k < y
    · generalize hx : cy k = x at *
      go_wp2_with (go_at_call 14; refine (HY.out _).mono ?_; rintro e u1 ⟨rfl, hu1⟩; rw [hu1]; clear hu1)
      go_roundw
      case rel => exact ⟨k + 1, by omega, by omega, by rw [HSU.out]; go_num, by go_num, by first | rfl | trivial⟩
      case measure => simp [intOf]; omega
    · obtain rfl : k = y := by omega
      clear HSU HY hp
      generalize hx : cy k = x at *
      go_wp2_with fail
      go_loopw [3, 5] (fun a b wr => ∃ j : Int, 1 ≤ j ∧ j ≤ m ∧ a = .int .i64 (d - 1 + x + cm k j) ∧ b = .int .i64 j ∧ u1 = wr) (fun _ b _ => (m - intOf b).toNat)
      case atStart => exact ⟨1, by omega, by omega, by rw [cm_one]; simp, rfl, rfl⟩
      case round =>
        obtain ⟨j, j0, j1, rfl, rfl, rfl⟩ := hrel
        have hcm := cm_in (y := k) j0 (by omega)
        have hpp := dy_pos k
        have HM : Hid _ := fun u => daysOfMonth_any k j u (by omega)
        have HSU : Hid (cm k (j + 1) = cm k j + dm k j) := cm_succ j0 (by omega)
        have hp := dm_pos k j
        generalize dm k j = M at *
        by_cases hlt2 : j < m
        · generalize hx2 : cm k j = z at *
          generalize dy k = Y at *
          go_wp2_with (go_at_call 15; refine (HM.out _).mono ?_; rintro e u1 ⟨rfl, hu1⟩; rw [hu1]; clear hu1)
          go_roundw
          case rel => exact ⟨j + 1, by omega, by omega, by rw [HSU.out]; go_num, by go_num, by first | rfl | trivial⟩
          case measure => simp [intOf]; omega
        · obtain rfl : j = m := by omega
          clear HSU HM
          generalize hx2 : cm k j = z at *
          generalize dy k = Y at *
          go_wp2_with fail
          go_ret
          exact ⟨rfl, HB1.out.1⟩
set_option maxRecDepth 100000 in
set_option maxHeartbeats 4000000 in
theorem implSeconds_no (y m d s : Int) (w : World) (h : ¬ okS y m d s) : Calls Try.prog 11 #[sA y m d s] w fun e w' => e = .returned (.int .i64 (-1)) ∧ Below w.heap.size w w' := by
  have HS : Hid _ := fun u => isStamp_any y m d s u
  rw [show decide (okS y m d s) = false from decide_eq_false h] at HS
  have HB0 : Hid (Bx w (w.alloc (.cells #[.int .i64 y, .int .i64 m, .int .i64 d, .int .i64 s] 23)) y m d s) := Bx.new _ _ _ _ _
  clear h
  have HAG : Hid (sA y m d s = .agg #[.int .i64 y, .int .i64 m, .int .i64 d, .int .i64 s]) := rfl
  rw [HAG.out] at HS ⊢
  clear HAG
  go_enter Try.func11, Try.ntmps11
  go_wp2_with fail
  generalize (w.alloc (.cells #[.int .i64 y, .int .i64 m, .int .i64 d, .int .i64 s] 23)) = u0 at *
  refine (HS.out u0).mono ?_
  rintro e u1 ⟨rfl, hb⟩
  have HB1 : Hid (Bx w u1 y m d s) := HB0.out.step hb
  clear hb HB0 HS
  go_wp2_with fail
  go_ret
  exact ⟨rfl, HB1.out.1⟩
end Go.Proofs.Ytakacapcphbjiaa
