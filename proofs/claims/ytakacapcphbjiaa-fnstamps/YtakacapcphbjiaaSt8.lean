import Derived.Test.YtakacapcphbjiaaSt6
namespace Go.Proofs.Ytakacapcphbjiaa
open Go.ChangeShapes Go.WideShapes Go.ChangeAt Go.RowKit

set_option maxRecDepth 100000 in
set_option maxHeartbeats 8000000 in
theorem specSeconds_yes (y m d s : Int) (w : World) (y0 : ¬ y < 2000) (y1 : ¬ 2099 < y) (m0 : ¬ m < 1) (m1 : ¬ 12 < m) (d0 : ¬ d < 1) (h : d ≤ dm y m) (h2 : ¬ s < 0) (h3 : ¬ 86399 < s) : Calls Try.prog 9 #[sA y m d s] w fun e w' => e = .returned (.int .i64 (secs y m d s)) ∧ Below w.heap.size w w' := by
  have HM : Hid _ := fun u => l09Days_any y m u (by omega) (by omega) (by omega)
  have HB0 : Hid (Bx w (w.alloc (.cells #[.int .i64 y, .int .i64 m, .int .i64 d, .int .i64 s] 23)) y m d s) := Bx.new _ _ _ _ _
  have HD31 : Hid (d ≤ 31) := (show d ≤ 31 by have := dm_pos y m; omega)
  generalize dm y m = M at *
  have h1' : decide (y < 2000) = false := decide_eq_false y0
  have h2' : decide (2099 < y) = false := decide_eq_false y1
  have h3' : decide (m < 1) = false := decide_eq_false m0
  have h4' : decide (12 < m) = false := decide_eq_false m1
  have h5' : decide (d < 1) = false := decide_eq_false d0
  have h6 : decide (M < d) = false := decide_eq_false (by omega)
  have h7 : decide (s < 0) = false := decide_eq_false h2
  have h8 : decide (86399 < s) = false := decide_eq_false h3
  have hd31 : d ≤ 31 := HD31.out
  unfold sA secs
  go_enter Try.func9, Try.ntmps9
  go_wp2_with fail
  generalize (w.alloc (.cells #[.int .i64 y, .int .i64 m, .int .i64 d, .int .i64 s] 23)) = u0 at *
  obtain ⟨c0, c1, c2, c3, cf⟩ := cel4 HB0.out.2
  have lt := HB0.out.lt
  have HS : Hid (u0.drew.cell? ⟨w.heap.size, 0, none⟩ = some (.int .i64 y) ∧ u0.drew.cell? ⟨w.heap.size, 1, none⟩ = some (.int .i64 m) ∧ u0.drew.cell? ⟨w.heap.size, 2, none⟩ = some (.int .i64 d) ∧ u0.drew.cell? ⟨w.heap.size, 3, none⟩ = some (.int .i64 s)) := ⟨c0, c1, c2, c3⟩
  refine wp_region_held (S := fun w' => w'.cell? ⟨w.heap.size, 0, none⟩ = some (.int .i64 y) ∧ w'.cell? ⟨w.heap.size, 1, none⟩ = some (.int .i64 m) ∧ w'.cell? ⟨w.heap.size, 2, none⟩ = some (.int .i64 d) ∧ w'.cell? ⟨w.heap.size, 3, none⟩ = some (.int .i64 s)) (by kernel_rfl) ?_
  change wpAnyH _ _ _ _ _ _ _ _ (World.drew _)
  refine wpAnyH_take (i := 0) (v := .pointer (some ⟨w.heap.size, 0, none⟩)) rfl (by kernel_rfl) (by kernel_rfl) (by kernel_rfl) (fun _ _ _ h => h) (Or.inl ⟨by kernel_rfl, fun w9 h9 => ?_⟩) HS.out ?_
  · clear h9; go_simp
  refine wpAnyH_take (i := 1) (v := .int .i64 y) rfl (by kernel_rfl) (by kernel_rfl) (by kernel_rfl) (fun _ _ _ h => h) (Or.inl ⟨by kernel_rfl, fun w9 h9 => ?_⟩) HS.out ?_
  · have h91 := h9.1
    go_simp
  refine wpAnyH_take (i := 2) (v := .bool false) rfl (by kernel_rfl) (by kernel_rfl) (by kernel_rfl) (fun _ _ _ h => h) (Or.inl ⟨by kernel_rfl, fun w9 h9 => ?_⟩) HS.out ?_
  · clear h9; go_simp
  refine wpAnyH_take (i := 3) (v := .bool false) rfl (by kernel_rfl) (by kernel_rfl) (by kernel_rfl) (fun _ _ _ h => h) (Or.inl ⟨by kernel_rfl, fun w9 h9 => ?_⟩) HS.out ?_
  · clear h9; go_simp
  refine wpAnyH_take (i := 4) (v := .pointer (some ⟨w.heap.size, 0, none⟩)) rfl (by kernel_rfl) (by kernel_rfl) (by kernel_rfl) (fun _ _ _ h => h) (Or.inl ⟨by kernel_rfl, fun w9 h9 => ?_⟩) HS.out ?_
  · clear h9; go_simp
  refine wpAnyH_take (i := 5) (v := .int .i64 y) rfl (by kernel_rfl) (by kernel_rfl) (by kernel_rfl) (fun _ _ _ h => h) (Or.inl ⟨by kernel_rfl, fun w9 h9 => ?_⟩) HS.out ?_
  · have h91 := h9.1
    go_simp
  refine wpAnyH_take (i := 6) (v := .bool false) rfl (by kernel_rfl) (by kernel_rfl) (by kernel_rfl) (fun _ _ _ h => h) (Or.inl ⟨by kernel_rfl, fun w9 h9 => ?_⟩) HS.out ?_
  · clear h9; go_simp
  refine wpAnyH_take (i := 7) (v := .bool false) rfl (by kernel_rfl) (by kernel_rfl) (by kernel_rfl) (fun _ _ _ h => h) (Or.inl ⟨by kernel_rfl, fun w9 h9 => ?_⟩) HS.out ?_
  · clear h9; go_simp
  refine wpAnyH_take (i := 8) (v := .bool false) rfl (by kernel_rfl) (by kernel_rfl) (by kernel_rfl) (fun _ _ _ h => h) (Or.inl ⟨by kernel_rfl, fun w9 h9 => ?_⟩) HS.out ?_
  · clear h9; go_simp
  refine wpAnyH_take (i := 9) (v := .pointer (some ⟨w.heap.size, 1, none⟩)) rfl (by kernel_rfl) (by kernel_rfl) (by kernel_rfl) (fun _ _ _ h => h) (Or.inl ⟨by kernel_rfl, fun w9 h9 => ?_⟩) HS.out ?_
  · clear h9; go_simp
  refine wpAnyH_take (i := 10) (v := .int .i64 m) rfl (by kernel_rfl) (by kernel_rfl) (by kernel_rfl) (fun _ _ _ h => h) (Or.inl ⟨by kernel_rfl, fun w9 h9 => ?_⟩) HS.out ?_
  · have h91 := h9.2.1
    go_simp
  refine wpAnyH_take (i := 11) (v := .bool false) rfl (by kernel_rfl) (by kernel_rfl) (by kernel_rfl) (fun _ _ _ h => h) (Or.inl ⟨by kernel_rfl, fun w9 h9 => ?_⟩) HS.out ?_
  · clear h9; go_simp
  refine wpAnyH_take (i := 12) (v := .bool false) rfl (by kernel_rfl) (by kernel_rfl) (by kernel_rfl) (fun _ _ _ h => h) (Or.inl ⟨by kernel_rfl, fun w9 h9 => ?_⟩) HS.out ?_
  · clear h9; go_simp
  refine wpAnyH_take (i := 13) (v := .bool false) rfl (by kernel_rfl) (by kernel_rfl) (by kernel_rfl) (fun _ _ _ h => h) (Or.inl ⟨by kernel_rfl, fun w9 h9 => ?_⟩) HS.out ?_
  · clear h9; go_simp
  refine wpAnyH_take (i := 14) (v := .pointer (some ⟨w.heap.size, 1, none⟩)) rfl (by kernel_rfl) (by kernel_rfl) (by kernel_rfl) (fun _ _ _ h => h) (Or.inl ⟨by kernel_rfl, fun w9 h9 => ?_⟩) HS.out ?_
  · clear h9; go_simp
  refine wpAnyH_take (i := 15) (v := .int .i64 m) rfl (by kernel_rfl) (by kernel_rfl) (by kernel_rfl) (fun _ _ _ h => h) (Or.inl ⟨by kernel_rfl, fun w9 h9 => ?_⟩) HS.out ?_
  · have h91 := h9.2.1
    go_simp
  refine wpAnyH_take (i := 16) (v := .bool false) rfl (by kernel_rfl) (by kernel_rfl) (by kernel_rfl) (fun _ _ _ h => h) (Or.inl ⟨by kernel_rfl, fun w9 h9 => ?_⟩) HS.out ?_
  · clear h9; go_simp
  refine wpAnyH_take (i := 17) (v := .bool false) rfl (by kernel_rfl) (by kernel_rfl) (by kernel_rfl) (fun _ _ _ h => h) (Or.inl ⟨by kernel_rfl, fun w9 h9 => ?_⟩) HS.out ?_
  · clear h9; go_simp
  refine wpAnyH_take (i := 18) (v := .bool false) rfl (by kernel_rfl) (by kernel_rfl) (by kernel_rfl) (fun _ _ _ h => h) (Or.inl ⟨by kernel_rfl, fun w9 h9 => ?_⟩) HS.out ?_
  · clear h9; go_simp
  refine wpAnyH_take (i := 19) (v := .pointer (some ⟨w.heap.size, 2, none⟩)) rfl (by kernel_rfl) (by kernel_rfl) (by kernel_rfl) (fun _ _ _ h => h) (Or.inl ⟨by kernel_rfl, fun w9 h9 => ?_⟩) HS.out ?_
  · clear h9; go_simp
  refine wpAnyH_take (i := 20) (v := .int .i64 d) rfl (by kernel_rfl) (by kernel_rfl) (by kernel_rfl) (fun _ _ _ h => h) (Or.inl ⟨by kernel_rfl, fun w9 h9 => ?_⟩) HS.out ?_
  · have h91 := h9.2.2.1
    go_simp
  refine wpAnyH_take (i := 21) (v := .bool false) rfl (by kernel_rfl) (by kernel_rfl) (by kernel_rfl) (fun _ _ _ h => h) (Or.inl ⟨by kernel_rfl, fun w9 h9 => ?_⟩) HS.out ?_
  · clear h9; go_simp
  refine wpAnyH_take (i := 22) (v := .bool false) rfl (by kernel_rfl) (by kernel_rfl) (by kernel_rfl) (fun _ _ _ h => h) (Or.inl ⟨by kernel_rfl, fun w9 h9 => ?_⟩) HS.out ?_
  · clear h9; go_simp
  refine wpAnyH_take (i := 23) (v := .bool false) rfl (by kernel_rfl) (by kernel_rfl) (by kernel_rfl) (fun _ _ _ h => h) (Or.inl ⟨by kernel_rfl, fun w9 h9 => ?_⟩) HS.out ?_
  · clear h9; go_simp
  refine wpAnyH_take (i := 24) (v := .pointer (some ⟨w.heap.size, 2, none⟩)) rfl (by kernel_rfl) (by kernel_rfl) (by kernel_rfl) (fun _ _ _ h => h) (Or.inl ⟨by kernel_rfl, fun w9 h9 => ?_⟩) HS.out ?_
  · clear h9; go_simp
  refine wpAnyH_take (i := 25) (v := .int .i64 d) rfl (by kernel_rfl) (by kernel_rfl) (by kernel_rfl) (fun _ _ _ h => h) (Or.inl ⟨by kernel_rfl, fun w9 h9 => ?_⟩) HS.out ?_
  · have h91 := h9.2.2.1
    go_simp
  refine wpAnyH_take (i := 26) (v := .pointer (some ⟨w.heap.size, 0, none⟩)) rfl (by kernel_rfl) (by kernel_rfl) (by kernel_rfl) (fun _ _ _ h => h) (Or.inl ⟨by kernel_rfl, fun w9 h9 => ?_⟩) HS.out ?_
  · clear h9; go_simp
  refine wpAnyH_take (i := 27) (v := .int .i64 y) rfl (by kernel_rfl) (by kernel_rfl) (by kernel_rfl) (fun _ _ _ h => h) (Or.inl ⟨by kernel_rfl, fun w9 h9 => ?_⟩) HS.out ?_
  · have h91 := h9.1
    go_simp
  refine wpAnyH_take (i := 28) (v := .pointer (some ⟨w.heap.size, 1, none⟩)) rfl (by kernel_rfl) (by kernel_rfl) (by kernel_rfl) (fun _ _ _ h => h) (Or.inl ⟨by kernel_rfl, fun w9 h9 => ?_⟩) HS.out ?_
  · clear h9; go_simp
  refine wpAnyH_take (i := 29) (v := .int .i64 m) rfl (by kernel_rfl) (by kernel_rfl) (by kernel_rfl) (fun _ _ _ h => h) (Or.inl ⟨by kernel_rfl, fun w9 h9 => ?_⟩) HS.out ?_
  · have h91 := h9.2.1
    go_simp
  refine held_one 30 (by kernel_rfl) rfl (by kernel_rfl) fun K hK => ?_
  go_simp
  go_wp2_with (go_at_call 13; refine Calls.mono (HM.out _) ?_; rintro e u1 ⟨rfl, hb⟩; have HB1 : Hid (Bx w u1 y m d s) := HB0.out.step (show Below u0.heap.size u0 u1 from ⟨hb.os, hb.tape, hb.output, hb.size, hb.block⟩); clear hb)
  have HS1 : Hid (u1.cell? ⟨w.heap.size, 0, none⟩ = some (.int .i64 y) ∧ u1.cell? ⟨w.heap.size, 1, none⟩ = some (.int .i64 m) ∧ u1.cell? ⟨w.heap.size, 2, none⟩ = some (.int .i64 d) ∧ u1.cell? ⟨w.heap.size, 3, none⟩ = some (.int .i64 s)) := (show _ ∧ _ by obtain ⟨e0, e1, e2, e3, _⟩ := cel4 HB1.out.2; exact ⟨e0, e1, e2, e3⟩)
  refine hK _ _ HS1.out ?_
  clear hK K
  refine wpAnyH_take (i := 31) (v := .bool false) rfl (by kernel_rfl) (by kernel_rfl) (by kernel_rfl) (fun _ _ _ h => h) (Or.inl ⟨by kernel_rfl, fun w9 h9 => ?_⟩) HS1.out ?_
  · clear h9; go_simp
  refine wpAnyH_take (i := 32) (v := .bool false) rfl (by kernel_rfl) (by kernel_rfl) (by kernel_rfl) (fun _ _ _ h => h) (Or.inl ⟨by kernel_rfl, fun w9 h9 => ?_⟩) HS1.out ?_
  · clear h9; go_simp
  refine wpAnyH_take (i := 33) (v := .bool false) rfl (by kernel_rfl) (by kernel_rfl) (by kernel_rfl) (fun _ _ _ h => h) (Or.inl ⟨by kernel_rfl, fun w9 h9 => ?_⟩) HS1.out ?_
  · clear h9; go_simp
  refine wpAnyH_take (i := 34) (v := .pointer (some ⟨w.heap.size, 3, none⟩)) rfl (by kernel_rfl) (by kernel_rfl) (by kernel_rfl) (fun _ _ _ h => h) (Or.inl ⟨by kernel_rfl, fun w9 h9 => ?_⟩) HS1.out ?_
  · clear h9; go_simp
  refine wpAnyH_take (i := 35) (v := .int .i64 s) rfl (by kernel_rfl) (by kernel_rfl) (by kernel_rfl) (fun _ _ _ h => h) (Or.inl ⟨by kernel_rfl, fun w9 h9 => ?_⟩) HS1.out ?_
  · have h91 := h9.2.2.2
    go_simp
  refine wpAnyH_take (i := 36) (v := .bool false) rfl (by kernel_rfl) (by kernel_rfl) (by kernel_rfl) (fun _ _ _ h => h) (Or.inl ⟨by kernel_rfl, fun w9 h9 => ?_⟩) HS1.out ?_
  · clear h9; go_simp
  refine wpAnyH_take (i := 37) (v := .bool false) rfl (by kernel_rfl) (by kernel_rfl) (by kernel_rfl) (fun _ _ _ h => h) (Or.inl ⟨by kernel_rfl, fun w9 h9 => ?_⟩) HS1.out ?_
  · clear h9; go_simp
  refine wpAnyH_take (i := 38) (v := .bool false) rfl (by kernel_rfl) (by kernel_rfl) (by kernel_rfl) (fun _ _ _ h => h) (Or.inl ⟨by kernel_rfl, fun w9 h9 => ?_⟩) HS1.out ?_
  · clear h9; go_simp
  refine wpAnyH_take (i := 39) (v := .pointer (some ⟨w.heap.size, 3, none⟩)) rfl (by kernel_rfl) (by kernel_rfl) (by kernel_rfl) (fun _ _ _ h => h) (Or.inl ⟨by kernel_rfl, fun w9 h9 => ?_⟩) HS1.out ?_
  · clear h9; go_simp
  refine wpAnyH_take (i := 40) (v := .int .i64 s) rfl (by kernel_rfl) (by kernel_rfl) (by kernel_rfl) (fun _ _ _ h => h) (Or.inl ⟨by kernel_rfl, fun w9 h9 => ?_⟩) HS1.out ?_
  · have h91 := h9.2.2.2
    go_simp
  refine wpAnyH_take (i := 41) (v := .bool false) rfl (by kernel_rfl) (by kernel_rfl) (by kernel_rfl) (fun _ _ _ h => h) (Or.inl ⟨by kernel_rfl, fun w9 h9 => ?_⟩) HS1.out ?_
  · clear h9; go_simp
  refine wpAnyH_take (i := 42) (v := .bool false) rfl (by kernel_rfl) (by kernel_rfl) (by kernel_rfl) (fun _ _ _ h => h) (Or.inl ⟨by kernel_rfl, fun w9 h9 => ?_⟩) HS1.out ?_
  · clear h9; go_simp
  refine wpAnyH_done (by kernel_rfl) ?_ _
  go_simp
  clear HS HB0 HM c0 c1 c2 c3 cf lt h1' h2' h3' h4' h5' h6 h7 h8 HS1
  obtain ⟨c0, c1, c2, c3, cf⟩ := cel4 HB1.out.2
  have lt := HB1.out.lt
  have y0' : 2000 ≤ y := by omega
  have y1' : y ≤ 2099 := by omega
  have m0' : 1 ≤ m := by omega
  have m1' : m ≤ 12 := by omega
  have d0' : 1 ≤ d := by omega
  have s0' : 0 ≤ s := by omega
  have s1' : s < 86400 := by omega
  clear y0 y1 m0 m1 d0 h2 h3
  go_wp2_with fail
  go_loopw [3, 4] (fun a b wr => ∃ k : Int, 2000 ≤ k ∧ k ≤ y ∧ a = .int .i64 (d - 1 + cy k) ∧ b = .int .i64 k ∧ u1 = wr) (fun _ b _ => (y - intOf b).toNat)
  case atStart => exact ⟨2000, by omega, by omega, by unfold cy; simp, rfl, rfl⟩
  case round =>
    obtain ⟨k, k0, k1, rfl, rfl, rfl⟩ := hrel
    have hcy := SecCy k0 (by omega)
    have HY : Hid _ := fun u => l09Leap_any k u (by omega)
    have HSU : Hid (cy (k + 1) = cy k + dy k) := cy_succ k
    by_cases hlt : k < y
    · by_cases h4 : k % 4 = 0
      · have hd : dy k = 366 := by simp [dy, h4]
        simp only [h4, decide_true] at HY
        rw [hd] at HSU
        have HB : Hid _ := fun u => l01Bool_any true u
        simp only [if_true] at HB
        generalize hx : cy k = x at *
        go_wp2_with (first | (go_at_call 17; refine (HY.out _).mono ?_; rintro e u1 ⟨rfl, hu1⟩; rw [hu1]; clear hu1) | (go_at_call 16; refine (HB.out _).mono ?_; rintro e u1 ⟨rfl, hu1⟩; rw [hu1]; clear hu1))
        go_roundw
        case rel => exact ⟨k + 1, by omega, by omega, by rw [HSU.out]; go_num, by go_num, by first | rfl | trivial⟩
        case measure => simp [intOf]; omega
      · have hd : dy k = 365 := by simp [dy, h4]
        simp only [h4, decide_false] at HY
        rw [hd] at HSU
        have HB : Hid (∀ u : World, Calls Try.prog 16 #[.bool false] u fun e w' => e = .returned (.int .i64 0) ∧ w' = u) := fun u => by simpa using l01Bool_any false u
        generalize hx : cy k = x at *
        go_wp2_with (first | (go_at_call 17; refine (HY.out _).mono ?_; rintro e u1 ⟨rfl, hu1⟩; rw [hu1]; clear hu1) | (go_at_call 16; refine (HB.out _).mono ?_; rintro e u1 ⟨rfl, hu1⟩; rw [hu1]; clear hu1))
        go_roundw
        case rel => exact ⟨k + 1, by omega, by omega, by rw [HSU.out]; go_num, by go_num, by first | rfl | trivial⟩
        case measure => simp [intOf]; omega
    · obtain rfl : k = y := by omega
      clear HSU HY c0 c1 c2 c3 cf
      generalize hx : cy k = x at *
      obtain ⟨c0, c1, c2, c3, cf⟩ := cel4 HB1.out.2
      go_wp2_with fail
      clear c0 c1 c2 c3 cf
      go_loopw [3, 5] (fun a b wr => ∃ j : Int, 1 ≤ j ∧ j ≤ m ∧ a = .int .i64 (d - 1 + x + cm k j) ∧ b = .int .i64 j ∧ Bx w wr k m d s) (fun _ b _ => (m - intOf b).toNat)
      case atStart => exact ⟨1, by omega, by omega, by rw [cm_one]; simp, rfl, HB1.out⟩
      case round =>
        obtain ⟨j, j0, j1, rfl, rfl, hbx⟩ := hrel
        have HBX : Hid (Bx w wr k m d s) := hbx
        obtain ⟨c0, c1, c2, c3, cf⟩ := cel4 hbx.2
        have lt2 := hbx.lt
        clear hbx
        have hcm := cm_in (y := k) j0 (by omega)
        have hpp := dy_pos k
        have HM : Hid _ := fun u => l09Days_any k j u (by omega) j0 (by omega)
        have HSU : Hid (cm k (j + 1) = cm k j + dm k j) := cm_succ j0 (by omega)
        have hp := dm_pos k j
        generalize dm k j = M at *
        by_cases hlt2 : j < m
        · generalize hx2 : cm k j = z at *
          generalize dy k = Y at *
          go_wp2_with fail
          refine (HM.out _).mono ?_
          rintro e u3 ⟨rfl, hb3⟩
          have HBX3 : Hid (Bx w u3 k m d s) := HBX.out.step hb3
          clear hb3
          go_wp2_with fail
          go_roundw
          case rel => exact ⟨j + 1, by omega, by omega, by rw [HSU.out]; go_num, by go_num, HBX3.out⟩
          case measure => simp [intOf]; omega
        · obtain rfl : j = m := by omega
          clear HSU HM
          generalize hx2 : cm k j = z at *
          generalize dy k = Y at *
          go_wp2_with fail
          go_ret
          exact ⟨rfl, HBX.out.1⟩
end Go.Proofs.Ytakacapcphbjiaa
