import Derived.Test.YtakacapcphbjiaaSt6
namespace Go.Proofs.Ytakacapcphbjiaa
open Go.ChangeShapes Go.WideShapes Go.ChangeAt Go.RowKit

set_option maxRecDepth 100000 in
set_option maxHeartbeats 8000000 in
theorem specSeconds_no3 (y m d s : Int) (w : World) (y0 : ¬ y < 2000) (y1 : ¬ 2099 < y) (m0 : ¬ m < 1) (m1 : ¬ 12 < m) (d0 : ¬ d < 1) (h : d ≤ dm y m) (h2 : s < 0) : Calls Try.prog 9 #[sA y m d s] w fun e w' => e = .returned (.int .i64 (-1)) ∧ Below w.heap.size w w' := by
  have HM : Hid _ := fun u => l09Days_any y m u (by omega) (by omega) (by omega)
  have HB0 : Hid (Bx w (w.alloc (.cells #[.int .i64 y, .int .i64 m, .int .i64 d, .int .i64 s] 23)) y m d s) := Bx.new _ _ _ _ _
  generalize dm y m = M at *
  have h1' : decide (y < 2000) = false := decide_eq_false y0
  have h2' : decide (2099 < y) = false := decide_eq_false y1
  have h3' : decide (m < 1) = false := decide_eq_false m0
  have h4' : decide (12 < m) = false := decide_eq_false m1
  have h5' : decide (d < 1) = false := decide_eq_false d0
  have h6 : decide (M < d) = false := decide_eq_false (by omega)
  have h7 : decide (s < 0) = true := decide_eq_true h2
  unfold sA
  go_enter Try.func9, Try.ntmps9
  go_wp2_with fail
  generalize (w.alloc (.cells #[.int .i64 y, .int .i64 m, .int .i64 d, .int .i64 s] 23)) = u0 at *
  obtain ⟨c0, c1, c2, c3, cf⟩ := cel4 HB0.out.2
  have lt := HB0.out.lt
  have HS : Hid (u0.drew.cell? ⟨w.heap.size, 0, none⟩ = some (.int .i64 y) ∧ u0.drew.cell? ⟨w.heap.size, 1, none⟩ = some (.int .i64 m) ∧ u0.drew.cell? ⟨w.heap.size, 2, none⟩ = some (.int .i64 d) ∧ u0.drew.cell? ⟨w.heap.size, 3, none⟩ = some (.int .i64 s)) := ⟨c0, c1, c2, c3⟩
  refine wp_region_held (S := fun w' => w'.cell? ⟨w.heap.size, 0, none⟩ = some (.int .i64 y) ∧ w'.cell? ⟨w.heap.size, 1, none⟩ = some (.int .i64 m) ∧ w'.cell? ⟨w.heap.size, 2, none⟩ = some (.int .i64 d) ∧ w'.cell? ⟨w.heap.size, 3, none⟩ = some (.int .i64 s)) (by kernel_rfl) ?_
  change wpAnyH _ _ _ _ _ _ _ _ (World.drew _)
  refine wpAnyH_take (i := 0) (v := .pointer (some ⟨w.heap.size, 0, none⟩)) rfl (by kernel_rfl) (by kernel_rfl) (by kernel_rfl) (fun _ _ _ h => h) (Or.inl ⟨by kernel_rfl, fun w9 h9 => ?_⟩) HS.out ?_
  · clear h9; go_simp
  refine wpAnyH_take (i := 1) (v := .int .i64 y) rfl (by kernel_rfl) (by kernel_rfl) (by kernel_rfl) (fun _ _ _ h => h) (Or.inl ⟨by kernel_rfl, fun w9 h9 => ?_⟩) HS.out ?_
  · have h91 := h9.1
    go_simp
  refine wpAnyH_take (i := 2) (v := .bool false) rfl (by kernel_rfl) (by kernel_rfl) (by kernel_rfl) (fun _ _ _ h => h) (Or.inl ⟨by kernel_rfl, fun w9 h9 => ?_⟩) HS.out ?_
  · clear h9; go_simp
  refine wpAnyH_take (i := 3) (v := .bool false) rfl (by kernel_rfl) (by kernel_rfl) (by kernel_rfl) (fun _ _ _ h => h) (Or.inl ⟨by kernel_rfl, fun w9 h9 => ?_⟩) HS.out ?_
  · clear h9; go_simp
  refine wpAnyH_take (i := 4) (v := .pointer (some ⟨w.heap.size, 0, none⟩)) rfl (by kernel_rfl) (by kernel_rfl) (by kernel_rfl) (fun _ _ _ h => h) (Or.inl ⟨by kernel_rfl, fun w9 h9 => ?_⟩) HS.out ?_
  · clear h9; go_simp
  refine wpAnyH_take (i := 5) (v := .int .i64 y) rfl (by kernel_rfl) (by kernel_rfl) (by kernel_rfl) (fun _ _ _ h => h) (Or.inl ⟨by kernel_rfl, fun w9 h9 => ?_⟩) HS.out ?_
  · have h91 := h9.1
    go_simp
  refine wpAnyH_take (i := 6) (v := .bool false) rfl (by kernel_rfl) (by kernel_rfl) (by kernel_rfl) (fun _ _ _ h => h) (Or.inl ⟨by kernel_rfl, fun w9 h9 => ?_⟩) HS.out ?_
  · clear h9; go_simp
  refine wpAnyH_take (i := 7) (v := .bool false) rfl (by kernel_rfl) (by kernel_rfl) (by kernel_rfl) (fun _ _ _ h => h) (Or.inl ⟨by kernel_rfl, fun w9 h9 => ?_⟩) HS.out ?_
  · clear h9; go_simp
  refine wpAnyH_take (i := 8) (v := .bool false) rfl (by kernel_rfl) (by kernel_rfl) (by kernel_rfl) (fun _ _ _ h => h) (Or.inl ⟨by kernel_rfl, fun w9 h9 => ?_⟩) HS.out ?_
  · clear h9; go_simp
  refine wpAnyH_take (i := 9) (v := .pointer (some ⟨w.heap.size, 1, none⟩)) rfl (by kernel_rfl) (by kernel_rfl) (by kernel_rfl) (fun _ _ _ h => h) (Or.inl ⟨by kernel_rfl, fun w9 h9 => ?_⟩) HS.out ?_
  · clear h9; go_simp
  refine wpAnyH_take (i := 10) (v := .int .i64 m) rfl (by kernel_rfl) (by kernel_rfl) (by kernel_rfl) (fun _ _ _ h => h) (Or.inl ⟨by kernel_rfl, fun w9 h9 => ?_⟩) HS.out ?_
  · have h91 := h9.2.1
    go_simp
  refine wpAnyH_take (i := 11) (v := .bool false) rfl (by kernel_rfl) (by kernel_rfl) (by kernel_rfl) (fun _ _ _ h => h) (Or.inl ⟨by kernel_rfl, fun w9 h9 => ?_⟩) HS.out ?_
  · clear h9; go_simp
  refine wpAnyH_take (i := 12) (v := .bool false) rfl (by kernel_rfl) (by kernel_rfl) (by kernel_rfl) (fun _ _ _ h => h) (Or.inl ⟨by kernel_rfl, fun w9 h9 => ?_⟩) HS.out ?_
  · clear h9; go_simp
  refine wpAnyH_take (i := 13) (v := .bool false) rfl (by kernel_rfl) (by kernel_rfl) (by kernel_rfl) (fun _ _ _ h => h) (Or.inl ⟨by kernel_rfl, fun w9 h9 => ?_⟩) HS.out ?_
  · clear h9; go_simp
  refine wpAnyH_take (i := 14) (v := .pointer (some ⟨w.heap.size, 1, none⟩)) rfl (by kernel_rfl) (by kernel_rfl) (by kernel_rfl) (fun _ _ _ h => h) (Or.inl ⟨by kernel_rfl, fun w9 h9 => ?_⟩) HS.out ?_
  · clear h9; go_simp
  refine wpAnyH_take (i := 15) (v := .int .i64 m) rfl (by kernel_rfl) (by kernel_rfl) (by kernel_rfl) (fun _ _ _ h => h) (Or.inl ⟨by kernel_rfl, fun w9 h9 => ?_⟩) HS.out ?_
  · have h91 := h9.2.1
    go_simp
  refine wpAnyH_take (i := 16) (v := .bool false) rfl (by kernel_rfl) (by kernel_rfl) (by kernel_rfl) (fun _ _ _ h => h) (Or.inl ⟨by kernel_rfl, fun w9 h9 => ?_⟩) HS.out ?_
  · clear h9; go_simp
  refine wpAnyH_take (i := 17) (v := .bool false) rfl (by kernel_rfl) (by kernel_rfl) (by kernel_rfl) (fun _ _ _ h => h) (Or.inl ⟨by kernel_rfl, fun w9 h9 => ?_⟩) HS.out ?_
  · clear h9; go_simp
  refine wpAnyH_take (i := 18) (v := .bool false) rfl (by kernel_rfl) (by kernel_rfl) (by kernel_rfl) (fun _ _ _ h => h) (Or.inl ⟨by kernel_rfl, fun w9 h9 => ?_⟩) HS.out ?_
  · clear h9; go_simp
  refine wpAnyH_take (i := 19) (v := .pointer (some ⟨w.heap.size, 2, none⟩)) rfl (by kernel_rfl) (by kernel_rfl) (by kernel_rfl) (fun _ _ _ h => h) (Or.inl ⟨by kernel_rfl, fun w9 h9 => ?_⟩) HS.out ?_
  · clear h9; go_simp
  refine wpAnyH_take (i := 20) (v := .int .i64 d) rfl (by kernel_rfl) (by kernel_rfl) (by kernel_rfl) (fun _ _ _ h => h) (Or.inl ⟨by kernel_rfl, fun w9 h9 => ?_⟩) HS.out ?_
  · have h91 := h9.2.2.1
    go_simp
  refine wpAnyH_take (i := 21) (v := .bool false) rfl (by kernel_rfl) (by kernel_rfl) (by kernel_rfl) (fun _ _ _ h => h) (Or.inl ⟨by kernel_rfl, fun w9 h9 => ?_⟩) HS.out ?_
  · clear h9; go_simp
  refine wpAnyH_take (i := 22) (v := .bool false) rfl (by kernel_rfl) (by kernel_rfl) (by kernel_rfl) (fun _ _ _ h => h) (Or.inl ⟨by kernel_rfl, fun w9 h9 => ?_⟩) HS.out ?_
  · clear h9; go_simp
  refine wpAnyH_take (i := 23) (v := .bool false) rfl (by kernel_rfl) (by kernel_rfl) (by kernel_rfl) (fun _ _ _ h => h) (Or.inl ⟨by kernel_rfl, fun w9 h9 => ?_⟩) HS.out ?_
  · clear h9; go_simp
  refine wpAnyH_take (i := 24) (v := .pointer (some ⟨w.heap.size, 2, none⟩)) rfl (by kernel_rfl) (by kernel_rfl) (by kernel_rfl) (fun _ _ _ h => h) (Or.inl ⟨by kernel_rfl, fun w9 h9 => ?_⟩) HS.out ?_
  · clear h9; go_simp
  refine wpAnyH_take (i := 25) (v := .int .i64 d) rfl (by kernel_rfl) (by kernel_rfl) (by kernel_rfl) (fun _ _ _ h => h) (Or.inl ⟨by kernel_rfl, fun w9 h9 => ?_⟩) HS.out ?_
  · have h91 := h9.2.2.1
    go_simp
  refine wpAnyH_take (i := 26) (v := .pointer (some ⟨w.heap.size, 0, none⟩)) rfl (by kernel_rfl) (by kernel_rfl) (by kernel_rfl) (fun _ _ _ h => h) (Or.inl ⟨by kernel_rfl, fun w9 h9 => ?_⟩) HS.out ?_
  · clear h9; go_simp
  refine wpAnyH_take (i := 27) (v := .int .i64 y) rfl (by kernel_rfl) (by kernel_rfl) (by kernel_rfl) (fun _ _ _ h => h) (Or.inl ⟨by kernel_rfl, fun w9 h9 => ?_⟩) HS.out ?_
  · have h91 := h9.1
    go_simp
  refine wpAnyH_take (i := 28) (v := .pointer (some ⟨w.heap.size, 1, none⟩)) rfl (by kernel_rfl) (by kernel_rfl) (by kernel_rfl) (fun _ _ _ h => h) (Or.inl ⟨by kernel_rfl, fun w9 h9 => ?_⟩) HS.out ?_
  · clear h9; go_simp
  refine wpAnyH_take (i := 29) (v := .int .i64 m) rfl (by kernel_rfl) (by kernel_rfl) (by kernel_rfl) (fun _ _ _ h => h) (Or.inl ⟨by kernel_rfl, fun w9 h9 => ?_⟩) HS.out ?_
  · have h91 := h9.2.1
    go_simp
  refine held_one 30 (by kernel_rfl) rfl (by kernel_rfl) fun K hK => ?_
  go_simp
  go_wp2_with (go_at_call 13; refine Calls.mono (HM.out _) ?_; rintro e u1 ⟨rfl, hb⟩; have HB1 : Hid (Bx w u1 y m d s) := HB0.out.step (show Below u0.heap.size u0 u1 from ⟨hb.os, hb.tape, hb.output, hb.size, hb.block⟩); clear hb)
  have HS1 : Hid (u1.cell? ⟨w.heap.size, 0, none⟩ = some (.int .i64 y) ∧ u1.cell? ⟨w.heap.size, 1, none⟩ = some (.int .i64 m) ∧ u1.cell? ⟨w.heap.size, 2, none⟩ = some (.int .i64 d) ∧ u1.cell? ⟨w.heap.size, 3, none⟩ = some (.int .i64 s)) := (show _ ∧ _ by obtain ⟨e0, e1, e2, e3, _⟩ := cel4 HB1.out.2; exact ⟨e0, e1, e2, e3⟩)
  refine hK _ _ HS1.out ?_
  clear hK K
  refine wpAnyH_take (i := 31) (v := .bool false) rfl (by kernel_rfl) (by kernel_rfl) (by kernel_rfl) (fun _ _ _ h => h) (Or.inl ⟨by kernel_rfl, fun w9 h9 => ?_⟩) HS1.out ?_
  · clear h9; go_simp
  refine wpAnyH_take (i := 32) (v := .bool false) rfl (by kernel_rfl) (by kernel_rfl) (by kernel_rfl) (fun _ _ _ h => h) (Or.inl ⟨by kernel_rfl, fun w9 h9 => ?_⟩) HS1.out ?_
  · clear h9; go_simp
  refine wpAnyH_take (i := 33) (v := .bool false) rfl (by kernel_rfl) (by kernel_rfl) (by kernel_rfl) (fun _ _ _ h => h) (Or.inl ⟨by kernel_rfl, fun w9 h9 => ?_⟩) HS1.out ?_
  · clear h9; go_simp
  refine wpAnyH_take (i := 34) (v := .pointer (some ⟨w.heap.size, 3, none⟩)) rfl (by kernel_rfl) (by kernel_rfl) (by kernel_rfl) (fun _ _ _ h => h) (Or.inl ⟨by kernel_rfl, fun w9 h9 => ?_⟩) HS1.out ?_
  · clear h9; go_simp
  refine wpAnyH_take (i := 35) (v := .int .i64 s) rfl (by kernel_rfl) (by kernel_rfl) (by kernel_rfl) (fun _ _ _ h => h) (Or.inl ⟨by kernel_rfl, fun w9 h9 => ?_⟩) HS1.out ?_
  · have h91 := h9.2.2.2
    go_simp
  refine wpAnyH_take (i := 36) (v := .bool true) rfl (by kernel_rfl) (by kernel_rfl) (by kernel_rfl) (fun _ _ _ h => h) (Or.inl ⟨by kernel_rfl, fun w9 h9 => ?_⟩) HS1.out ?_
  · clear h9; go_simp
  refine wpAnyH_take (i := 37) (v := .bool true) rfl (by kernel_rfl) (by kernel_rfl) (by kernel_rfl) (fun _ _ _ h => h) (Or.inl ⟨by kernel_rfl, fun w9 h9 => ?_⟩) HS1.out ?_
  · clear h9; go_simp
  refine wpAnyH_take (i := 38) (v := .bool true) rfl (by kernel_rfl) (by kernel_rfl) (by kernel_rfl) (fun _ _ _ h => h) (Or.inl ⟨by kernel_rfl, fun w9 h9 => ?_⟩) HS1.out ?_
  · clear h9; go_simp
  refine wpAnyH_take (i := 39) (v := undef) rfl (by kernel_rfl) (by kernel_rfl) (by kernel_rfl) (fun _ _ _ h => h) (Or.inr ⟨by kernel_rfl, rfl⟩) HS1.out ?_
  refine wpAnyH_take (i := 40) (v := undef) rfl (by kernel_rfl) (by kernel_rfl) (by kernel_rfl) (fun _ _ _ h => h) (Or.inr ⟨by kernel_rfl, rfl⟩) HS1.out ?_
  refine wpAnyH_take (i := 41) (v := undef) rfl (by kernel_rfl) (by kernel_rfl) (by kernel_rfl) (fun _ _ _ h => h) (Or.inr ⟨by kernel_rfl, rfl⟩) HS1.out ?_
  refine wpAnyH_take (i := 42) (v := .bool true) rfl (by kernel_rfl) (by kernel_rfl) (by kernel_rfl) (fun _ _ _ h => h) (Or.inl ⟨by kernel_rfl, fun w9 h9 => ?_⟩) HS1.out ?_
  · clear h9; go_simp
  refine wpAnyH_done (by kernel_rfl) ?_ _
  go_simp
  all_goals go_wp2
  all_goals go_ret
  all_goals exact ⟨rfl, HB1.out.1⟩
end Go.Proofs.Ytakacapcphbjiaa
