import Derived.Test.YtohmejfpebjlaaaDoorDecode2
namespace Go.Proofs.YtohmejfpebjlaaaDoor
open Go.ChangeShapes Go.WideShapes Go.ChangeAt Go.RowKit

theorem fB_ne4 (k : Nat) (h : k < 9) (hk : k ≠ 4) : ¬ fB k = ⟨#[97, 108]⟩ := by
  obtain rfl | rfl | rfl | rfl | rfl | rfl | rfl | rfl : k = 0 ∨ k = 1 ∨ k = 2 ∨ k = 3 ∨ k = 5 ∨ k = 6 ∨ k = 7 ∨ k = 8 := by omega
  all_goals decide +kernel

set_option maxHeartbeats 4000000 in
theorem specDecode_al (n : Int) (w : World) (hw : isW n = true) (hk : kd (fz n 24 8) = 4) :
    Calls Tryd.prog 12 #[.int .i64 n] w fun e w' => e = .returned (decV n) ∧ Below w.heap.size w w' := by
  obtain ⟨o0, o1⟩ := fz_b n 24 8
  simp at o1
  have ss := setSet
  obtain ⟨o2, o3⟩ := fz_b n 0 20
  simp at o3
  have HK : Hid (kd (fz n 24 8) = 4) := hk
  have hb : dB n = 0 := if_pos hk
  have hc : dC n = 0 := if_pos hk
  cases h36 : (fz n 24 8 == 36)
  · have hi : dI n = fz n 0 20 := (if_pos hk).trans (if_neg (by show ¬ fz n 24 8 = 36; simpa using h36))
    have hd := decV_at n 0 0 (fz n 0 20) hw hb hc hi
    clear hk hb hc hi
    generalize decV n = D at *
    cases hok : isOk (fz n 24 8) (fz n 20 4) 0 0 (fz n 0 20)
    · rw [hok, if_neg (by decide)] at hd
      subst hd
      go_enter Tryd.func12, Tryd.ntmps12
      go_wp2_with (first | (go_at_call 26; refine (l01IsWord_any _ _).mono ?_; rintro e u1 ⟨rfl, hw1⟩; subst hw1) | (go_at_call 27; refine (specField_c _ _ _ _ (by decide) (by decide) (by decide)).mono ?_; rintro e u2 ⟨rfl, q, hw2⟩; subst hw2) | (go_at_call 17; refine (l02Form_any _ _ (by omega) (by omega)).mono ?_; rintro e u3 ⟨rfl, hw3⟩; rw [HK.out]; unfold fB; have z3 : w.heap.size + 1 < u3.heap.size := (by have := hw3.size; simp at this; omega); have y3 : w.heap.size < u3.heap.size := (by omega); obtain ⟨hc, hf⟩ := bcell hw3) | (go_at_call 28; refine (l02Sign_20 _ _ (by omega) (by omega)).mono ?_; rintro e u4 ⟨rfl, hw4⟩; subst hw4) | (go_at_call 7; refine (instrFault_any _ _ _ _ _ _ (by omega) (by omega)).mono ?_; rintro e u5 ⟨rfl, hw5⟩; rw [hok]; have z5 : w.heap.size + 1 < u5.heap.size := (by have := hw5.size; simp at this; omega); have y5 : w.heap.size < u5.heap.size := (by omega); obtain ⟨hc5, hf5⟩ := bcell hw5))
      generalize hU : (((((u5.setCell _ _).setCell _ _).setCell _ _).setCell _ _).setCell _ _).setCell _ _ = U
      have hx3 : ∀ k, k < 6 → ∃ x, u3.cell? ⟨w.heap.size, k, none⟩ = some x := by
        intro k hk
        rw [hc _ _ (by simp; omega)]
        obtain rfl | rfl | rfl | rfl | rfl | rfl : k = 0 ∨ k = 1 ∨ k = 2 ∨ k = 3 ∨ k = 4 ∨ k = 5 := by omega
        all_goals simp [go_sem]
      have hx5 : ∀ k, k < 6 → ∃ x, u5.cell? ⟨w.heap.size, k, none⟩ = some x := by
        intro k hk
        rw [hc5 _ _ (by simp; omega)]
        repeat (refine set_ex _ ?_)
        exact hx3 k hk
      obtain ⟨f0, f1, f2, f3, f4, f5⟩ := six _ _ _ _ _ _ hx5 hU
      refine bodyPost_ret (v := rdV false 0 0 0 0 0) (by simp [results, Tryd.results12, go_sem, rdV, f0, f1, f2, f3, f4, f5]) rfl ⟨rfl, ?_⟩
      rw [← hU]
      have hb3 : Below w.heap.size w u3 := ((bdn ((Below.refl _ _).alloc (Nat.le_refl _) _) _).alloc (by simp) _).trans (hw3.mono (by simp; omega))
      iterate 6 (refine Below.setCell ?_ (by simp) _)
      refine Below.trans ?_ (hw5.mono (by simp; omega))
      repeat (first | exact hb3 | refine Below.setCell ?_ (by simp) _ | refine bdn ?_ _)
    · rw [hok, if_pos rfl] at hd
      subst hd
      go_enter Tryd.func12, Tryd.ntmps12
      go_wp2_with (first | (go_at_call 26; refine (l01IsWord_any _ _).mono ?_; rintro e u1 ⟨rfl, hw1⟩; subst hw1) | (go_at_call 27; refine (specField_c _ _ _ _ (by decide) (by decide) (by decide)).mono ?_; rintro e u2 ⟨rfl, q, hw2⟩; subst hw2) | (go_at_call 17; refine (l02Form_any _ _ (by omega) (by omega)).mono ?_; rintro e u3 ⟨rfl, hw3⟩; rw [HK.out]; unfold fB; have z3 : w.heap.size + 1 < u3.heap.size := (by have := hw3.size; simp at this; omega); have y3 : w.heap.size < u3.heap.size := (by omega); obtain ⟨hc, hf⟩ := bcell hw3) | (go_at_call 28; refine (l02Sign_20 _ _ (by omega) (by omega)).mono ?_; rintro e u4 ⟨rfl, hw4⟩; subst hw4) | (go_at_call 7; refine (instrFault_any _ _ _ _ _ _ (by omega) (by omega)).mono ?_; rintro e u5 ⟨rfl, hw5⟩; rw [hok]; have z5 : w.heap.size + 1 < u5.heap.size := (by have := hw5.size; simp at this; omega); have y5 : w.heap.size < u5.heap.size := (by omega); obtain ⟨hc5, hf5⟩ := bcell hw5))
      generalize hU : (((((u5.setCell _ _).setCell _ _).setCell _ _).setCell _ _).setCell _ _).setCell _ _ = U
      have hx3 : ∀ k, k < 6 → ∃ x, u3.cell? ⟨w.heap.size, k, none⟩ = some x := by
        intro k hk
        rw [hc _ _ (by simp; omega)]
        obtain rfl | rfl | rfl | rfl | rfl | rfl : k = 0 ∨ k = 1 ∨ k = 2 ∨ k = 3 ∨ k = 4 ∨ k = 5 := by omega
        all_goals simp [go_sem]
      have hx5 : ∀ k, k < 6 → ∃ x, u5.cell? ⟨w.heap.size, k, none⟩ = some x := by
        intro k hk
        rw [hc5 _ _ (by simp; omega)]
        repeat (refine set_ex _ ?_)
        exact hx3 k hk
      obtain ⟨f0, f1, f2, f3, f4, f5⟩ := six _ _ _ _ _ _ hx5 hU
      refine bodyPost_ret (v := rdV true (fz n 24 8) (fz n 20 4) 0 0 (fz n 0 20)) (by simp [results, Tryd.results12, go_sem, rdV, f0, f1, f2, f3, f4, f5]) rfl ⟨rfl, ?_⟩
      rw [← hU]
      have hb3 : Below w.heap.size w u3 := ((bdn ((Below.refl _ _).alloc (Nat.le_refl _) _) _).alloc (by simp) _).trans (hw3.mono (by simp; omega))
      iterate 6 (refine Below.setCell ?_ (by simp) _)
      refine Below.trans ?_ (hw5.mono (by simp; omega))
      repeat (first | exact hb3 | refine Below.setCell ?_ (by simp) _ | refine bdn ?_ _)
  · have hi : dI n = sg (fz n 0 20) 20 := (if_pos hk).trans (if_pos (by show fz n 24 8 = 36; simpa using h36))
    have hd := decV_at n 0 0 (sg (fz n 0 20) 20) hw hb hc hi
    clear hk hb hc hi
    generalize decV n = D at *
    cases hok : isOk (fz n 24 8) (fz n 20 4) 0 0 (sg (fz n 0 20) 20)
    · rw [hok, if_neg (by decide)] at hd
      subst hd
      go_enter Tryd.func12, Tryd.ntmps12
      go_wp2_with (first | (go_at_call 26; refine (l01IsWord_any _ _).mono ?_; rintro e u1 ⟨rfl, hw1⟩; subst hw1) | (go_at_call 27; refine (specField_c _ _ _ _ (by decide) (by decide) (by decide)).mono ?_; rintro e u2 ⟨rfl, q, hw2⟩; subst hw2) | (go_at_call 17; refine (l02Form_any _ _ (by omega) (by omega)).mono ?_; rintro e u3 ⟨rfl, hw3⟩; rw [HK.out]; unfold fB; have z3 : w.heap.size + 1 < u3.heap.size := (by have := hw3.size; simp at this; omega); have y3 : w.heap.size < u3.heap.size := (by omega); obtain ⟨hc, hf⟩ := bcell hw3) | (go_at_call 28; refine (l02Sign_20 _ _ (by omega) (by omega)).mono ?_; rintro e u4 ⟨rfl, hw4⟩; subst hw4) | (go_at_call 7; refine (instrFault_any _ _ _ _ _ _ (by omega) (by omega)).mono ?_; rintro e u5 ⟨rfl, hw5⟩; rw [hok]; have z5 : w.heap.size + 1 < u5.heap.size := (by have := hw5.size; simp at this; omega); have y5 : w.heap.size < u5.heap.size := (by omega); obtain ⟨hc5, hf5⟩ := bcell hw5))
      generalize hU : (((((u5.setCell _ _).setCell _ _).setCell _ _).setCell _ _).setCell _ _).setCell _ _ = U
      have hx3 : ∀ k, k < 6 → ∃ x, u3.cell? ⟨w.heap.size, k, none⟩ = some x := by
        intro k hk
        rw [hc _ _ (by simp; omega)]
        obtain rfl | rfl | rfl | rfl | rfl | rfl : k = 0 ∨ k = 1 ∨ k = 2 ∨ k = 3 ∨ k = 4 ∨ k = 5 := by omega
        all_goals simp [go_sem]
      have hx5 : ∀ k, k < 6 → ∃ x, u5.cell? ⟨w.heap.size, k, none⟩ = some x := by
        intro k hk
        rw [hc5 _ _ (by simp; omega)]
        repeat (refine set_ex _ ?_)
        exact hx3 k hk
      obtain ⟨f0, f1, f2, f3, f4, f5⟩ := six _ _ _ _ _ _ hx5 hU
      refine bodyPost_ret (v := rdV false 0 0 0 0 0) (by simp [results, Tryd.results12, go_sem, rdV, f0, f1, f2, f3, f4, f5]) rfl ⟨rfl, ?_⟩
      rw [← hU]
      have hb3 : Below w.heap.size w u3 := ((bdn ((Below.refl _ _).alloc (Nat.le_refl _) _) _).alloc (by simp) _).trans (hw3.mono (by simp; omega))
      iterate 6 (refine Below.setCell ?_ (by simp) _)
      refine Below.trans ?_ (hw5.mono (by simp; omega))
      repeat (first | exact hb3 | refine Below.setCell ?_ (by simp) _ | refine bdn ?_ _)
    · rw [hok, if_pos rfl] at hd
      subst hd
      go_enter Tryd.func12, Tryd.ntmps12
      go_wp2_with (first | (go_at_call 26; refine (l01IsWord_any _ _).mono ?_; rintro e u1 ⟨rfl, hw1⟩; subst hw1) | (go_at_call 27; refine (specField_c _ _ _ _ (by decide) (by decide) (by decide)).mono ?_; rintro e u2 ⟨rfl, q, hw2⟩; subst hw2) | (go_at_call 17; refine (l02Form_any _ _ (by omega) (by omega)).mono ?_; rintro e u3 ⟨rfl, hw3⟩; rw [HK.out]; unfold fB; have z3 : w.heap.size + 1 < u3.heap.size := (by have := hw3.size; simp at this; omega); have y3 : w.heap.size < u3.heap.size := (by omega); obtain ⟨hc, hf⟩ := bcell hw3) | (go_at_call 28; refine (l02Sign_20 _ _ (by omega) (by omega)).mono ?_; rintro e u4 ⟨rfl, hw4⟩; subst hw4) | (go_at_call 7; refine (instrFault_any _ _ _ _ _ _ (by omega) (by omega)).mono ?_; rintro e u5 ⟨rfl, hw5⟩; rw [hok]; have z5 : w.heap.size + 1 < u5.heap.size := (by have := hw5.size; simp at this; omega); have y5 : w.heap.size < u5.heap.size := (by omega); obtain ⟨hc5, hf5⟩ := bcell hw5))
      generalize hU : (((((u5.setCell _ _).setCell _ _).setCell _ _).setCell _ _).setCell _ _).setCell _ _ = U
      have hx3 : ∀ k, k < 6 → ∃ x, u3.cell? ⟨w.heap.size, k, none⟩ = some x := by
        intro k hk
        rw [hc _ _ (by simp; omega)]
        obtain rfl | rfl | rfl | rfl | rfl | rfl : k = 0 ∨ k = 1 ∨ k = 2 ∨ k = 3 ∨ k = 4 ∨ k = 5 := by omega
        all_goals simp [go_sem]
      have hx5 : ∀ k, k < 6 → ∃ x, u5.cell? ⟨w.heap.size, k, none⟩ = some x := by
        intro k hk
        rw [hc5 _ _ (by simp; omega)]
        repeat (refine set_ex _ ?_)
        exact hx3 k hk
      obtain ⟨f0, f1, f2, f3, f4, f5⟩ := six _ _ _ _ _ _ hx5 hU
      refine bodyPost_ret (v := rdV true (fz n 24 8) (fz n 20 4) 0 0 (sg (fz n 0 20) 20)) (by simp [results, Tryd.results12, go_sem, rdV, f0, f1, f2, f3, f4, f5]) rfl ⟨rfl, ?_⟩
      rw [← hU]
      have hb3 : Below w.heap.size w u3 := ((bdn ((Below.refl _ _).alloc (Nat.le_refl _) _) _).alloc (by simp) _).trans (hw3.mono (by simp; omega))
      iterate 6 (refine Below.setCell ?_ (by simp) _)
      refine Below.trans ?_ (hw5.mono (by simp; omega))
      repeat (first | exact hb3 | refine Below.setCell ?_ (by simp) _ | refine bdn ?_ _)

set_option maxHeartbeats 4000000 in
theorem specDecode_other (n : Int) (w : World) (hw : isW n = true) (hk : kd (fz n 24 8) ≠ 4) :
    Calls Tryd.prog 12 #[.int .i64 n] w fun e w' => e = .returned (decV n) ∧ Below w.heap.size w w' := by
  obtain ⟨o0, o1⟩ := fz_b n 24 8
  simp at o1
  have ss := setSet
  obtain ⟨o2, o3⟩ := fz_b n 0 12
  simp at o3
  have HK : Hid (((fB (kd (fz n 24 8))).toList == [97, 108]) = false) := beqL_no (fB_ne4 _ (kd_lt _) hk)
  have hb : dB n = fz n 16 4 := if_neg hk
  have hc : dC n = fz n 12 4 := if_neg hk
  have hi : dI n = sg (fz n 0 12) 12 := if_neg hk
  have hd := decV_at n _ _ _ hw hb hc hi
  clear hk hb hc hi
  generalize decV n = D at *
  cases hok : isOk (fz n 24 8) (fz n 20 4) (fz n 16 4) (fz n 12 4) (sg (fz n 0 12) 12)
  · rw [hok, if_neg (by decide)] at hd
    subst hd
    go_enter Tryd.func12, Tryd.ntmps12
    go_wp2_with (first | (go_at_call 26; refine (l01IsWord_any _ _).mono ?_; rintro e u1 ⟨rfl, hw1⟩; subst hw1) | (go_at_call 27; refine (specField_c _ _ _ _ (by decide) (by decide) (by decide)).mono ?_; rintro e u2 ⟨rfl, q, hw2⟩; subst hw2) | (go_at_call 17; refine (l02Form_any _ _ (by omega) (by omega)).mono ?_; rintro e u3 ⟨rfl, hw3⟩; generalize HG : fB (kd (fz n 24 8)) = G; (have hG : (G.toList == [97, 108]) = false := (HG ▸ HK.out)); have z3 : w.heap.size + 1 < u3.heap.size := (by have := hw3.size; simp at this; omega); have y3 : w.heap.size < u3.heap.size := (by omega); obtain ⟨hc, hf⟩ := bcell hw3) | (go_at_call 28; refine (l02Sign_12 _ _ (by omega) (by omega)).mono ?_; rintro e u4 ⟨rfl, hw4⟩; subst hw4) | (go_at_call 7; refine (instrFault_any _ _ _ _ _ _ (by omega) (by omega)).mono ?_; rintro e u5 ⟨rfl, hw5⟩; rw [hok]; have z5 : w.heap.size + 1 < u5.heap.size := (by have := hw5.size; simp at this; omega); have y5 : w.heap.size < u5.heap.size := (by omega); obtain ⟨hc5, hf5⟩ := bcell hw5))
    generalize hU : (((((u5.setCell _ _).setCell _ _).setCell _ _).setCell _ _).setCell _ _).setCell _ _ = U
    have hx3 : ∀ k, k < 6 → ∃ x, u3.cell? ⟨w.heap.size, k, none⟩ = some x := by
      intro k hk
      rw [hc _ _ (by simp; omega)]
      obtain rfl | rfl | rfl | rfl | rfl | rfl : k = 0 ∨ k = 1 ∨ k = 2 ∨ k = 3 ∨ k = 4 ∨ k = 5 := by omega
      all_goals simp [go_sem]
    have hx5 : ∀ k, k < 6 → ∃ x, u5.cell? ⟨w.heap.size, k, none⟩ = some x := by
      intro k hk
      rw [hc5 _ _ (by simp; omega)]
      repeat (refine set_ex _ ?_)
      exact hx3 k hk
    obtain ⟨f0, f1, f2, f3, f4, f5⟩ := six _ _ _ _ _ _ hx5 hU
    refine bodyPost_ret (v := rdV false 0 0 0 0 0) (by simp [results, Tryd.results12, go_sem, rdV, f0, f1, f2, f3, f4, f5]) rfl ⟨rfl, ?_⟩
    rw [← hU]
    have hb3 : Below w.heap.size w u3 := ((bdn ((Below.refl _ _).alloc (Nat.le_refl _) _) _).alloc (by simp) _).trans (hw3.mono (by simp; omega))
    iterate 6 (refine Below.setCell ?_ (by simp) _)
    refine Below.trans ?_ (hw5.mono (by simp; omega))
    repeat (first | exact hb3 | refine Below.setCell ?_ (by simp) _ | refine bdn ?_ _)
  · rw [hok, if_pos rfl] at hd
    subst hd
    go_enter Tryd.func12, Tryd.ntmps12
    go_wp2_with (first | (go_at_call 26; refine (l01IsWord_any _ _).mono ?_; rintro e u1 ⟨rfl, hw1⟩; subst hw1) | (go_at_call 27; refine (specField_c _ _ _ _ (by decide) (by decide) (by decide)).mono ?_; rintro e u2 ⟨rfl, q, hw2⟩; subst hw2) | (go_at_call 17; refine (l02Form_any _ _ (by omega) (by omega)).mono ?_; rintro e u3 ⟨rfl, hw3⟩; generalize HG : fB (kd (fz n 24 8)) = G; (have hG : (G.toList == [97, 108]) = false := (HG ▸ HK.out)); have z3 : w.heap.size + 1 < u3.heap.size := (by have := hw3.size; simp at this; omega); have y3 : w.heap.size < u3.heap.size := (by omega); obtain ⟨hc, hf⟩ := bcell hw3) | (go_at_call 28; refine (l02Sign_12 _ _ (by omega) (by omega)).mono ?_; rintro e u4 ⟨rfl, hw4⟩; subst hw4) | (go_at_call 7; refine (instrFault_any _ _ _ _ _ _ (by omega) (by omega)).mono ?_; rintro e u5 ⟨rfl, hw5⟩; rw [hok]; have z5 : w.heap.size + 1 < u5.heap.size := (by have := hw5.size; simp at this; omega); have y5 : w.heap.size < u5.heap.size := (by omega); obtain ⟨hc5, hf5⟩ := bcell hw5))
    generalize hU : (((((u5.setCell _ _).setCell _ _).setCell _ _).setCell _ _).setCell _ _).setCell _ _ = U
    have hx3 : ∀ k, k < 6 → ∃ x, u3.cell? ⟨w.heap.size, k, none⟩ = some x := by
      intro k hk
      rw [hc _ _ (by simp; omega)]
      obtain rfl | rfl | rfl | rfl | rfl | rfl : k = 0 ∨ k = 1 ∨ k = 2 ∨ k = 3 ∨ k = 4 ∨ k = 5 := by omega
      all_goals simp [go_sem]
    have hx5 : ∀ k, k < 6 → ∃ x, u5.cell? ⟨w.heap.size, k, none⟩ = some x := by
      intro k hk
      rw [hc5 _ _ (by simp; omega)]
      repeat (refine set_ex _ ?_)
      exact hx3 k hk
    obtain ⟨f0, f1, f2, f3, f4, f5⟩ := six _ _ _ _ _ _ hx5 hU
    refine bodyPost_ret (v := rdV true (fz n 24 8) (fz n 20 4) (fz n 16 4) (fz n 12 4) (sg (fz n 0 12) 12)) (by simp [results, Tryd.results12, go_sem, rdV, f0, f1, f2, f3, f4, f5]) rfl ⟨rfl, ?_⟩
    rw [← hU]
    have hb3 : Below w.heap.size w u3 := ((bdn ((Below.refl _ _).alloc (Nat.le_refl _) _) _).alloc (by simp) _).trans (hw3.mono (by simp; omega))
    iterate 6 (refine Below.setCell ?_ (by simp) _)
    refine Below.trans ?_ (hw5.mono (by simp; omega))
    repeat (first | exact hb3 | refine Below.setCell ?_ (by simp) _ | refine bdn ?_ _)

set_option maxHeartbeats 4000000 in
theorem specDecode_any (n : Int) (w : World) :
    Calls Tryd.prog 12 #[.int .i64 n] w fun e w' => e = .returned (decV n) ∧ Below w.heap.size w w' := by
  by_cases hw : isW n = true
  · by_cases hk : kd (fz n 24 8) = 4
    · exact specDecode_al n w hw hk
    · exact specDecode_other n w hw hk
  · have hw : isW n = false := by simpa using hw
    rw [show decV n = rdV false 0 0 0 0 0 from by unfold decV decG; rw [hw]; rfl]
    go_enter Tryd.func12, Tryd.ntmps12
    go_wp2_with (go_at_call 26; refine (l01IsWord_any _ _).mono ?_; rintro e u1 ⟨rfl, hw1⟩; subst hw1)
    exact bodyPost_ret (v := rdV false 0 0 0 0 0) (by simp [results, Tryd.results12, go_sem, rdV]) rfl ⟨rfl, (Below.refl _ _).alloc (Nat.le_refl _) _⟩
end Go.Proofs.YtohmejfpebjlaaaDoor
