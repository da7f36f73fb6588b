import Derived.Test.YtegcbghhcidcaaaDoorEr2
namespace Go.Proofs.YtegcbghhcidcaaaDoor
open Go.ChangeShapes Go.WideShapes Go.ChangeAt Go.RowKit

theorem bx1 (w : World) (o : Obj) : Below w.heap.size w (w.alloc o) := (Below.refl _ _).alloc (Nat.le_refl _) _
/-- What a timer's fault is. -/
def tE (a : Nat → Addr) (b : Bool) : Value := if b = true then .nilIface else eV (a 0)
set_option maxRecDepth 100000 in
set_option maxHeartbeats 4000000 in
theorem timerFault_any {w : World} {a : Nat → Addr} (h : E5 w a) (z : TM) : Calls Tryd.prog 24 #[tiA z] w fun e w' => e = .returned (tE a (tiB z)) ∧ Below w.heap.size w w' := by
  obtain ⟨d, p, q⟩ := z
  obtain ⟨sz, g0, g1, g2, g3, g4⟩ := h
  clear g1 g2 g3 g4
  have z0 : 0 < w.heap.size := by omega
  have z1 : 0 < w.heap.size + 1 := by omega
  have z2 : ¬ 0 = w.heap.size := by omega
  unfold tiB tE tiA
  unfold eV at g0 ⊢
  simp only
  have HT : Hid _ := fun u => isTime_any p u
  have HP : Hid _ := fun u => isPolicy_any q u
  by_cases h1 : 0 ≤ d
  · have h1' : decide (0 ≤ d) = true := decide_eq_true h1
    have h1n : decide (d < 0) = false := decide_eq_false (by omega)
    by_cases h2 : d ≤ 2199023255552
    · have h2' : decide (d ≤ 2199023255552) = true := decide_eq_true h2
      have h2n : decide (2199023255552 < d) = false := decide_eq_false (by omega)
      cases h3 : tmB p
      · rw [h3] at HT
        rw [h1', h2']
        clear h3 h1 h2 h1' h2'
        go_enter Tryd.func24, Tryd.ntmps24
        go_wp2_with (go_at_call 22; refine Calls.mono (HT.out _) ?_; rintro e u1 ⟨rfl, hu1⟩; rw [hu1]; clear hu1)
        go_ret
        exact ⟨rfl, bx1 _ _⟩
      · rw [h3] at HT
        cases h4 : plB q
        · rw [h4] at HP
          rw [h1', h2']
          clear h3 h4 h1 h2 h1' h2'
          go_enter Tryd.func24, Tryd.ntmps24
          go_wp2_with (first | (go_at_call 22; refine Calls.mono (HT.out _) ?_; rintro e u1 ⟨rfl, hu1⟩; rw [hu1]; clear hu1) | (go_at_call 28; refine Calls.mono (HP.out _) ?_; rintro e u1 ⟨rfl, hu1⟩; rw [hu1]; clear hu1))
          go_ret
          exact ⟨rfl, bx1 _ _⟩
        · rw [h4] at HP
          rw [h1', h2']
          clear h3 h4 h1 h2 h1' h2'
          go_enter Tryd.func24, Tryd.ntmps24
          go_wp2_with (first | (go_at_call 22; refine Calls.mono (HT.out _) ?_; rintro e u1 ⟨rfl, hu1⟩; rw [hu1]; clear hu1) | (go_at_call 28; refine Calls.mono (HP.out _) ?_; rintro e u1 ⟨rfl, hu1⟩; rw [hu1]; clear hu1))
          go_ret
          exact ⟨rfl, bx1 _ _⟩
    · have h2' : decide (d ≤ 2199023255552) = false := decide_eq_false h2
      have h2n : decide (2199023255552 < d) = true := decide_eq_true (by omega)
      rw [h1', h2']
      clear h1 h2 h1' h2'
      go_enter Tryd.func24, Tryd.ntmps24
      go_wp2_with fail
      go_ret
      exact ⟨rfl, bx1 _ _⟩
  · have h1' : decide (0 ≤ d) = false := decide_eq_false h1
    have h1n : decide (d < 0) = true := decide_eq_true (by omega)
    rw [h1']
    clear h1 h1'
    go_enter Tryd.func24, Tryd.ntmps24
    go_wp2_with fail
    go_ret
    exact ⟨rfl, bx1 _ _⟩
set_option maxRecDepth 100000 in
set_option maxHeartbeats 4000000 in
theorem l09Timer_any (w : World) (z : TM) : Calls Tryd.prog 12 #[tiA z] w fun e w' => e = .returned (.bool (tiB z)) ∧ Below w.heap.size w w' := by
  obtain ⟨d, p, q⟩ := z
  unfold tiB tiA tmB plB
  simp only
  by_cases h1 : 0 ≤ d
  · by_cases h2 : d ≤ 2199023255552
    · by_cases h3 : 0 ≤ p
      · by_cases h4 : p ≤ 1099511627776
        · by_cases h5 : 1 ≤ q
          · simp only [h1, h2, h3, h4, h5, decide_true, Bool.true_and]
            go_enter Tryd.func12, Tryd.ntmps12
            go_wp2
            all_goals go_ret
            all_goals exact ⟨ret_bool (by simp), bx1 _ _⟩
          · have h5' : decide (1 ≤ q) = false := decide_eq_false h5
            simp only [h1, h2, h3, h4, h5', decide_true, Bool.true_and, Bool.false_and, Bool.and_false]
            go_enter Tryd.func12, Tryd.ntmps12
            go_wp2
            all_goals go_ret
            all_goals exact ⟨rfl, bx1 _ _⟩
        · have h4' : decide (p ≤ 1099511627776) = false := decide_eq_false h4
          simp only [h1, h2, h3, h4', decide_true, Bool.true_and, Bool.false_and, Bool.and_false]
          go_enter Tryd.func12, Tryd.ntmps12
          go_wp2
          all_goals go_ret
          all_goals exact ⟨rfl, bx1 _ _⟩
      · have h3' : decide (0 ≤ p) = false := decide_eq_false h3
        simp only [h1, h2, h3', decide_true, Bool.true_and, Bool.false_and, Bool.and_false]
        go_enter Tryd.func12, Tryd.ntmps12
        go_wp2
        all_goals go_ret
        all_goals exact ⟨rfl, bx1 _ _⟩
    · have h2' : decide (d ≤ 2199023255552) = false := decide_eq_false h2
      simp only [h1, h2', decide_true, Bool.false_and, Bool.and_false]
      go_enter Tryd.func12, Tryd.ntmps12
      go_wp2
      all_goals go_ret
      all_goals exact ⟨rfl, bx1 _ _⟩
  · have h1' : decide (0 ≤ d) = false := decide_eq_false h1
    simp only [h1', Bool.false_and]
    go_enter Tryd.func12, Tryd.ntmps12
    go_wp2
    all_goals go_ret
    all_goals exact ⟨rfl, bx1 _ _⟩
end Go.Proofs.YtegcbghhcidcaaaDoor
