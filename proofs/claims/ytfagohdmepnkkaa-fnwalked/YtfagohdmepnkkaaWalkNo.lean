import Derived.Test.YtfagohdmepnkkaaPWk1
import Derived.Test.YtfagohdmepnkkaaSWalk
namespace Go.Proofs.Ytfagohdmepnkkaa
open Go.ChangeShapes Go.WideShapes Go.ChangeAt Go.RowKit

def w00 : WV := ⟨0, 0, 0, false, [], ⟨#[]⟩⟩
set_option maxRecDepth 100000 in
set_option maxHeartbeats 4000000 in
theorem specWalk_no (s : ByteArray) (root va acc : Int) (user : Bool) (w : World) (hs : s.size ≤ 1099511627776) (h : ¬ (memOk s = true ∧ 0 ≤ root ∧ root ≤ 255 ∧ 0 ≤ va ∧ va ≤ 262143 ∧ 1 ≤ acc ∧ acc ≤ 3)) :
    Calls Try.prog 29 #[.string s, .int .i64 root, .int .i64 va, .int .i64 acc, .bool user] w fun e w' => ∃ v, e = .returned (wkA w00 v) ∧ w'.ownsRow w.heap.size 2 1 v 0 [] ∧ Below w.heap.size w w' := by
  have HS : Hid _ := hs
  by_cases h1 : memOk s = false
  · have hc : Hid _ := memC_no h1
    clear h h1 hs
    go_enter Try.func29, Try.ntmps29
    go_wp2_with (first | (go_at_call 36; refine (specMemFault_any _ _ HS.out).mono ?_; rintro e u1 ⟨rfl, hu1⟩; rw [hu1, hc.out]; clear hu1))
    exact bodyPost_ret (v := wkA w00 (.slice none 0 0)) (by simp [results, Try.results29, go_sem, wkA, w00]) rfl ⟨_, rfl, World.ownsRow_nil _ _ _ _, (Below.refl _ _).alloc (Nat.le_refl _) _⟩
  have h1b : memOk s = true := by simpa using h1
  have hc : Hid _ := memC_ok h1b
  have H2 : Hid (¬ (0 ≤ root ∧ root ≤ 255 ∧ 0 ≤ va ∧ va ≤ 262143 ∧ 1 ≤ acc ∧ acc ≤ 3)) := fun h3 => h ⟨h1b, h3⟩
  clear h h1 h1b hs
  by_cases h2 : root < 0
  · go_enter Try.func29, Try.ntmps29
    go_wp2_with (first | (go_at_call 36; refine (specMemFault_any _ _ HS.out).mono ?_; rintro e u1 ⟨rfl, hu1⟩; rw [hu1, hc.out]; clear hu1))
    exact bodyPost_ret (v := wkA w00 (.slice none 0 0)) (by simp [results, Try.results29, go_sem, wkA, w00]) rfl ⟨_, rfl, World.ownsRow_nil _ _ _ _, (Below.refl _ _).alloc (Nat.le_refl _) _⟩
  by_cases h3 : 255 < root
  · go_enter Try.func29, Try.ntmps29
    go_wp2_with (first | (go_at_call 36; refine (specMemFault_any _ _ HS.out).mono ?_; rintro e u1 ⟨rfl, hu1⟩; rw [hu1, hc.out]; clear hu1))
    exact bodyPost_ret (v := wkA w00 (.slice none 0 0)) (by simp [results, Try.results29, go_sem, wkA, w00]) rfl ⟨_, rfl, World.ownsRow_nil _ _ _ _, (Below.refl _ _).alloc (Nat.le_refl _) _⟩
  by_cases h4 : va < 0
  · go_enter Try.func29, Try.ntmps29
    go_wp2_with (first | (go_at_call 36; refine (specMemFault_any _ _ HS.out).mono ?_; rintro e u1 ⟨rfl, hu1⟩; rw [hu1, hc.out]; clear hu1))
    exact bodyPost_ret (v := wkA w00 (.slice none 0 0)) (by simp [results, Try.results29, go_sem, wkA, w00]) rfl ⟨_, rfl, World.ownsRow_nil _ _ _ _, (Below.refl _ _).alloc (Nat.le_refl _) _⟩
  by_cases h5 : 262144 ≤ va
  · have hd : decide (262144 ≤ va) = true := decide_eq_true h5
    clear h5
    go_enter Try.func29, Try.ntmps29
    go_wp2_with (first | (go_at_call 36; refine (specMemFault_any _ _ HS.out).mono ?_; rintro e u1 ⟨rfl, hu1⟩; rw [hu1, hc.out]; clear hu1))
    exact bodyPost_ret (v := wkA w00 (.slice none 0 0)) (by simp [results, Try.results29, go_sem, wkA, w00]) rfl ⟨_, rfl, World.ownsRow_nil _ _ _ _, (Below.refl _ _).alloc (Nat.le_refl _) _⟩
  · have hd : decide (262144 ≤ va) = false := decide_eq_false h5
    have H5 : Hid _ := h5
    have HA : Hid _ := l03Acc_no acc (w.alloc (.cells #[.int .i64 0, .int .i64 0, .int .i64 0, .bool false, .slice none 0 0, .string ⟨#[]⟩] 56)) (fun h6 => H2.out ⟨by omega, by omega, by omega, by omega, h6.1, h6.2⟩)
    clear h5
    go_enter Try.func29, Try.ntmps29
    go_wp2_with (first | (go_at_call 36; refine (specMemFault_any _ _ HS.out).mono ?_; rintro e u1 ⟨rfl, hu1⟩; rw [hu1, hc.out]; clear hu1) | (go_at_call 37; refine Calls.mono HA.out ?_; rintro e u2 ⟨rfl, hu2⟩; rw [hu2]; clear hu2))
    exact bodyPost_ret (v := wkA w00 (.slice none 0 0)) (by simp [results, Try.results29, go_sem, wkA, w00]) rfl ⟨_, rfl, World.ownsRow_nil _ _ _ _, (Below.refl _ _).alloc (Nat.le_refl _) _⟩
set_option maxRecDepth 100000 in
set_option maxHeartbeats 4000000 in
theorem implWalk_no (s : ByteArray) (root va acc : Int) (user : Bool) (w : World) (hs : s.size ≤ 1099511627776) (h : ¬ (memOk s = true ∧ 0 ≤ root ∧ root ≤ 255 ∧ 0 ≤ va ∧ va ≤ 262143 ∧ 1 ≤ acc ∧ acc ≤ 3)) :
    Calls Try.prog 28 #[.string s, .int .i64 root, .int .i64 va, .int .i64 acc, .bool user] w fun e w' => ∃ v, e = .returned (wkA w00 v) ∧ w'.ownsRow w.heap.size 2 1 v 0 [] ∧ Below w.heap.size w w' := by
  have HS : Hid _ := hs
  have hRt := fun w => isRoot_any root w
  have hVt := fun w => isVirtual_any va w
  by_cases h1 : memOk s = false
  · have hc : Hid _ := memC_no h1
    clear h h1 hs
    go_enter Try.func28, Try.ntmps28
    go_wp2_with (first | (go_at_call 43; refine (implMemFault_any _ _ HS.out).mono ?_; rintro e u1 ⟨rfl, hu1⟩; rw [hu1, hc.out]; clear hu1))
    exact bodyPost_ret (v := wkA w00 (.slice none 0 0)) (by simp [results, Try.results28, go_sem, wkA, w00]) rfl ⟨_, rfl, World.ownsRow_nil _ _ _ _, (Below.refl _ _).alloc (Nat.le_refl _) _⟩
  have h1b : memOk s = true := by simpa using h1
  have hc : Hid _ := memC_ok h1b
  have H2 : Hid (¬ (0 ≤ root ∧ root ≤ 255 ∧ 0 ≤ va ∧ va ≤ 262143 ∧ 1 ≤ acc ∧ acc ≤ 3)) := fun h3 => h ⟨h1b, h3⟩
  clear h h1 h1b hs
  by_cases h2 : 0 ≤ root ∧ root ≤ 255
  · have e2 : (decide (0 ≤ root) && decide (root ≤ 255)) = true := by simp; omega
    rw [e2] at hRt
    by_cases h4 : 0 ≤ va ∧ va ≤ 262143
    · have e4 : (decide (0 ≤ va) && decide (va < 262144)) = true := by simp; omega
      rw [e4] at hVt
      have HA : Hid _ := isAccess_no acc (w.alloc (.cells #[.int .i64 0, .int .i64 0, .int .i64 0, .bool false, .slice none 0 0, .string ⟨#[]⟩] 56)) (fun h6 => H2.out ⟨by omega, by omega, by omega, by omega, h6.1, h6.2⟩)
      clear h4 e4 e2 h2
      go_enter Try.func28, Try.ntmps28
      go_wp2_with (first | (go_at_call 43; refine (implMemFault_any _ _ HS.out).mono ?_; rintro e u1 ⟨rfl, hu1⟩; rw [hu1, hc.out]; clear hu1) | (go_at_call 44; refine Calls.mono (hRt _) ?_; rintro e u2 ⟨rfl, hu2⟩; rw [hu2]; clear hu2) | (go_at_call 45; refine Calls.mono (hVt _) ?_; rintro e u2 ⟨rfl, hu2⟩; rw [hu2]; clear hu2) | (go_at_call 46; refine Calls.mono HA.out ?_; rintro e u2 ⟨rfl, hu2⟩; rw [hu2]; clear hu2))
      exact bodyPost_ret (v := wkA w00 (.slice none 0 0)) (by simp [results, Try.results28, go_sem, wkA, w00]) rfl ⟨_, rfl, World.ownsRow_nil _ _ _ _, (Below.refl _ _).alloc (Nat.le_refl _) _⟩
    · have e4 : (decide (0 ≤ va) && decide (va < 262144)) = false := by simp; omega
      rw [e4] at hVt
      clear h4 e4 e2 h2
      go_enter Try.func28, Try.ntmps28
      go_wp2_with (first | (go_at_call 43; refine (implMemFault_any _ _ HS.out).mono ?_; rintro e u1 ⟨rfl, hu1⟩; rw [hu1, hc.out]; clear hu1) | (go_at_call 44; refine Calls.mono (hRt _) ?_; rintro e u2 ⟨rfl, hu2⟩; rw [hu2]; clear hu2) | (go_at_call 45; refine Calls.mono (hVt _) ?_; rintro e u2 ⟨rfl, hu2⟩; rw [hu2]; clear hu2))
      exact bodyPost_ret (v := wkA w00 (.slice none 0 0)) (by simp [results, Try.results28, go_sem, wkA, w00]) rfl ⟨_, rfl, World.ownsRow_nil _ _ _ _, (Below.refl _ _).alloc (Nat.le_refl _) _⟩
  · have e2 : (decide (0 ≤ root) && decide (root ≤ 255)) = false := by simp; omega
    rw [e2] at hRt
    clear e2 h2
    go_enter Try.func28, Try.ntmps28
    go_wp2_with (first | (go_at_call 43; refine (implMemFault_any _ _ HS.out).mono ?_; rintro e u1 ⟨rfl, hu1⟩; rw [hu1, hc.out]; clear hu1) | (go_at_call 44; refine Calls.mono (hRt _) ?_; rintro e u2 ⟨rfl, hu2⟩; rw [hu2]; clear hu2))
    exact bodyPost_ret (v := wkA w00 (.slice none 0 0)) (by simp [results, Try.results28, go_sem, wkA, w00]) rfl ⟨_, rfl, World.ownsRow_nil _ _ _ _, (Below.refl _ _).alloc (Nat.le_refl _) _⟩
end Go.Proofs.Ytfagohdmepnkkaa
