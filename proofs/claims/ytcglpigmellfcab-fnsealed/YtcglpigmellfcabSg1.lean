import Derived.Test.YtcglpigmellfcabSk6
import Derived.Test.YtcglpigmellfcabMFa
namespace Go.Proofs.Ytcglpigmellfcab
open Go.ChangeShapes Go.WideShapes Go.ChangeAt Go.RowKit

/-- 1 to 8 words. -/
def rgB (zs : List Int) : Bool := decide (1 ≤ zs.length) && decide (zs.length ≤ 8) && zs.all isW
theorem rgB_b {zs : List Int} (h : rgB zs = true) : 1 ≤ zs.length ∧ zs.length ≤ 8 ∧ ∀ j (hj : j < zs.length), 0 ≤ zs[j] ∧ zs[j] < 4294967296 := by
  simp only [rgB, Bool.and_eq_true, decide_eq_true_eq, List.all_eq_true] at h
  refine ⟨h.1.1, h.1.2, fun j hj => ?_⟩
  have := h.2 _ (List.getElem_mem hj)
  simpa [isW] using this
theorem rgB_w (zs : List Int) (h : 1 ≤ zs.length) (h2 : zs.length ≤ 8) : rgB zs = wordsB zs zs.length := by
  unfold rgB wordsB
  simp [h, h2]
theorem rgB_no (zs : List Int) (h : ¬ (1 ≤ zs.length ∧ zs.length ≤ 8)) : rgB zs = false := by
  unfold rgB
  rcases Nat.lt_or_ge zs.length 1 with h1 | h1
  · rw [decide_eq_false (by omega)]
    rfl
  · rw [decide_eq_false (p := zs.length ≤ 8) (by omega)]
    simp
set_option maxRecDepth 100000 in
set_option maxHeartbeats 4000000 in
theorem areRegs_any {w : World} {v : Value} {zs : List Int} (h : Irow w v zs) (hl : zs.length ≤ 1048576) : Calls Try.prog 133 #[v] w fun e w' => e = .returned (.bool (rgB zs)) ∧ Below w.heap.size w w' := by
  have H : Hid _ := areWords_any h hl zs.length
  obtain ⟨ao, cap, rfl⟩ := h.sl
  clear h
  by_cases h1 : 1 ≤ zs.length
  · by_cases h2 : zs.length ≤ 8
    · rw [rgB_w zs h1 h2]
      have q1 : decide ((1 : Int) ≤ (zs.length : Int)) = true := decide_eq_true (by omega)
      have q2 : decide ((zs.length : Int) ≤ 8) = true := decide_eq_true (by omega)
      generalize wordsB zs zs.length = b at *
      clear h1 h2
      go_enter Try.func133, Try.ntmps133
      go_wp2_with (go_at_call 189; refine Calls.mono H.out ?_; rintro e u1 ⟨rfl, hu1⟩)
      go_ret
      exact ⟨rfl, hu1⟩
    · rw [rgB_no zs (by omega)]
      have q1 : decide ((1 : Int) ≤ (zs.length : Int)) = true := decide_eq_true (by omega)
      have q2 : decide ((zs.length : Int) ≤ 8) = false := decide_eq_false (by omega)
      clear h1 h2
      go_enter Try.func133, Try.ntmps133
      go_wp2
      go_ret
      exact ⟨rfl, Below.refl _ _⟩
  · rw [rgB_no zs (by omega)]
    have q1 : decide ((1 : Int) ≤ (zs.length : Int)) = false := decide_eq_false (by omega)
    clear h1
    go_enter Try.func133, Try.ntmps133
    go_wp2
    go_ret
    exact ⟨rfl, Below.refl _ _⟩
set_option maxRecDepth 100000 in
set_option maxHeartbeats 4000000 in
theorem l15Regs_any {w : World} {v : Value} {zs : List Int} (h : Irow w v zs) (hl : zs.length ≤ 1048576) : Calls Try.prog 141 #[v] w fun e w' => e = .returned (.bool (rgB zs)) ∧ Below w.heap.size w w' := by
  have H0 := fun (h8 : zs.length ≤ 100) => l04Words_any h zs.length h8
  obtain ⟨ao, cap, rfl⟩ := h.sl
  clear h
  by_cases h1 : 1 ≤ zs.length
  · by_cases h2 : zs.length ≤ 8
    · have H : Hid _ := H0 (by omega)
      rw [rgB_w zs h1 h2]
      have q1 : decide ((1 : Int) ≤ (zs.length : Int)) = true := decide_eq_true (by omega)
      have q2 : decide ((zs.length : Int) ≤ 8) = true := decide_eq_true (by omega)
      generalize wordsB zs zs.length = b at *
      clear h1 h2 H0
      go_enter Try.func141, Try.ntmps141
      go_wp2_with (go_at_call 191; refine Calls.mono H.out ?_; rintro e u1 ⟨rfl, hu1⟩)
      go_ret
      exact ⟨rfl, hu1⟩
    · rw [rgB_no zs (by omega)]
      have q1 : decide ((1 : Int) ≤ (zs.length : Int)) = true := decide_eq_true (by omega)
      have q2 : decide ((zs.length : Int) ≤ 8) = false := decide_eq_false (by omega)
      clear h1 h2 H0
      go_enter Try.func141, Try.ntmps141
      go_wp2
      go_ret
      exact ⟨rfl, Below.refl _ _⟩
  · rw [rgB_no zs (by omega)]
    have q1 : decide ((1 : Int) ≤ (zs.length : Int)) = false := decide_eq_false (by omega)
    clear h1 H0
    go_enter Try.func141, Try.ntmps141
    go_wp2
    go_ret
    exact ⟨rfl, Below.refl _ _⟩
end Go.Proofs.Ytcglpigmellfcab
