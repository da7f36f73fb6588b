import Derived.Test.YtakacapcphbjiaaSt5
import Derived.OrdersHeld
import Derived.Deep.DeepCutAuto
import Derived.Deep.RegionHeld3
namespace Go.Proofs.Ytakacapcphbjiaa
open Go.ChangeShapes Go.WideShapes Go.ChangeAt Go.RowKit

theorem held_step {P : Program} {md : Region.Mode} {ops : Array Oper} {Q : Exit → Act → World → Prop} {S : World → Prop} {fuel : Nat} {listed : Array Bool} {a : Act} {w : World} {i : Nat} {o : Oper} (ho : ops[i]? = some o)
    (hw : Region.wanted o (yielded ops a.tmps) = true) (h : ∀ K : Act → World → Prop, (∀ a' w', S w' → wpAnyH P md ops Q S fuel (listed.setIfInBounds i true) a' w' → K a' w') → o.wp P a w K Q) :
    wpOp P ops Q i (fun a' w' => S w' ∧ wpAnyH P md ops Q S fuel (listed.setIfInBounds i true) a' w') a w := by
  unfold wpOp
  rw [ho]
  simp only [hw, if_true]
  exact Or.inl (h _ fun a' w' h1 h2 => ⟨h1, h2⟩)
theorem all_two {p : Nat → Prop} {i j : Nat} (h1 : p i) (h2 : p j) : ∀ k ∈ [i, j], p k := by
  intro k hk
  rcases List.mem_cons.1 hk with rfl | hk
  · exact h1
  · rw [List.mem_singleton.1 hk]; exact h2
theorem all_one {p : Nat → Prop} {i : Nat} (h1 : p i) : ∀ k ∈ [i], p k := by
  intro k hk
  rw [List.mem_singleton.1 hk]; exact h1
theorem held_one {P : Program} {md : Region.Mode} {ops : Array Oper} {Q : Exit → Act → World → Prop} {S : World → Prop} {fuel : Nat} {listed : Array Bool} {a : Act} {w : World} (i : Nat) {o : Oper} (hr : Region.ready md ops listed = [i]) (ho : ops[i]? = some o)
    (hw : Region.wanted o (yielded ops a.tmps) = true) (h : ∀ K : Act → World → Prop, (∀ a' w', S w' → wpAnyH P md ops Q S fuel (listed.setIfInBounds i true) a' w' → K a' w') → o.wp P a w K Q) : wpAnyH P md ops Q S (fuel + 1) listed a w :=
  wpAnyH_all hr (by simp) (all_one (held_step ho hw h))
set_option maxRecDepth 100000 in
set_option maxHeartbeats 4000000 in
theorem specSeconds_no1 (y m d s : Int) (w : World) (h : ¬ (2000 ≤ y ∧ y ≤ 2099 ∧ 1 ≤ m ∧ m ≤ 12 ∧ 1 ≤ d)) : Calls Try.prog 9 #[sA y m d s] w fun e w' => e = .returned (.int .i64 (-1)) ∧ Below w.heap.size w w' := by
  unfold sA
  by_cases h1 : y < 2000
  · clear h
    go_enter Try.func9, Try.ntmps9
    go_wp2_with fail
    go_quiet (fail)
    go_wp2
    go_ret
    exact ⟨rfl, bdn (bx1 _ _) _⟩
  by_cases h2 : 2099 < y
  · clear h
    have h1' : decide (y < 2000) = false := decide_eq_false h1
    go_enter Try.func9, Try.ntmps9
    go_wp2_with fail
    go_quiet (fail)
    go_wp2
    go_ret
    exact ⟨rfl, bdn (bx1 _ _) _⟩
  by_cases h3 : m < 1
  · clear h
    have h1' : decide (y < 2000) = false := decide_eq_false h1
    have h2' : decide (2099 < y) = false := decide_eq_false h2
    go_enter Try.func9, Try.ntmps9
    go_wp2_with fail
    go_quiet (fail)
    go_wp2
    go_ret
    exact ⟨rfl, bdn (bx1 _ _) _⟩
  by_cases h4 : 12 < m
  · clear h
    have h1' : decide (y < 2000) = false := decide_eq_false h1
    have h2' : decide (2099 < y) = false := decide_eq_false h2
    have h3' : decide (m < 1) = false := decide_eq_false h3
    go_enter Try.func9, Try.ntmps9
    go_wp2_with fail
    go_quiet (fail)
    go_wp2
    go_ret
    exact ⟨rfl, bdn (bx1 _ _) _⟩
  have h5 : d < 1 := by omega
  clear h
  have h1' : decide (y < 2000) = false := decide_eq_false h1
  have h2' : decide (2099 < y) = false := decide_eq_false h2
  have h3' : decide (m < 1) = false := decide_eq_false h3
  have h4' : decide (12 < m) = false := decide_eq_false h4
  go_enter Try.func9, Try.ntmps9
  go_wp2_with fail
  go_quiet (fail)
  go_wp2
  go_ret
  exact ⟨rfl, bdn (bx1 _ _) _⟩
end Go.Proofs.Ytakacapcphbjiaa
