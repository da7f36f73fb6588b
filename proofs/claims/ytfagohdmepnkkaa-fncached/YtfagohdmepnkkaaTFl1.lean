import Derived.Test.YtfagohdmepnkkaaTFl0
namespace Go.Proofs.Ytfagohdmepnkkaa
open Go.ChangeShapes Go.WideShapes Go.ChangeAt Go.RowKit

/-- Which entry goes. -/
def flP (asid va : Int) (e : TE) : Bool := (decide (asid < 0) || (decide (e.asid = asid) && decide (e.flags / 128 % 2 = 0))) && (decide (va < 0) || holdsB e va)
set_option maxRecDepth 100000 in
set_option maxHeartbeats 4000000 in
theorem flushFn_any (z : TE) (hz : teOk z = true) (asid va : Int) (b1 b2 : Nat) (w : World) (c1 : w.cell? ⟨b1, 0, none⟩ = some (.int .i64 asid)) (c2 : w.cell? ⟨b2, 0, none⟩ = some (.int .i64 va)) (l1 : b1 < w.heap.size) (l2 : b2 < w.heap.size) : Calls Try.prog 84 #[teA z, .pointer (some ⟨b1, 0, none⟩), .pointer (some ⟨b2, 0, none⟩)] w fun e w' => e = .returned (.bool (flP asid va z)) ∧ Below w.heap.size w w' := by
  obtain ⟨q1, q2, q3, q4, q5⟩ := teOk_b hz
  have HH : Hid _ := fun w' => implHolds_any z va w' q2 (fun h => (q5 h).1)
  have hg : bits .and .i64 z.flags 128 = z.flags / 128 % 2 * 128 := and128 _ q4.1 (by omega)
  obtain ⟨a, p, f, g, l⟩ := z
  simp only at hg
  unfold teA at HH ⊢
  obtain ⟨hb, hhb⟩ : ∃ hb, holdsB ⟨a, p, f, g, l⟩ va = hb := ⟨_, rfl⟩
  rw [hhb] at HH
  clear q1 q2 q3 q5 hz
  have q41 : 0 ≤ g := q4.1
  clear q4
  have HB1 : Hid (holdsB ⟨a, p, f, g, l⟩ va = hb) := hhb
  clear hhb
  have HB0 : Hid (Below w.heap.size w (w.alloc (.cells #[.int .i64 a, .int .i64 p, .int .i64 f, .int .i64 g, .bool l] 66))) := (Below.refl _ _).alloc (Nat.le_refl _) _
  by_cases h1 : asid < 0
  · by_cases h4 : va < 0
    · have E : Hid (flP asid va ⟨a, p, f, g, l⟩ = true) := (show flP asid va ⟨a, p, f, g, l⟩ = true by unfold flP; simp [h1, h4])
      go_enter Try.func84, Try.ntmps84
      go_wp2
      go_ret
      exact ⟨ret_bool E.out.symm, HB0.out⟩
    · have E : Hid (flP asid va ⟨a, p, f, g, l⟩ = hb) := (show flP asid va ⟨a, p, f, g, l⟩ = hb by unfold flP; simp [h1, h4]; try rw [HB1.out])
      go_enter Try.func84, Try.ntmps84
      go_wp2_with (go_at_call 85; refine Calls.mono (HH.out _) ?_; rintro e u5 ⟨rfl, hu5⟩; have HB : Hid (Below w.heap.size w u5) := bstep (Below.refl _ _) _ hu5; clear hu5)
      go_ret
      exact ⟨ret_bool E.out.symm, HB.out⟩
  · by_cases h2 : a = asid
    · subst h2
      rcases (by omega : g / 128 % 2 = 0 ∨ g / 128 % 2 = 1) with h3 | h3
      · rw [h3] at hg
        have h30 : bits .and .i64 g 128 = 0 := by omega
        clear hg
        by_cases h4 : va < 0
        · have E : Hid (flP a va ⟨a, p, f, g, l⟩ = true) := (show flP a va ⟨a, p, f, g, l⟩ = true by unfold flP; simp [h1, h3, h4])
          go_enter Try.func84, Try.ntmps84
          go_wp2
          go_ret
          exact ⟨ret_bool E.out.symm, HB0.out⟩
        · have E : Hid (flP a va ⟨a, p, f, g, l⟩ = hb) := (show flP a va ⟨a, p, f, g, l⟩ = hb by unfold flP; simp [h1, h3, h4]; try rw [HB1.out])
          go_enter Try.func84, Try.ntmps84
          go_wp2_with (go_at_call 85; refine Calls.mono (HH.out _) ?_; rintro e u5 ⟨rfl, hu5⟩; have HB : Hid (Below w.heap.size w u5) := bstep (Below.refl _ _) _ hu5; clear hu5)
          go_ret
          exact ⟨ret_bool E.out.symm, HB.out⟩
      · rw [h3] at hg
        have h31 : bits .and .i64 g 128 = 128 := by omega
        clear hg
        have E : Hid (flP a va ⟨a, p, f, g, l⟩ = false) := (show flP a va ⟨a, p, f, g, l⟩ = false by unfold flP; simp [h1, h3])
        go_enter Try.func84, Try.ntmps84
        go_wp2
        go_ret
        exact ⟨ret_bool E.out.symm, HB0.out⟩
    · have E : Hid (flP asid va ⟨a, p, f, g, l⟩ = false) := (show flP asid va ⟨a, p, f, g, l⟩ = false by unfold flP; simp [h1, h2])
      go_enter Try.func84, Try.ntmps84
      go_wp2
      go_ret
      exact ⟨ret_bool E.out.symm, HB0.out⟩
end Go.Proofs.Ytfagohdmepnkkaa
