import Derived.Test.YtmmodmanfoipiaaDoorFr1
namespace Go.Proofs.YtmmodmanfoipiaaDoor
open Go.ChangeShapes Go.WideShapes Go.ChangeAt Go.RowKit

theorem frV_or (s d n : Int) (t : ByteArray) : frV ⟨s, d, n, t⟩ = if (decide (s < 0) || decide (281474976710655 ≤ s) || decide (d < 0) || decide (281474976710655 < d) || decide (n < 0) || decide (4095 < n) || decide (1500 < (t.size : Int))) = true then 1 else 0 := by
  unfold frV frB oaB ntB
  simp only
  split <;> split
  · simp_all
    omega
  · rfl
  · rfl
  · rename_i h1 h2
    exfalso
    apply h1
    simp only [Bool.or_eq_true, decide_eq_true_eq, not_or] at h2
    simp only [Bool.and_eq_true, Bool.or_eq_true, decide_eq_true_eq, beq_iff_eq]
    omega
set_option maxRecDepth 100000 in
set_option maxHeartbeats 4000000 in
theorem specFF_any (f : FR) (w : World) : Calls Tryd.prog 20 #[frA f] w fun e w' => e = .returned (.int .i64 (frV f)) ∧ Below w.heap.size w w' := by
  obtain ⟨s, d, n, t⟩ := f
  have HB : Hid (Below w.heap.size w (w.alloc (.cells #[.int .i64 s, .int .i64 d, .int .i64 n, .string t] 24))) := bx1 _ _
  have E : Hid _ := frV_or s d n t
  unfold frA frC
  simp only
  cases h1 : decide (s < 0)
  · rw [h1] at E
    cases h2 : decide (281474976710655 ≤ s)
    · rw [h2] at E
      cases h3 : decide (d < 0)
      · rw [h3] at E
        cases h4 : decide (281474976710655 < d)
        · rw [h4] at E
          cases h5 : decide (n < 0)
          · rw [h5] at E
            cases h6 : decide (4095 < n)
            · rw [h6] at E
              cases h7 : decide (1500 < (t.size : Int))
              · rw [h7] at E
                go_enter Tryd.func20, Tryd.ntmps20
                go_wp2
                go_ret
                exact ⟨ret_int (by rw [E.out]; rfl), HB.out⟩
              · rw [h7] at E
                simp at E
                go_enter Tryd.func20, Tryd.ntmps20
                go_wp2
                go_ret
                exact ⟨ret_int (by rw [E.out]), HB.out⟩
            · rw [h6] at E
              simp at E
              go_enter Tryd.func20, Tryd.ntmps20
              go_wp2
              go_ret
              exact ⟨ret_int (by rw [E.out]), HB.out⟩
          · rw [h5] at E
            simp at E
            go_enter Tryd.func20, Tryd.ntmps20
            go_wp2
            go_ret
            exact ⟨ret_int (by rw [E.out]), HB.out⟩
        · rw [h4] at E
          simp at E
          go_enter Tryd.func20, Tryd.ntmps20
          go_wp2
          go_ret
          exact ⟨ret_int (by rw [E.out]), HB.out⟩
      · rw [h3] at E
        simp at E
        go_enter Tryd.func20, Tryd.ntmps20
        go_wp2
        go_ret
        exact ⟨ret_int (by rw [E.out]), HB.out⟩
    · rw [h2] at E
      simp at E
      go_enter Tryd.func20, Tryd.ntmps20
      go_wp2
      go_ret
      exact ⟨ret_int (by rw [E.out]), HB.out⟩
  · rw [h1] at E
    simp at E
    go_enter Tryd.func20, Tryd.ntmps20
    go_wp2
    go_ret
    exact ⟨ret_int (by rw [E.out]), HB.out⟩
def szF (t : ByteArray) (L : Int) : Int := if L < (t.size : Int) then -1 else L - (t.size : Int)
theorem cFi : Tryd.prog.cellsOf 2 = 1 := by kernel_rfl
theorem cFs : Tryd.prog.cellsOf 9 = 1 := by kernel_rfl
theorem array4F {α : Type} {cs : Array α} (h : cs.size = 4) : ∃ c0 c1 c2 c3, cs = #[c0, c1, c2, c3] := by
  obtain ⟨l⟩ := cs
  match l, h with
  | [c0, c1, c2, c3], _ => exact ⟨c0, c1, c2, c3, rfl⟩
end Go.Proofs.YtmmodmanfoipiaaDoor
