import Derived.Test.YthncnffnjjclfaaFr1
namespace Go.Proofs.Ythncnffnjjclfaa
open Go.ChangeShapes Go.WideShapes Go.ChangeAt Go.RowKit

theorem frV_or (s d n : Int) (t : ByteArray) : frV ⟨s, d, n, t⟩ = if (decide (s < 0) || decide (281474976710655 ≤ s) || decide (d < 0) || decide (281474976710655 < d) || decide (n < 0) || decide (4095 < n) || decide (1500 < (t.size : Int))) = true then 1 else 0 := by
  unfold frV frB oaB ntB
  simp only
  split <;> split
  · simp_all
    omega
  · rfl
  · rfl
  · rename_i h1 h2
    exfalso
    apply h1
    simp only [Bool.or_eq_true, decide_eq_true_eq, not_or] at h2
    simp only [Bool.and_eq_true, Bool.or_eq_true, decide_eq_true_eq, beq_iff_eq]
    omega
set_option maxRecDepth 100000 in
set_option maxHeartbeats 4000000 in
theorem specFF_any (f : FR) (w : World) : Calls Try.prog 7 #[frA f] w fun e w' => e = .returned (.int .i64 (frV f)) ∧ Below w.heap.size w w' := by
  obtain ⟨s, d, n, t⟩ := f
  have HB : Hid (Below w.heap.size w (w.alloc (.cells #[.int .i64 s, .int .i64 d, .int .i64 n, .string t] 26))) := bx1 _ _
  have E : Hid _ := frV_or s d n t
  unfold frA frC
  simp only
  cases h1 : decide (s < 0)
  · rw [h1] at E
    cases h2 : decide (281474976710655 ≤ s)
    · rw [h2] at E
      cases h3 : decide (d < 0)
      · rw [h3] at E
        cases h4 : decide (281474976710655 < d)
        · rw [h4] at E
          cases h5 : decide (n < 0)
          · rw [h5] at E
            cases h6 : decide (4095 < n)
            · rw [h6] at E
              cases h7 : decide (1500 < (t.size : Int))
              · rw [h7] at E
                go_enter Try.func7, Try.ntmps7
                go_wp2
                go_ret
                exact ⟨ret_int (by rw [E.out]; rfl), HB.out⟩
              · rw [h7] at E
                simp at E
                go_enter Try.func7, Try.ntmps7
                go_wp2
                go_ret
                exact ⟨ret_int (by rw [E.out]), HB.out⟩
            · rw [h6] at E
              simp at E
              go_enter Try.func7, Try.ntmps7
              go_wp2
              go_ret
              exact ⟨ret_int (by rw [E.out]), HB.out⟩
          · rw [h5] at E
            simp at E
            go_enter Try.func7, Try.ntmps7
            go_wp2
            go_ret
            exact ⟨ret_int (by rw [E.out]), HB.out⟩
        · rw [h4] at E
          simp at E
          go_enter Try.func7, Try.ntmps7
          go_wp2
          go_ret
          exact ⟨ret_int (by rw [E.out]), HB.out⟩
      · rw [h3] at E
        simp at E
        go_enter Try.func7, Try.ntmps7
        go_wp2
        go_ret
        exact ⟨ret_int (by rw [E.out]), HB.out⟩
    · rw [h2] at E
      simp at E
      go_enter Try.func7, Try.ntmps7
      go_wp2
      go_ret
      exact ⟨ret_int (by rw [E.out]), HB.out⟩
  · rw [h1] at E
    simp at E
    go_enter Try.func7, Try.ntmps7
    go_wp2
    go_ret
    exact ⟨ret_int (by rw [E.out]), HB.out⟩
set_option maxRecDepth 100000 in
set_option maxHeartbeats 4000000 in
theorem toFrame_any (z : FR) (w : World) : Calls Try.prog 8 #[frA z] w fun e w' => e = .returned (frA z) ∧ Below w.heap.size w w' := by
  unfold frA frC
  go_enter Try.func8, Try.ntmps8
  go_wp2
  refine bodyPost_ret (v := frA z) ?_ rfl ⟨rfl, (((Below.refl _ _).alloc (Nat.le_refl _) _).alloc (by simp) _).alloc (by simp; omega) _⟩
  simp only [results, Try.results8, go_sem]
  simp [go_sem, frA, frC]
def szF (t : ByteArray) (L : Int) : Int := if L < (t.size : Int) then -1 else L - (t.size : Int)
set_option maxRecDepth 100000 in
set_option maxHeartbeats 4000000 in
theorem szFrame_any (z : FR) (w : World) (L : Int) (hL : 0 ≤ L) (hL2 : L ≤ 1048576) (h1 : z.text.size ≤ maxLen) : Calls Try.prog 6 #[frA z, .int .i64 L] w fun e w' => e = .returned (.int .i64 (szF z.text L)) ∧ Below w.heap.size w w' := by
  obtain ⟨s, d, n, t⟩ := z
  have q1 : t.size ≤ 9223372036854775807 := by unfold maxLen at h1; simp only at h1; omega
  clear h1
  unfold frA frC
  simp only
  by_cases h3 : L < (t.size : Int)
  · have E : Hid (szF t L = -1) := if_pos h3
    have h4 : decide (L - (t.size : Int) < 0) = true := decide_eq_true (by omega)
    go_enter Try.func6, Try.ntmps6
    go_wp2
    go_ret
    exact ⟨ret_int E.out.symm, (Below.refl _ _).alloc (Nat.le_refl _) _⟩
  · have E : Hid (szF t L = L - (t.size : Int)) := if_neg h3
    have h4 : decide (L - (t.size : Int) < 0) = false := decide_eq_false (by omega)
    go_enter Try.func6, Try.ntmps6
    go_wp2
    go_ret
    exact ⟨ret_int E.out.symm, (Below.refl _ _).alloc (Nat.le_refl _) _⟩
theorem cFR : Try.prog.cellsOf 23 = 4 := by kernel_rfl
theorem cFi : Try.prog.cellsOf 2 = 1 := by kernel_rfl
theorem cFs : Try.prog.cellsOf 9 = 1 := by kernel_rfl
theorem array4F {α : Type} {cs : Array α} (h : cs.size = 4) : ∃ c0 c1 c2 c3, cs = #[c0, c1, c2, c3] := by
  obtain ⟨l⟩ := cs
  match l, h with
  | [c0, c1, c2, c3], _ => exact ⟨c0, c1, c2, c3, rfl⟩
set_option maxRecDepth 100000 in
theorem open_frame {H : Type} {enc : TypeId × Value → H} {W : World} {base : Nat} {v : Value} {d : DataW H} {p : List MemPlace} (hv : Value.okWide Try.prog W .any base 23 v)
    (h : DataW.Trod enc Try.prog W 0 (fun _ => true) true 23 v d p) : ∃ x : FR, v = frA x ∧ x.text.size ≤ maxLen := by
  obtain ⟨cs, rfl, hsz⟩ := okWide_struct Try.underlying23 hv
  obtain ⟨x0, x1, x2, x3, rfl⟩ := array4F (hsz.trans cFR)
  obtain ⟨fuel, hf⟩ := h
  obtain ⟨xs, n, _, hx, _, hlen, hel⟩ := DataW.trod_struct Try.underlying23 hf
  match xs, hlen, hel with
  | [y0, y1, y2, y3], _, hel =>
    have g0 := hel 0 _ rfl
    have g1 := hel 1 _ rfl
    have g2 := hel 2 _ rfl
    have g3 := hel 3 _ rfl
    simp only [Value.cells] at g0 g1 g2 g3
    obtain ⟨a0, e0, _⟩ := DataW.trod_int Try.underlying2 g0
    obtain ⟨a1, e1, _⟩ := DataW.trod_int Try.underlying2 g1
    obtain ⟨a2, e2, _⟩ := DataW.trod_int Try.underlying2 g2
    obtain ⟨a3, e3, _, w3⟩ := DataW.trod_string Try.underlying9 g3
    simp [cFi, cFs] at e0 e1 e2 e3
    subst e0 e1 e2 e3
    exact ⟨⟨a0, a1, a2, a3⟩, rfl, w3⟩
end Go.Proofs.Ythncnffnjjclfaa
