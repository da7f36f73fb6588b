import Derived.Test.YtakacapcphbjiaaSt3
namespace Go.Proofs.Ytakacapcphbjiaa
open Go.ChangeShapes Go.WideShapes Go.ChangeAt Go.RowKit

set_option maxRecDepth 100000 in
set_option maxHeartbeats 4000000 in
theorem eqStamp_same (y m d s : Int) (w : World) : Calls Try.prog 8 #[sA y m d s, sA y m d s] w fun e w' => e = .returned (.bool true) ∧ Below w.heap.size w w' := by
  unfold sA
  go_enter Try.func8, Try.ntmps8
  go_wp2
  go_ret
  exact ⟨rfl, ((Below.refl _ _).alloc (Nat.le_refl _) _).alloc (by simp) _⟩
theorem specStamp_any (n : Int) (w : World) : Calls Try.prog 6 #[.int .i64 n] w fun e w' => ∃ y m d s, e = .returned (sA y m d s) ∧ ((StampAt n y m d s ∧ 0 ≤ n ∧ n < 3155760000) ∨ (¬ (0 ≤ n ∧ n < 3155760000) ∧ y = 0 ∧ m = 0 ∧ d = 0 ∧ s = 0)) ∧ Below w.heap.size w w' := by
  by_cases h : 0 ≤ n ∧ n < 3155760000
  · refine (specStamp_yes n w h.1 h.2).mono ?_
    rintro e w' ⟨y, m, d, s, rfl, h1, h2⟩
    exact ⟨y, m, d, s, rfl, .inl ⟨h1, h⟩, h2⟩
  · refine (specStamp_no n w (by omega)).mono ?_
    rintro e w' ⟨rfl, h2⟩
    exact ⟨0, 0, 0, 0, rfl, .inr ⟨h, rfl, rfl, rfl, rfl⟩, h2⟩
theorem implStamp_as {n y m d s : Int} (h : (StampAt n y m d s ∧ 0 ≤ n ∧ n < 3155760000) ∨ (¬ (0 ≤ n ∧ n < 3155760000) ∧ y = 0 ∧ m = 0 ∧ d = 0 ∧ s = 0)) (w : World) : Calls Try.prog 7 #[.int .i64 n] w fun e w' => e = .returned (sA y m d s) ∧ Below w.heap.size w w' := by
  rcases h with ⟨h, h0, h1⟩ | ⟨h, rfl, rfl, rfl, rfl⟩
  · refine (implStamp_yes n w h0 h1).mono ?_
    rintro e w' ⟨y', m', d', s', rfl, g1, g2⟩
    obtain ⟨rfl, rfl, rfl, rfl⟩ := h.uniq g1
    exact ⟨rfl, g2⟩
  · exact implStamp_no n w (by omega)
end Go.Proofs.Ytakacapcphbjiaa
