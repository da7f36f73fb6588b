import Derived.Test.YtakacapcphbjiaaSt7a
import Derived.Test.YtakacapcphbjiaaSt7b
import Derived.Test.YtakacapcphbjiaaSt7c
import Derived.Test.YtakacapcphbjiaaSt8
namespace Go.Proofs.Ytakacapcphbjiaa
open Go.ChangeShapes Go.WideShapes Go.ChangeAt Go.RowKit

def secV (y m d s : Int) : Int := if okS y m d s then secs y m d s else -1
theorem implSeconds_any (y m d s : Int) (w : World) : Calls Try.prog 11 #[sA y m d s] w fun e w' => e = .returned (.int .i64 (secV y m d s)) ∧ Below w.heap.size w w' := by
  unfold secV
  split
  · exact implSeconds_yes y m d s w (by assumption)
  · exact implSeconds_no y m d s w (by assumption)
theorem specSeconds_any (y m d s : Int) (w : World) : Calls Try.prog 9 #[sA y m d s] w fun e w' => e = .returned (.int .i64 (secV y m d s)) ∧ Below w.heap.size w w' := by
  unfold secV
  by_cases h1 : 2000 ≤ y ∧ y ≤ 2099 ∧ 1 ≤ m ∧ m ≤ 12 ∧ 1 ≤ d
  · by_cases h2 : dm y m < d
    · rw [if_neg (fun h => by unfold okS at h; omega)]
      exact specSeconds_no2 y m d s w (by omega) (by omega) (by omega) (by omega) (by omega) h2
    · by_cases h3 : s < 0
      · rw [if_neg (fun h => by unfold okS at h; omega)]
        exact specSeconds_no3 y m d s w (by omega) (by omega) (by omega) (by omega) (by omega) (by omega) h3
      · by_cases h4 : 86399 < s
        · rw [if_neg (fun h => by unfold okS at h; omega)]
          exact specSeconds_no4 y m d s w (by omega) (by omega) (by omega) (by omega) (by omega) (by omega) h3 h4
        · rw [if_pos (by unfold okS; omega)]
          exact specSeconds_yes y m d s w (by omega) (by omega) (by omega) (by omega) (by omega) (by omega) h3 h4
  · rw [if_neg (fun h => h1 (by unfold okS at h; omega))]
    exact specSeconds_no1 y m d s w h1
theorem secV_back {n y m d s : Int} (h : StampAt n y m d s) : secV y m d s = n := by
  obtain ⟨a0, a1, a2, a3, a4, a5, a6, a7⟩ := h
  unfold secV
  rw [if_pos (by unfold okS; omega)]
  unfold secs
  rw [a4, a7]
  omega
set_option maxRecDepth 100000 in
set_option maxHeartbeats 4000000 in
theorem toStamp_any (y m d s : Int) (w : World) : Calls Try.prog 10 #[sA y m d s] w fun e w' => e = .returned (sA y m d s) ∧ Below w.heap.size w w' := by
  unfold sA
  go_enter Try.func10, Try.ntmps10
  go_wp2
  refine bodyPost_ret (v := .agg #[.int .i64 y, .int .i64 m, .int .i64 d, .int .i64 s]) ?_ rfl ⟨rfl, (((Below.refl _ _).alloc (Nat.le_refl _) _).alloc (by simp) _).alloc (by simp; omega) _⟩
  simp only [results, Try.results10, go_sem]
  simp [go_sem]
end Go.Proofs.Ytakacapcphbjiaa
