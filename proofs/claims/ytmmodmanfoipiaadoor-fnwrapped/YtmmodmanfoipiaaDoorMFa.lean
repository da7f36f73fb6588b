import Derived.Test.YtmmodmanfoipiaaDoorIdxI
import Derived.Test.YtmmodmanfoipiaaDoorWords
namespace Go.Proofs.YtmmodmanfoipiaaDoor
open Go.ChangeShapes Go.WideShapes Go.ChangeAt Go.RowKit

def isW (n : Int) : Bool := decide (0 ≤ n) && decide (n < 4294967296)
theorem specIsWord_any (n : Int) (w : World) : Calls Tryd.prog 21 #[.int .i64 n] w fun e w' => e = .returned (.bool (isW n)) ∧ w' = w := by
  unfold isW
  go_enter Tryd.func21, Tryd.ntmps21
  go_wp2
  all_goals go_ret
  all_goals refine ⟨ret_bool ?_, rfl⟩
  all_goals simp
  all_goals omega
theorem implIsWord_any (n : Int) (w : World) : Calls Tryd.prog 15 #[.int .i64 n] w fun e w' => e = .returned (.bool (isW n)) ∧ w' = w := by
  have h : (n % 4294967296 == n) = isW n := by
    unfold isW
    by_cases h : 0 ≤ n ∧ n < 4294967296
    · rw [decide_eq_true h.1, decide_eq_true h.2]
      simp
      omega
    · have h2 : (decide (0 ≤ n) && decide (n < 4294967296)) = false := by
        simp
        omega
      rw [h2]
      simp
      omega
  go_enter Tryd.func15, Tryd.ntmps15
  go_wp2_with (go_at_call 34; refine (implWord_any _ _).mono ?_; rintro e u1 ⟨rfl, hu1⟩; rw [hu1]; clear hu1)
  go_ret
  exact ⟨rfl, rfl⟩
/-- A row of so many words. -/
def wordsB (zs : List Int) (n : Nat) : Bool := decide (zs.length = n) && zs.all isW
theorem any_not {α : Type} (zs : List α) (p : α → Bool) : (!zs.any fun x => !p x) = zs.all p := by simp [List.all_eq_not_any_not]
theorem all_take {α : Type} {zs : List α} {p : α → Bool} {j : Nat} (hj : j < zs.length) : (zs.take (j + 1)).all p = ((zs.take j).all p && p zs[j]) := by
  rw [List.take_succ_eq_append_getElem hj, List.all_append]
  simp only [List.all_cons, List.all_nil, Bool.and_true]
theorem all_bad {α : Type} {zs : List α} {p : α → Bool} {j : Nat} (hj : j < zs.length) (h : p zs[j] = false) : zs.all p = false := by
  rw [List.all_eq_false]
  exact ⟨zs[j], List.getElem_mem hj, by rw [h]; decide⟩
end Go.Proofs.YtmmodmanfoipiaaDoor
