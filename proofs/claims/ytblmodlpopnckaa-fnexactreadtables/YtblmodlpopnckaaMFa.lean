import Derived.Test.YtblmodlpopnckaaIdxI
import Derived.Test.YtblmodlpopnckaaWords
namespace Go.Proofs.Ytblmodlpopnckaa
open Go.ChangeShapes Go.WideShapes Go.ChangeAt Go.RowKit

def isW (n : Int) : Bool := decide (0 ≤ n) && decide (n < 4294967296)
/-- A row of so many words. -/
def wordsB (zs : List Int) (n : Nat) : Bool := decide (zs.length = n) && zs.all isW
theorem any_not {α : Type} (zs : List α) (p : α → Bool) : (!zs.any fun x => !p x) = zs.all p := by simp [List.all_eq_not_any_not]
theorem all_take {α : Type} {zs : List α} {p : α → Bool} {j : Nat} (hj : j < zs.length) : (zs.take (j + 1)).all p = ((zs.take j).all p && p zs[j]) := by
  rw [List.take_succ_eq_append_getElem hj, List.all_append]
  simp only [List.all_cons, List.all_nil, Bool.and_true]
theorem all_bad {α : Type} {zs : List α} {p : α → Bool} {j : Nat} (hj : j < zs.length) (h : p zs[j] = false) : zs.all p = false := by
  rw [List.all_eq_false]
  exact ⟨zs[j], List.getElem_mem hj, by rw [h]; decide⟩
end Go.Proofs.Ytblmodlpopnckaa
