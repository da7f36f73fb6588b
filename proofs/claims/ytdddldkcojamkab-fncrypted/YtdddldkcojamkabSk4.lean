import Derived.Test.YtdddldkcojamkabSk3
namespace Go.Proofs.Ytdddldkcojamkab
open Go.ChangeShapes Go.WideShapes Go.ChangeAt Go.RowKit

def cryV (s : ByteArray) (tw : Int) (d : ByteArray) : ByteArray := if ovB s = true ∨ 65536 < d.size then ⟨#[]⟩ else crV s tw d
def tagV (s d : ByteArray) : ByteArray := pw (mixv (s ++ d) 21) ++ pw (mixv (d ++ s) 22)
def tgoV (s d : ByteArray) : ByteArray := if ovB s = true ∨ ovB d = true then ⟨#[]⟩ else tagV s d
theorem ovB_le {s : ByteArray} (h : ovB s = false) : s.size ≤ 4096 := by
  have := of_decide_eq_false h
  omega
theorem cat2_eq (a b : ByteArray) : (⟨(catB [a, b]).toArray⟩ : ByteArray) = a ++ b := by
  apply ByteArray.ext
  simp [catB]
theorem join2_any (u : World) (a b : ByteArray) (hsz : a.size + b.size ≤ 1099511627776) :
    Calls Try.prog 49 #[.slice (some ⟨u.heap.size, 0, none⟩) 2 2] (u.alloc (.cells #[.string a, .string b] 9)) fun e w' => e = .returned (.string (a ++ b)) ∧ Below u.heap.size u w' := by
  refine (joined_any u.heap.size 2 2 [a, b] _ rfl (by simp) ?_ (by omega) ?_).mono ?_
  · intro i hi
    match i, hi with
    | 0, _ => simp
    | 1, _ => simp
  · simp [catB]
    omega
  · rintro e w' ⟨rfl, hb⟩
    exact ⟨by rw [cat2_eq], ((Below.refl u.heap.size u).alloc (Nat.le_refl _) _).trans (hb.mono (by simp))⟩
end Go.Proofs.Ytdddldkcojamkab
