import Derived.Test.YthncnffnjjclfaaRowRM1
namespace Go.Proofs.Ythncnffnjjclfaa
open Go.ChangeShapes Go.WideShapes Go.ChangeAt Go.RowKit

theorem rmR_set (zs : List RM) (k : Nat) (m : RM) (hk : k < zs.length) : (((((rmR zs).set (k * 4) (.int .i64 m.dev)).set (k * 4 + 1) (.int .i64 m.idx)).set (k * 4 + 2) (.int .i64 m.cpu)).set (k * 4 + 3) (.int .i64 m.vec)) = rmR (zs.set k m) := by
  induction zs generalizing k with
  | nil => simp at hk
  | cons z zs ih =>
    have e : rmR (z :: zs) = rmC z ++ rmR zs := rfl
    have hl : (rmC z).length = 4 := rfl
    cases k with
    | zero =>
      rw [e, List.set_cons_zero]
      show _ = rmC m ++ rmR zs
      rfl
    | succ k =>
      rw [e, List.set_cons_succ]
      show _ = rmC z ++ rmR (zs.set k m)
      rw [List.set_append_right _ _ (by omega), List.set_append_right _ _ (by omega), List.set_append_right _ _ (by omega), List.set_append_right _ _ (by omega), hl,
        show (k + 1) * 4 - 4 = k * 4 by omega, show (k + 1) * 4 + 1 - 4 = k * 4 + 1 by omega, show (k + 1) * 4 + 2 - 4 = k * 4 + 2 by omega, show (k + 1) * 4 + 3 - 4 = k * 4 + 3 by omega, ih k (by simpa using hk)]
theorem gbRM {w0 w u : World} {r : Option Nat} (h : w0.grownBy w r) (hg : w.grownBy u r) : w0.grownBy u r :=
  ⟨hg.os.trans h.os, hg.tape.trans h.tape, hg.output.trans h.output, Nat.le_trans h.size hg.size, fun k hk hn => (hg.block k (Nat.lt_of_lt_of_le hk h.size) hn).trans (h.block k hk hn)⟩
end Go.Proofs.Ythncnffnjjclfaa
