import Derived.Test.YthncnffnjjclfaaRowLN1
namespace Go.Proofs.Ythncnffnjjclfaa
open Go.ChangeShapes Go.WideShapes Go.ChangeAt Go.RowKit

theorem lnR_set (zs : List LN) (k : Nat) (m : LN) (hk : k < zs.length) : ((((((lnR zs).set (k * 5) (.int .i64 m.cpu)).set (k * 5 + 1) (.int .i64 m.vec)).set (k * 5 + 2) (.bool m.lev)).set (k * 5 + 3) (.bool m.msk)).set (k * 5 + 4) (.bool m.hi)) = lnR (zs.set k m) := by
  induction zs generalizing k with
  | nil => simp at hk
  | cons z zs ih =>
    have e : lnR (z :: zs) = lnC z ++ lnR zs := rfl
    have hl : (lnC z).length = 5 := rfl
    cases k with
    | zero =>
      rw [e, List.set_cons_zero]
      show _ = lnC m ++ lnR zs
      rfl
    | succ k =>
      rw [e, List.set_cons_succ]
      show _ = lnC z ++ lnR (zs.set k m)
      rw [List.set_append_right _ _ (by omega), List.set_append_right _ _ (by omega), List.set_append_right _ _ (by omega), List.set_append_right _ _ (by omega), List.set_append_right _ _ (by omega), hl,
        show (k + 1) * 5 - 5 = k * 5 by omega, show (k + 1) * 5 + 1 - 5 = k * 5 + 1 by omega, show (k + 1) * 5 + 2 - 5 = k * 5 + 2 by omega, show (k + 1) * 5 + 3 - 5 = k * 5 + 3 by omega, show (k + 1) * 5 + 4 - 5 = k * 5 + 4 by omega, ih k (by simpa using hk)]
theorem gbLN {w0 w u : World} {r : Option Nat} (h : w0.grownBy w r) (hg : w.grownBy u r) : w0.grownBy u r :=
  ⟨hg.os.trans h.os, hg.tape.trans h.tape, hg.output.trans h.output, Nat.le_trans h.size hg.size, fun k hk hn => (hg.block k (Nat.lt_of_lt_of_le hk h.size) hn).trans (h.block k hk hn)⟩
end Go.Proofs.Ythncnffnjjclfaa
