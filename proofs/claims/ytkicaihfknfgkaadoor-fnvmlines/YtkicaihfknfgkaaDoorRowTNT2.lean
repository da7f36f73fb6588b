import Derived.Test.YtkicaihfknfgkaaDoorRowTNT1
namespace Go.Proofs.YtkicaihfknfgkaaDoor
open Go.ChangeShapes Go.WideShapes Go.ChangeAt Go.RowKit

theorem tntR_set (zs : List TNT) (k : Nat) (m : TNT) (hk : k < zs.length) : ((((tntR zs).set (k * 3) (.int .i64 m.cpu)).set (k * 3 + 1) (.int .i64 m.mem)).set (k * 3 + 2) (.int .i64 m.bill)) = tntR (zs.set k m) := by
  induction zs generalizing k with
  | nil => simp at hk
  | cons z zs ih =>
    have e : tntR (z :: zs) = tntC z ++ tntR zs := rfl
    have hl : (tntC z).length = 3 := rfl
    cases k with
    | zero =>
      rw [e, List.set_cons_zero]
      show _ = tntC m ++ tntR zs
      rfl
    | succ k =>
      rw [e, List.set_cons_succ]
      show _ = tntC z ++ tntR (zs.set k m)
      rw [List.set_append_right _ _ (by omega), List.set_append_right _ _ (by omega), List.set_append_right _ _ (by omega), hl,
        show (k + 1) * 3 - 3 = k * 3 by omega, show (k + 1) * 3 + 1 - 3 = k * 3 + 1 by omega, show (k + 1) * 3 + 2 - 3 = k * 3 + 2 by omega, ih k (by simpa using hk)]
theorem gbTNT {w0 w u : World} {r : Option Nat} (h : w0.grownBy w r) (hg : w.grownBy u r) : w0.grownBy u r :=
  ⟨hg.os.trans h.os, hg.tape.trans h.tape, hg.output.trans h.output, Nat.le_trans h.size hg.size, fun k hk hn => (hg.block k (Nat.lt_of_lt_of_le hk h.size) hn).trans (h.block k hk hn)⟩
end Go.Proofs.YtkicaihfknfgkaaDoor
