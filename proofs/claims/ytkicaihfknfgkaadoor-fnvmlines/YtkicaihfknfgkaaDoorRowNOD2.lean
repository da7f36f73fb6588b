import Derived.Test.YtkicaihfknfgkaaDoorRowNOD1
namespace Go.Proofs.YtkicaihfknfgkaaDoor
open Go.ChangeShapes Go.WideShapes Go.ChangeAt Go.RowKit

theorem nodR_set (zs : List NOD) (k : Nat) (m : NOD) (hk : k < zs.length) : ((((((((nodR zs).set (k * 7) (.string m.name)).set (k * 7 + 1) (.int .i64 m.cpu)).set (k * 7 + 2) (.int .i64 m.mem)).set (k * 7 + 3) (.int .i64 m.zone)).set (k * 7 + 4) (.int .i64 m.beat)).set (k * 7 + 5) (.bool m.fenced)).set (k * 7 + 6) (.bool m.closed)) = nodR (zs.set k m) := by
  induction zs generalizing k with
  | nil => simp at hk
  | cons z zs ih =>
    have e : nodR (z :: zs) = nodC z ++ nodR zs := rfl
    have hl : (nodC z).length = 7 := rfl
    cases k with
    | zero =>
      rw [e, List.set_cons_zero]
      show _ = nodC m ++ nodR zs
      rfl
    | succ k =>
      rw [e, List.set_cons_succ]
      show _ = nodC z ++ nodR (zs.set k m)
      rw [List.set_append_right _ _ (by omega), List.set_append_right _ _ (by omega), List.set_append_right _ _ (by omega), List.set_append_right _ _ (by omega), List.set_append_right _ _ (by omega), List.set_append_right _ _ (by omega), List.set_append_right _ _ (by omega), hl,
        show (k + 1) * 7 - 7 = k * 7 by omega, show (k + 1) * 7 + 1 - 7 = k * 7 + 1 by omega, show (k + 1) * 7 + 2 - 7 = k * 7 + 2 by omega, show (k + 1) * 7 + 3 - 7 = k * 7 + 3 by omega, show (k + 1) * 7 + 4 - 7 = k * 7 + 4 by omega, show (k + 1) * 7 + 5 - 7 = k * 7 + 5 by omega, show (k + 1) * 7 + 6 - 7 = k * 7 + 6 by omega, ih k (by simpa using hk)]
theorem gbNOD {w0 w u : World} {r : Option Nat} (h : w0.grownBy w r) (hg : w.grownBy u r) : w0.grownBy u r :=
  ⟨hg.os.trans h.os, hg.tape.trans h.tape, hg.output.trans h.output, Nat.le_trans h.size hg.size, fun k hk hn => (hg.block k (Nat.lt_of_lt_of_le hk h.size) hn).trans (h.block k hk hn)⟩
end Go.Proofs.YtkicaihfknfgkaaDoor
