import Derived.Test.YtefeahilamiiaaaRowLN1
namespace Go.Proofs.Ytefeahilamiiaaa
open Go.ChangeShapes Go.WideShapes Go.ChangeAt Go.RowKit

theorem lnR_set (zs : List LN) (k : Nat) (m : LN) (hk : k < zs.length) : ((((((lnR zs).set (k * 5) (.int .i64 m.cpu)).set (k * 5 + 1) (.int .i64 m.vec)).set (k * 5 + 2) (.bool m.lev)).set (k * 5 + 3) (.bool m.msk)).set (k * 5 + 4) (.bool m.hi)) = lnR (zs.set k m) := by
  induction zs generalizing k with
  | nil => simp at hk
  | cons z zs ih =>
    have e : lnR (z :: zs) = lnC z ++ lnR zs := rfl
    have hl : (lnC z).length = 5 := rfl
    cases k with
    | zero =>
      rw [e, List.set_cons_zero]
      show _ = lnC m ++ lnR zs
      rfl
    | succ k =>
      rw [e, List.set_cons_succ]
      show _ = lnC z ++ lnR (zs.set k m)
      rw [List.set_append_right _ _ (by omega), List.set_append_right _ _ (by omega), List.set_append_right _ _ (by omega), List.set_append_right _ _ (by omega), List.set_append_right _ _ (by omega), hl,
        show (k + 1) * 5 - 5 = k * 5 by omega, show (k + 1) * 5 + 1 - 5 = k * 5 + 1 by omega, show (k + 1) * 5 + 2 - 5 = k * 5 + 2 by omega, show (k + 1) * 5 + 3 - 5 = k * 5 + 3 by omega, show (k + 1) * 5 + 4 - 5 = k * 5 + 4 by omega, ih k (by simpa using hk)]
theorem gbLN {w0 w u : World} {r : Option Nat} (h : w0.grownBy w r) (hg : w.grownBy u r) : w0.grownBy u r :=
  ⟨hg.os.trans h.os, hg.tape.trans h.tape, hg.output.trans h.output, Nat.le_trans h.size hg.size, fun k hk hn => (hg.block k (Nat.lt_of_lt_of_le hk h.size) hn).trans (h.block k hk hn)⟩
theorem ln_cells {w : World} {B g cap m : Nat} {zs : List LN} (h : w.ownsRow B 54 5 (.slice (some ⟨g, 0, none⟩) m cap) m (lnR zs)) (hm : zs.length = m) (k : Nat) (hk : k < zs.length) : ∃ y : LN, w.cell? ⟨g, k * 5, none⟩ = some (.int .i64 y.cpu) ∧ w.cell? ⟨g, k * 5 + 1, none⟩ = some (.int .i64 y.vec) ∧ w.cell? ⟨g, k * 5 + 2, none⟩ = some (.bool y.lev) ∧ w.cell? ⟨g, k * 5 + 3, none⟩ = some (.bool y.msk) ∧ w.cell? ⟨g, k * 5 + 4, none⟩ = some (.bool y.hi) := by
  subst hm
  rcases LNrow.of h with ⟨e, _⟩ | ⟨g2, o, cap2, hv, _, _, hc⟩
  · rw [e] at hk
    simp at hk
  · injection hv with e1
    injection e1 with e2
    obtain ⟨rfl, rfl⟩ : g = g2 ∧ 0 = o := ⟨congrArg Addr.block e2, congrArg Addr.off e2⟩
    have h3 := hc k hk
    simp only [Nat.zero_add] at h3
    exact ⟨zs[k], h3⟩
/-- An element put. -/
theorem own_setLN {w : World} {B g cap : Nat} {zs : List LN} (h : w.ownsRow B 54 5 (.slice (some ⟨g, 0, none⟩) zs.length cap) zs.length (lnR zs)) (k : Nat) (hk : k < zs.length) (m : LN) :
    (((((w.setCell ⟨g, k * 5, none⟩ (.int .i64 m.cpu)).setCell ⟨g, k * 5 + 1, none⟩ (.int .i64 m.vec)).setCell ⟨g, k * 5 + 2, none⟩ (.bool m.lev)).setCell ⟨g, k * 5 + 3, none⟩ (.bool m.msk)).setCell ⟨g, k * 5 + 4, none⟩ (.bool m.hi)).ownsRow B 54 5 (.slice (some ⟨g, 0, none⟩) zs.length cap) zs.length (lnR (zs.set k m)) ∧
    w.grownBy (((((w.setCell ⟨g, k * 5, none⟩ (.int .i64 m.cpu)).setCell ⟨g, k * 5 + 1, none⟩ (.int .i64 m.vec)).setCell ⟨g, k * 5 + 2, none⟩ (.bool m.lev)).setCell ⟨g, k * 5 + 3, none⟩ (.bool m.msk)).setCell ⟨g, k * 5 + 4, none⟩ (.bool m.hi)) (some g) := by
  have s1 := h.stored (k * 5) (.int .i64 m.cpu)
  have s2 := s1.1.stored (k * 5 + 1) (.int .i64 m.vec)
  have s3 := s2.1.stored (k * 5 + 2) (.bool m.lev)
  have s4 := s3.1.stored (k * 5 + 3) (.bool m.msk)
  have s5 := s4.1.stored (k * 5 + 4) (.bool m.hi)
  rw [lnR_set zs k m hk] at s5
  exact ⟨s5.1, (gbLN (gbLN (gbLN (gbLN s1.2 s2.2) s3.2) s4.2) s5.2)⟩
end Go.Proofs.Ytefeahilamiiaaa
