import Derived.Test.YthncnffnjjclfabRowSG1
namespace Go.Proofs.Ythncnffnjjclfab
open Go.ChangeShapes Go.WideShapes Go.ChangeAt Go.RowKit

theorem sgR_set (zs : List SG) (k : Nat) (m : SG) (hk : k < zs.length) : (((sgR zs).set (k * 2) (.int .i64 m.reg)).set (k * 2 + 1) (.string m.text)) = sgR (zs.set k m) := by
  induction zs generalizing k with
  | nil => simp at hk
  | cons z zs ih =>
    have e : sgR (z :: zs) = sgC z ++ sgR zs := rfl
    have hl : (sgC z).length = 2 := rfl
    cases k with
    | zero =>
      rw [e, List.set_cons_zero]
      show _ = sgC m ++ sgR zs
      rfl
    | succ k =>
      rw [e, List.set_cons_succ]
      show _ = sgC z ++ sgR (zs.set k m)
      rw [List.set_append_right _ _ (by omega), List.set_append_right _ _ (by omega), hl,
        show (k + 1) * 2 - 2 = k * 2 by omega, show (k + 1) * 2 + 1 - 2 = k * 2 + 1 by omega, ih k (by simpa using hk)]
theorem gbSG {w0 w u : World} {r : Option Nat} (h : w0.grownBy w r) (hg : w.grownBy u r) : w0.grownBy u r :=
  ⟨hg.os.trans h.os, hg.tape.trans h.tape, hg.output.trans h.output, Nat.le_trans h.size hg.size, fun k hk hn => (hg.block k (Nat.lt_of_lt_of_le hk h.size) hn).trans (h.block k hk hn)⟩
theorem sg_cells {w : World} {B g cap m : Nat} {zs : List SG} (h : w.ownsRow B 86 2 (.slice (some ⟨g, 0, none⟩) m cap) m (sgR zs)) (hm : zs.length = m) (k : Nat) (hk : k < zs.length) : ∃ y : SG, w.cell? ⟨g, k * 2, none⟩ = some (.int .i64 y.reg) ∧ w.cell? ⟨g, k * 2 + 1, none⟩ = some (.string y.text) := by
  subst hm
  rcases SGrow.of h with ⟨e, _⟩ | ⟨g2, o, cap2, hv, _, _, hc⟩
  · rw [e] at hk
    simp at hk
  · injection hv with e1
    injection e1 with e2
    obtain ⟨rfl, rfl⟩ : g = g2 ∧ 0 = o := ⟨congrArg Addr.block e2, congrArg Addr.off e2⟩
    have h3 := hc k hk
    simp only [Nat.zero_add] at h3
    exact ⟨zs[k], h3⟩
/-- An element put. -/
theorem own_setSG {w : World} {B g cap : Nat} {zs : List SG} (h : w.ownsRow B 86 2 (.slice (some ⟨g, 0, none⟩) zs.length cap) zs.length (sgR zs)) (k : Nat) (hk : k < zs.length) (m : SG) :
    ((w.setCell ⟨g, k * 2, none⟩ (.int .i64 m.reg)).setCell ⟨g, k * 2 + 1, none⟩ (.string m.text)).ownsRow B 86 2 (.slice (some ⟨g, 0, none⟩) zs.length cap) zs.length (sgR (zs.set k m)) ∧
    w.grownBy ((w.setCell ⟨g, k * 2, none⟩ (.int .i64 m.reg)).setCell ⟨g, k * 2 + 1, none⟩ (.string m.text)) (some g) := by
  have s1 := h.stored (k * 2) (.int .i64 m.reg)
  have s2 := s1.1.stored (k * 2 + 1) (.string m.text)
  rw [sgR_set zs k m hk] at s2
  exact ⟨s2.1, (gbSG s1.2 s2.2)⟩
end Go.Proofs.Ythncnffnjjclfab
