import Derived.Test.YtfagohdmepnkkaaRowPM1
namespace Go.Proofs.Ytfagohdmepnkkaa
open Go.ChangeShapes Go.WideShapes Go.ChangeAt Go.RowKit

theorem pmR_set (zs : List PM) (k : Nat) (m : PM) (hk : k < zs.length) : (((((pmR zs).set (k * 4) (.int .i64 m.va)).set (k * 4 + 1) (.int .i64 m.frame)).set (k * 4 + 2) (.int .i64 m.flags)).set (k * 4 + 3) (.bool m.large)) = pmR (zs.set k m) := by
  induction zs generalizing k with
  | nil => simp at hk
  | cons z zs ih =>
    have e : pmR (z :: zs) = pmC z ++ pmR zs := rfl
    have hl : (pmC z).length = 4 := rfl
    cases k with
    | zero =>
      rw [e, List.set_cons_zero]
      show _ = pmC m ++ pmR zs
      rfl
    | succ k =>
      rw [e, List.set_cons_succ]
      show _ = pmC z ++ pmR (zs.set k m)
      rw [List.set_append_right _ _ (by omega), List.set_append_right _ _ (by omega), List.set_append_right _ _ (by omega), List.set_append_right _ _ (by omega), hl,
        show (k + 1) * 4 - 4 = k * 4 by omega, show (k + 1) * 4 + 1 - 4 = k * 4 + 1 by omega, show (k + 1) * 4 + 2 - 4 = k * 4 + 2 by omega, show (k + 1) * 4 + 3 - 4 = k * 4 + 3 by omega, ih k (by simpa using hk)]
theorem gbPM {w0 w u : World} {r : Option Nat} (h : w0.grownBy w r) (hg : w.grownBy u r) : w0.grownBy u r :=
  ⟨hg.os.trans h.os, hg.tape.trans h.tape, hg.output.trans h.output, Nat.le_trans h.size hg.size, fun k hk hn => (hg.block k (Nat.lt_of_lt_of_le hk h.size) hn).trans (h.block k hk hn)⟩
theorem pm_cells {w : World} {B g cap m : Nat} {zs : List PM} (h : w.ownsRow B 101 4 (.slice (some ⟨g, 0, none⟩) m cap) m (pmR zs)) (hm : zs.length = m) (k : Nat) (hk : k < zs.length) : ∃ y : PM, w.cell? ⟨g, k * 4, none⟩ = some (.int .i64 y.va) ∧ w.cell? ⟨g, k * 4 + 1, none⟩ = some (.int .i64 y.frame) ∧ w.cell? ⟨g, k * 4 + 2, none⟩ = some (.int .i64 y.flags) ∧ w.cell? ⟨g, k * 4 + 3, none⟩ = some (.bool y.large) := by
  subst hm
  rcases PMrow.of h with ⟨e, _⟩ | ⟨g2, o, cap2, hv, _, _, hc⟩
  · rw [e] at hk
    simp at hk
  · injection hv with e1
    injection e1 with e2
    obtain ⟨rfl, rfl⟩ : g = g2 ∧ 0 = o := ⟨congrArg Addr.block e2, congrArg Addr.off e2⟩
    have h3 := hc k hk
    simp only [Nat.zero_add] at h3
    exact ⟨zs[k], h3⟩
/-- An element put. -/
theorem own_setPM {w : World} {B g cap : Nat} {zs : List PM} (h : w.ownsRow B 101 4 (.slice (some ⟨g, 0, none⟩) zs.length cap) zs.length (pmR zs)) (k : Nat) (hk : k < zs.length) (m : PM) :
    ((((w.setCell ⟨g, k * 4, none⟩ (.int .i64 m.va)).setCell ⟨g, k * 4 + 1, none⟩ (.int .i64 m.frame)).setCell ⟨g, k * 4 + 2, none⟩ (.int .i64 m.flags)).setCell ⟨g, k * 4 + 3, none⟩ (.bool m.large)).ownsRow B 101 4 (.slice (some ⟨g, 0, none⟩) zs.length cap) zs.length (pmR (zs.set k m)) ∧
    w.grownBy ((((w.setCell ⟨g, k * 4, none⟩ (.int .i64 m.va)).setCell ⟨g, k * 4 + 1, none⟩ (.int .i64 m.frame)).setCell ⟨g, k * 4 + 2, none⟩ (.int .i64 m.flags)).setCell ⟨g, k * 4 + 3, none⟩ (.bool m.large)) (some g) := by
  have s1 := h.stored (k * 4) (.int .i64 m.va)
  have s2 := s1.1.stored (k * 4 + 1) (.int .i64 m.frame)
  have s3 := s2.1.stored (k * 4 + 2) (.int .i64 m.flags)
  have s4 := s3.1.stored (k * 4 + 3) (.bool m.large)
  rw [pmR_set zs k m hk] at s4
  exact ⟨s4.1, (gbPM (gbPM (gbPM s1.2 s2.2) s3.2) s4.2)⟩
end Go.Proofs.Ytfagohdmepnkkaa
