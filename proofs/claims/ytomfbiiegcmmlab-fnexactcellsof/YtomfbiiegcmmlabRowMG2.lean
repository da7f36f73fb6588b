import Derived.Test.YtomfbiiegcmmlabRowMG1
namespace Go.Proofs.Ytomfbiiegcmmlab
open Go.ChangeShapes Go.WideShapes Go.ChangeAt Go.RowKit

theorem mgR_set (zs : List MG) (k : Nat) (m : MG) (hk : k < zs.length) : ((((mgR zs).set (k * 3) (m.s)).set (k * 3 + 1) (.string m.d)).set (k * 3 + 2) (m.h)) = mgR (zs.set k m) := by
  induction zs generalizing k with
  | nil => simp at hk
  | cons z zs ih =>
    have e : mgR (z :: zs) = mgC z ++ mgR zs := rfl
    have hl : (mgC z).length = 3 := rfl
    cases k with
    | zero =>
      rw [e, List.set_cons_zero]
      show _ = mgC m ++ mgR zs
      rfl
    | succ k =>
      rw [e, List.set_cons_succ]
      show _ = mgC z ++ mgR (zs.set k m)
      rw [List.set_append_right _ _ (by omega), List.set_append_right _ _ (by omega), List.set_append_right _ _ (by omega), hl,
        show (k + 1) * 3 - 3 = k * 3 by omega, show (k + 1) * 3 + 1 - 3 = k * 3 + 1 by omega, show (k + 1) * 3 + 2 - 3 = k * 3 + 2 by omega, ih k (by simpa using hk)]
theorem gbMG {w0 w u : World} {r : Option Nat} (h : w0.grownBy w r) (hg : w.grownBy u r) : w0.grownBy u r :=
  ⟨hg.os.trans h.os, hg.tape.trans h.tape, hg.output.trans h.output, Nat.le_trans h.size hg.size, fun k hk hn => (hg.block k (Nat.lt_of_lt_of_le hk h.size) hn).trans (h.block k hk hn)⟩
theorem mg_cells {w : World} {B g cap m : Nat} {zs : List MG} (h : w.ownsRow B 67 3 (.slice (some ⟨g, 0, none⟩) m cap) m (mgR zs)) (hm : zs.length = m) (k : Nat) (hk : k < zs.length) : ∃ y : MG, w.cell? ⟨g, k * 3, none⟩ = some (y.s) ∧ w.cell? ⟨g, k * 3 + 1, none⟩ = some (.string y.d) ∧ w.cell? ⟨g, k * 3 + 2, none⟩ = some (y.h) := by
  subst hm
  rcases MGrow.of h with ⟨e, _⟩ | ⟨g2, o, cap2, hv, _, _, hc⟩
  · rw [e] at hk
    simp at hk
  · injection hv with e1
    injection e1 with e2
    obtain ⟨rfl, rfl⟩ : g = g2 ∧ 0 = o := ⟨congrArg Addr.block e2, congrArg Addr.off e2⟩
    have h3 := hc k hk
    simp only [Nat.zero_add] at h3
    exact ⟨zs[k], h3⟩
/-- An element put. -/
theorem own_setMG {w : World} {B g cap : Nat} {zs : List MG} (h : w.ownsRow B 67 3 (.slice (some ⟨g, 0, none⟩) zs.length cap) zs.length (mgR zs)) (k : Nat) (hk : k < zs.length) (m : MG) :
    (((w.setCell ⟨g, k * 3, none⟩ (m.s)).setCell ⟨g, k * 3 + 1, none⟩ (.string m.d)).setCell ⟨g, k * 3 + 2, none⟩ (m.h)).ownsRow B 67 3 (.slice (some ⟨g, 0, none⟩) zs.length cap) zs.length (mgR (zs.set k m)) ∧
    w.grownBy (((w.setCell ⟨g, k * 3, none⟩ (m.s)).setCell ⟨g, k * 3 + 1, none⟩ (.string m.d)).setCell ⟨g, k * 3 + 2, none⟩ (m.h)) (some g) := by
  have s1 := h.stored (k * 3) (m.s)
  have s2 := s1.1.stored (k * 3 + 1) (.string m.d)
  have s3 := s2.1.stored (k * 3 + 2) (m.h)
  rw [mgR_set zs k m hk] at s3
  exact ⟨s3.1, (gbMG (gbMG s1.2 s2.2) s3.2)⟩
end Go.Proofs.Ytomfbiiegcmmlab
