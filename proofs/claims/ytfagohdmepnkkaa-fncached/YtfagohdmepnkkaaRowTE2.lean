import Derived.Test.YtfagohdmepnkkaaRowTE1
namespace Go.Proofs.Ytfagohdmepnkkaa
open Go.ChangeShapes Go.WideShapes Go.ChangeAt Go.RowKit

theorem teR_set (zs : List TE) (k : Nat) (m : TE) (hk : k < zs.length) : ((((((teR zs).set (k * 5) (.int .i64 m.asid)).set (k * 5 + 1) (.int .i64 m.page)).set (k * 5 + 2) (.int .i64 m.frame)).set (k * 5 + 3) (.int .i64 m.flags)).set (k * 5 + 4) (.bool m.large)) = teR (zs.set k m) := by
  induction zs generalizing k with
  | nil => simp at hk
  | cons z zs ih =>
    have e : teR (z :: zs) = teC z ++ teR zs := rfl
    have hl : (teC z).length = 5 := rfl
    cases k with
    | zero =>
      rw [e, List.set_cons_zero]
      show _ = teC m ++ teR zs
      rfl
    | succ k =>
      rw [e, List.set_cons_succ]
      show _ = teC z ++ teR (zs.set k m)
      rw [List.set_append_right _ _ (by omega), List.set_append_right _ _ (by omega), List.set_append_right _ _ (by omega), List.set_append_right _ _ (by omega), List.set_append_right _ _ (by omega), hl,
        show (k + 1) * 5 - 5 = k * 5 by omega, show (k + 1) * 5 + 1 - 5 = k * 5 + 1 by omega, show (k + 1) * 5 + 2 - 5 = k * 5 + 2 by omega, show (k + 1) * 5 + 3 - 5 = k * 5 + 3 by omega, show (k + 1) * 5 + 4 - 5 = k * 5 + 4 by omega, ih k (by simpa using hk)]
theorem gbTE {w0 w u : World} {r : Option Nat} (h : w0.grownBy w r) (hg : w.grownBy u r) : w0.grownBy u r :=
  ⟨hg.os.trans h.os, hg.tape.trans h.tape, hg.output.trans h.output, Nat.le_trans h.size hg.size, fun k hk hn => (hg.block k (Nat.lt_of_lt_of_le hk h.size) hn).trans (h.block k hk hn)⟩
theorem te_cells {w : World} {B g cap m : Nat} {zs : List TE} (h : w.ownsRow B 66 5 (.slice (some ⟨g, 0, none⟩) m cap) m (teR zs)) (hm : zs.length = m) (k : Nat) (hk : k < zs.length) : ∃ y : TE, w.cell? ⟨g, k * 5, none⟩ = some (.int .i64 y.asid) ∧ w.cell? ⟨g, k * 5 + 1, none⟩ = some (.int .i64 y.page) ∧ w.cell? ⟨g, k * 5 + 2, none⟩ = some (.int .i64 y.frame) ∧ w.cell? ⟨g, k * 5 + 3, none⟩ = some (.int .i64 y.flags) ∧ w.cell? ⟨g, k * 5 + 4, none⟩ = some (.bool y.large) := by
  subst hm
  rcases TErow.of h with ⟨e, _⟩ | ⟨g2, o, cap2, hv, _, _, hc⟩
  · rw [e] at hk
    simp at hk
  · injection hv with e1
    injection e1 with e2
    obtain ⟨rfl, rfl⟩ : g = g2 ∧ 0 = o := ⟨congrArg Addr.block e2, congrArg Addr.off e2⟩
    have h3 := hc k hk
    simp only [Nat.zero_add] at h3
    exact ⟨zs[k], h3⟩
/-- An element put. -/
theorem own_setTE {w : World} {B g cap : Nat} {zs : List TE} (h : w.ownsRow B 66 5 (.slice (some ⟨g, 0, none⟩) zs.length cap) zs.length (teR zs)) (k : Nat) (hk : k < zs.length) (m : TE) :
    (((((w.setCell ⟨g, k * 5, none⟩ (.int .i64 m.asid)).setCell ⟨g, k * 5 + 1, none⟩ (.int .i64 m.page)).setCell ⟨g, k * 5 + 2, none⟩ (.int .i64 m.frame)).setCell ⟨g, k * 5 + 3, none⟩ (.int .i64 m.flags)).setCell ⟨g, k * 5 + 4, none⟩ (.bool m.large)).ownsRow B 66 5 (.slice (some ⟨g, 0, none⟩) zs.length cap) zs.length (teR (zs.set k m)) ∧
    w.grownBy (((((w.setCell ⟨g, k * 5, none⟩ (.int .i64 m.asid)).setCell ⟨g, k * 5 + 1, none⟩ (.int .i64 m.page)).setCell ⟨g, k * 5 + 2, none⟩ (.int .i64 m.frame)).setCell ⟨g, k * 5 + 3, none⟩ (.int .i64 m.flags)).setCell ⟨g, k * 5 + 4, none⟩ (.bool m.large)) (some g) := by
  have s1 := h.stored (k * 5) (.int .i64 m.asid)
  have s2 := s1.1.stored (k * 5 + 1) (.int .i64 m.page)
  have s3 := s2.1.stored (k * 5 + 2) (.int .i64 m.frame)
  have s4 := s3.1.stored (k * 5 + 3) (.int .i64 m.flags)
  have s5 := s4.1.stored (k * 5 + 4) (.bool m.large)
  rw [teR_set zs k m hk] at s5
  exact ⟨s5.1, (gbTE (gbTE (gbTE (gbTE s1.2 s2.2) s3.2) s4.2) s5.2)⟩
end Go.Proofs.Ytfagohdmepnkkaa
