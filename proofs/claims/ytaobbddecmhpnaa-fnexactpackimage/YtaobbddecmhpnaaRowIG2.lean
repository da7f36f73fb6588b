import Derived.Test.YtaobbddecmhpnaaRowIG1
namespace Go.Proofs.Ytaobbddecmhpnaa
open Go.ChangeShapes Go.WideShapes Go.ChangeAt Go.RowKit

theorem igR_set (zs : List IG) (k : Nat) (m : IG) (hk : k < zs.length) : ((((((igR zs).set (k * 5) (.string m.n)).set (k * 5 + 1) (.string m.b)).set (k * 5 + 2) (m.t)).set (k * 5 + 3) (m.d)).set (k * 5 + 4) (m.s)) = igR (zs.set k m) := by
  induction zs generalizing k with
  | nil => simp at hk
  | cons z zs ih =>
    have e : igR (z :: zs) = igC z ++ igR zs := rfl
    have hl : (igC z).length = 5 := rfl
    cases k with
    | zero =>
      rw [e, List.set_cons_zero]
      show _ = igC m ++ igR zs
      rfl
    | succ k =>
      rw [e, List.set_cons_succ]
      show _ = igC z ++ igR (zs.set k m)
      rw [List.set_append_right _ _ (by omega), List.set_append_right _ _ (by omega), List.set_append_right _ _ (by omega), List.set_append_right _ _ (by omega), List.set_append_right _ _ (by omega), hl,
        show (k + 1) * 5 - 5 = k * 5 by omega, show (k + 1) * 5 + 1 - 5 = k * 5 + 1 by omega, show (k + 1) * 5 + 2 - 5 = k * 5 + 2 by omega, show (k + 1) * 5 + 3 - 5 = k * 5 + 3 by omega, show (k + 1) * 5 + 4 - 5 = k * 5 + 4 by omega, ih k (by simpa using hk)]
theorem gbIG {w0 w u : World} {r : Option Nat} (h : w0.grownBy w r) (hg : w.grownBy u r) : w0.grownBy u r :=
  ⟨hg.os.trans h.os, hg.tape.trans h.tape, hg.output.trans h.output, Nat.le_trans h.size hg.size, fun k hk hn => (hg.block k (Nat.lt_of_lt_of_le hk h.size) hn).trans (h.block k hk hn)⟩
theorem ig_cells {w : World} {B g cap m : Nat} {zs : List IG} (h : w.ownsRow B 31 5 (.slice (some ⟨g, 0, none⟩) m cap) m (igR zs)) (hm : zs.length = m) (k : Nat) (hk : k < zs.length) : ∃ y : IG, w.cell? ⟨g, k * 5, none⟩ = some (.string y.n) ∧ w.cell? ⟨g, k * 5 + 1, none⟩ = some (.string y.b) ∧ w.cell? ⟨g, k * 5 + 2, none⟩ = some (y.t) ∧ w.cell? ⟨g, k * 5 + 3, none⟩ = some (y.d) ∧ w.cell? ⟨g, k * 5 + 4, none⟩ = some (y.s) := by
  subst hm
  rcases IGrow.of h with ⟨e, _⟩ | ⟨g2, o, cap2, hv, _, _, hc⟩
  · rw [e] at hk
    simp at hk
  · injection hv with e1
    injection e1 with e2
    obtain ⟨rfl, rfl⟩ : g = g2 ∧ 0 = o := ⟨congrArg Addr.block e2, congrArg Addr.off e2⟩
    have h3 := hc k hk
    simp only [Nat.zero_add] at h3
    exact ⟨zs[k], h3⟩
/-- An element put. -/
theorem own_setIG {w : World} {B g cap : Nat} {zs : List IG} (h : w.ownsRow B 31 5 (.slice (some ⟨g, 0, none⟩) zs.length cap) zs.length (igR zs)) (k : Nat) (hk : k < zs.length) (m : IG) :
    (((((w.setCell ⟨g, k * 5, none⟩ (.string m.n)).setCell ⟨g, k * 5 + 1, none⟩ (.string m.b)).setCell ⟨g, k * 5 + 2, none⟩ (m.t)).setCell ⟨g, k * 5 + 3, none⟩ (m.d)).setCell ⟨g, k * 5 + 4, none⟩ (m.s)).ownsRow B 31 5 (.slice (some ⟨g, 0, none⟩) zs.length cap) zs.length (igR (zs.set k m)) ∧
    w.grownBy (((((w.setCell ⟨g, k * 5, none⟩ (.string m.n)).setCell ⟨g, k * 5 + 1, none⟩ (.string m.b)).setCell ⟨g, k * 5 + 2, none⟩ (m.t)).setCell ⟨g, k * 5 + 3, none⟩ (m.d)).setCell ⟨g, k * 5 + 4, none⟩ (m.s)) (some g) := by
  have s1 := h.stored (k * 5) (.string m.n)
  have s2 := s1.1.stored (k * 5 + 1) (.string m.b)
  have s3 := s2.1.stored (k * 5 + 2) (m.t)
  have s4 := s3.1.stored (k * 5 + 3) (m.d)
  have s5 := s4.1.stored (k * 5 + 4) (m.s)
  rw [igR_set zs k m hk] at s5
  exact ⟨s5.1, (gbIG (gbIG (gbIG (gbIG s1.2 s2.2) s3.2) s4.2) s5.2)⟩
end Go.Proofs.Ytaobbddecmhpnaa
