import Derived.Test.YtpggbbdfbnocfaaRowNG1
namespace Go.Proofs.Ytpggbbdfbnocfaa
open Go.ChangeShapes Go.WideShapes Go.ChangeAt Go.RowKit

theorem ngR_set (zs : List NG) (k : Nat) (m : NG) (hk : k < zs.length) : ((ngR zs).set (k) (m.rules)) = ngR (zs.set k m) := by
  induction zs generalizing k with
  | nil => simp at hk
  | cons z zs ih =>
    have e : ngR (z :: zs) = ngC z ++ ngR zs := rfl
    have hl : (ngC z).length = 1 := rfl
    cases k with
    | zero =>
      rw [e, List.set_cons_zero]
      show _ = ngC m ++ ngR zs
      rfl
    | succ k =>
      rw [e, List.set_cons_succ]
      show _ = ngC z ++ ngR (zs.set k m)
      rw [List.set_append_right _ _ (by omega), hl,
        show k + 1 - 1 = k by omega, ih k (by simpa using hk)]
theorem gbNG {w0 w u : World} {r : Option Nat} (h : w0.grownBy w r) (hg : w.grownBy u r) : w0.grownBy u r :=
  ⟨hg.os.trans h.os, hg.tape.trans h.tape, hg.output.trans h.output, Nat.le_trans h.size hg.size, fun k hk hn => (hg.block k (Nat.lt_of_lt_of_le hk h.size) hn).trans (h.block k hk hn)⟩
theorem ng_cells {w : World} {B g cap m : Nat} {zs : List NG} (h : w.ownsRow B 90 1 (.slice (some ⟨g, 0, none⟩) m cap) m (ngR zs)) (hm : zs.length = m) (k : Nat) (hk : k < zs.length) : ∃ y : NG, w.cell? ⟨g, k, none⟩ = some (y.rules) := by
  subst hm
  rcases NGrow.of h with ⟨e, _⟩ | ⟨g2, o, cap2, hv, _, _, hc⟩
  · rw [e] at hk
    simp at hk
  · injection hv with e1
    injection e1 with e2
    obtain ⟨rfl, rfl⟩ : g = g2 ∧ 0 = o := ⟨congrArg Addr.block e2, congrArg Addr.off e2⟩
    have h3 := hc k hk
    simp only [Nat.zero_add] at h3
    exact ⟨zs[k], h3⟩
/-- An element put. -/
theorem own_setNG {w : World} {B g cap : Nat} {zs : List NG} (h : w.ownsRow B 90 1 (.slice (some ⟨g, 0, none⟩) zs.length cap) zs.length (ngR zs)) (k : Nat) (hk : k < zs.length) (m : NG) :
    (w.setCell ⟨g, k, none⟩ (m.rules)).ownsRow B 90 1 (.slice (some ⟨g, 0, none⟩) zs.length cap) zs.length (ngR (zs.set k m)) ∧
    w.grownBy (w.setCell ⟨g, k, none⟩ (m.rules)) (some g) := by
  have s1 := h.stored (k) (m.rules)
  rw [ngR_set zs k m hk] at s1
  exact ⟨s1.1, s1.2⟩
end Go.Proofs.Ytpggbbdfbnocfaa
