import Derived.Test.YtappocopgckhkaaRowFT1
namespace Go.Proofs.Ytappocopgckhkaa
open Go.ChangeShapes Go.WideShapes Go.ChangeAt Go.RowKit

theorem ftR_set (zs : List FT) (k : Nat) (m : FT) (hk : k < zs.length) : ((((ftR zs).set (k * 3) (.string m.name)).set (k * 3 + 1) (.int .i64 m.rev)).set (k * 3 + 2) (.string m.body)) = ftR (zs.set k m) := by
  induction zs generalizing k with
  | nil => simp at hk
  | cons z zs ih =>
    have e : ftR (z :: zs) = ftC z ++ ftR zs := rfl
    have hl : (ftC z).length = 3 := rfl
    cases k with
    | zero =>
      rw [e, List.set_cons_zero]
      show _ = ftC m ++ ftR zs
      rfl
    | succ k =>
      rw [e, List.set_cons_succ]
      show _ = ftC z ++ ftR (zs.set k m)
      rw [List.set_append_right _ _ (by omega), List.set_append_right _ _ (by omega), List.set_append_right _ _ (by omega), hl,
        show (k + 1) * 3 - 3 = k * 3 by omega, show (k + 1) * 3 + 1 - 3 = k * 3 + 1 by omega, show (k + 1) * 3 + 2 - 3 = k * 3 + 2 by omega, ih k (by simpa using hk)]
theorem gbFT {w0 w u : World} {r : Option Nat} (h : w0.grownBy w r) (hg : w.grownBy u r) : w0.grownBy u r :=
  ⟨hg.os.trans h.os, hg.tape.trans h.tape, hg.output.trans h.output, Nat.le_trans h.size hg.size, fun k hk hn => (hg.block k (Nat.lt_of_lt_of_le hk h.size) hn).trans (h.block k hk hn)⟩
theorem ft_cells {w : World} {B g cap m : Nat} {zs : List FT} (h : w.ownsRow B 55 3 (.slice (some ⟨g, 0, none⟩) m cap) m (ftR zs)) (hm : zs.length = m) (k : Nat) (hk : k < zs.length) : ∃ y : FT, w.cell? ⟨g, k * 3, none⟩ = some (.string y.name) ∧ w.cell? ⟨g, k * 3 + 1, none⟩ = some (.int .i64 y.rev) ∧ w.cell? ⟨g, k * 3 + 2, none⟩ = some (.string y.body) := by
  subst hm
  rcases FTrow.of h with ⟨e, _⟩ | ⟨g2, o, cap2, hv, _, _, hc⟩
  · rw [e] at hk
    simp at hk
  · injection hv with e1
    injection e1 with e2
    obtain ⟨rfl, rfl⟩ : g = g2 ∧ 0 = o := ⟨congrArg Addr.block e2, congrArg Addr.off e2⟩
    have h3 := hc k hk
    simp only [Nat.zero_add] at h3
    exact ⟨zs[k], h3⟩
/-- An element put. -/
theorem own_setFT {w : World} {B g cap : Nat} {zs : List FT} (h : w.ownsRow B 55 3 (.slice (some ⟨g, 0, none⟩) zs.length cap) zs.length (ftR zs)) (k : Nat) (hk : k < zs.length) (m : FT) :
    (((w.setCell ⟨g, k * 3, none⟩ (.string m.name)).setCell ⟨g, k * 3 + 1, none⟩ (.int .i64 m.rev)).setCell ⟨g, k * 3 + 2, none⟩ (.string m.body)).ownsRow B 55 3 (.slice (some ⟨g, 0, none⟩) zs.length cap) zs.length (ftR (zs.set k m)) ∧
    w.grownBy (((w.setCell ⟨g, k * 3, none⟩ (.string m.name)).setCell ⟨g, k * 3 + 1, none⟩ (.int .i64 m.rev)).setCell ⟨g, k * 3 + 2, none⟩ (.string m.body)) (some g) := by
  have s1 := h.stored (k * 3) (.string m.name)
  have s2 := s1.1.stored (k * 3 + 1) (.int .i64 m.rev)
  have s3 := s2.1.stored (k * 3 + 2) (.string m.body)
  rw [ftR_set zs k m hk] at s3
  exact ⟨s3.1, (gbFT (gbFT s1.2 s2.2) s3.2)⟩
end Go.Proofs.Ytappocopgckhkaa
