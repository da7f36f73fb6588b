import Derived.Test.YtcglpigmellfcabRowTK1
namespace Go.Proofs.Ytcglpigmellfcab
open Go.ChangeShapes Go.WideShapes Go.ChangeAt Go.RowKit

theorem tkR_set (zs : List TK) (k : Nat) (m : TK) (hk : k < zs.length) : (((((((tkR zs).set (k * 6) (.int .i64 m.start)).set (k * 6 + 1) (.int .i64 m.period)).set (k * 6 + 2) (.int .i64 m.budget)).set (k * 6 + 3) (.int .i64 m.left)).set (k * 6 + 4) (.int .i64 m.fin)).set (k * 6 + 5) (.int .i64 m.missed)) = tkR (zs.set k m) := by
  induction zs generalizing k with
  | nil => simp at hk
  | cons z zs ih =>
    have e : tkR (z :: zs) = tkC z ++ tkR zs := rfl
    have hl : (tkC z).length = 6 := rfl
    cases k with
    | zero =>
      rw [e, List.set_cons_zero]
      show _ = tkC m ++ tkR zs
      rfl
    | succ k =>
      rw [e, List.set_cons_succ]
      show _ = tkC z ++ tkR (zs.set k m)
      rw [List.set_append_right _ _ (by omega), List.set_append_right _ _ (by omega), List.set_append_right _ _ (by omega), List.set_append_right _ _ (by omega), List.set_append_right _ _ (by omega), List.set_append_right _ _ (by omega), hl,
        show (k + 1) * 6 - 6 = k * 6 by omega, show (k + 1) * 6 + 1 - 6 = k * 6 + 1 by omega, show (k + 1) * 6 + 2 - 6 = k * 6 + 2 by omega, show (k + 1) * 6 + 3 - 6 = k * 6 + 3 by omega, show (k + 1) * 6 + 4 - 6 = k * 6 + 4 by omega, show (k + 1) * 6 + 5 - 6 = k * 6 + 5 by omega, ih k (by simpa using hk)]
theorem gbTK {w0 w u : World} {r : Option Nat} (h : w0.grownBy w r) (hg : w.grownBy u r) : w0.grownBy u r :=
  ⟨hg.os.trans h.os, hg.tape.trans h.tape, hg.output.trans h.output, Nat.le_trans h.size hg.size, fun k hk hn => (hg.block k (Nat.lt_of_lt_of_le hk h.size) hn).trans (h.block k hk hn)⟩
theorem tk_cells {w : World} {B g cap m : Nat} {zs : List TK} (h : w.ownsRow B 110 6 (.slice (some ⟨g, 0, none⟩) m cap) m (tkR zs)) (hm : zs.length = m) (k : Nat) (hk : k < zs.length) : ∃ y : TK, w.cell? ⟨g, k * 6, none⟩ = some (.int .i64 y.start) ∧ w.cell? ⟨g, k * 6 + 1, none⟩ = some (.int .i64 y.period) ∧ w.cell? ⟨g, k * 6 + 2, none⟩ = some (.int .i64 y.budget) ∧ w.cell? ⟨g, k * 6 + 3, none⟩ = some (.int .i64 y.left) ∧ w.cell? ⟨g, k * 6 + 4, none⟩ = some (.int .i64 y.fin) ∧ w.cell? ⟨g, k * 6 + 5, none⟩ = some (.int .i64 y.missed) := by
  subst hm
  rcases TKrow.of h with ⟨e, _⟩ | ⟨g2, o, cap2, hv, _, _, hc⟩
  · rw [e] at hk
    simp at hk
  · injection hv with e1
    injection e1 with e2
    obtain ⟨rfl, rfl⟩ : g = g2 ∧ 0 = o := ⟨congrArg Addr.block e2, congrArg Addr.off e2⟩
    have h3 := hc k hk
    simp only [Nat.zero_add] at h3
    exact ⟨zs[k], h3⟩
/-- An element put. -/
theorem own_setTK {w : World} {B g cap : Nat} {zs : List TK} (h : w.ownsRow B 110 6 (.slice (some ⟨g, 0, none⟩) zs.length cap) zs.length (tkR zs)) (k : Nat) (hk : k < zs.length) (m : TK) :
    ((((((w.setCell ⟨g, k * 6, none⟩ (.int .i64 m.start)).setCell ⟨g, k * 6 + 1, none⟩ (.int .i64 m.period)).setCell ⟨g, k * 6 + 2, none⟩ (.int .i64 m.budget)).setCell ⟨g, k * 6 + 3, none⟩ (.int .i64 m.left)).setCell ⟨g, k * 6 + 4, none⟩ (.int .i64 m.fin)).setCell ⟨g, k * 6 + 5, none⟩ (.int .i64 m.missed)).ownsRow B 110 6 (.slice (some ⟨g, 0, none⟩) zs.length cap) zs.length (tkR (zs.set k m)) ∧
    w.grownBy ((((((w.setCell ⟨g, k * 6, none⟩ (.int .i64 m.start)).setCell ⟨g, k * 6 + 1, none⟩ (.int .i64 m.period)).setCell ⟨g, k * 6 + 2, none⟩ (.int .i64 m.budget)).setCell ⟨g, k * 6 + 3, none⟩ (.int .i64 m.left)).setCell ⟨g, k * 6 + 4, none⟩ (.int .i64 m.fin)).setCell ⟨g, k * 6 + 5, none⟩ (.int .i64 m.missed)) (some g) := by
  have s1 := h.stored (k * 6) (.int .i64 m.start)
  have s2 := s1.1.stored (k * 6 + 1) (.int .i64 m.period)
  have s3 := s2.1.stored (k * 6 + 2) (.int .i64 m.budget)
  have s4 := s3.1.stored (k * 6 + 3) (.int .i64 m.left)
  have s5 := s4.1.stored (k * 6 + 4) (.int .i64 m.fin)
  have s6 := s5.1.stored (k * 6 + 5) (.int .i64 m.missed)
  rw [tkR_set zs k m hk] at s6
  exact ⟨s6.1, (gbTK (gbTK (gbTK (gbTK (gbTK s1.2 s2.2) s3.2) s4.2) s5.2) s6.2)⟩
end Go.Proofs.Ytcglpigmellfcab
