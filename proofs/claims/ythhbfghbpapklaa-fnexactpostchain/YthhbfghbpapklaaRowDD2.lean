import Derived.Test.YthhbfghbpapklaaRowDD1
namespace Go.Proofs.Ythhbfghbpapklaa
open Go.ChangeShapes Go.WideShapes Go.ChangeAt Go.RowKit

theorem ddR_set (zs : List DD) (k : Nat) (m : DD) (hk : k < zs.length) : (((((((((ddR zs).set (k * 8) (.int .i64 m.pos)).set (k * 8 + 1) (.int .i64 m.len)).set (k * 8 + 2) (.bool m.write)).set (k * 8 + 3) (.bool m.next)).set (k * 8 + 4) (.bool m.ind)).set (k * 8 + 5) (.bool m.avl)).set (k * 8 + 6) (.bool m.usd)).set (k * 8 + 7) (.int .i64 m.num)) = ddR (zs.set k m) := by
  induction zs generalizing k with
  | nil => simp at hk
  | cons z zs ih =>
    have e : ddR (z :: zs) = ddC z ++ ddR zs := rfl
    have hl : (ddC z).length = 8 := rfl
    cases k with
    | zero =>
      rw [e, List.set_cons_zero]
      show _ = ddC m ++ ddR zs
      rfl
    | succ k =>
      rw [e, List.set_cons_succ]
      show _ = ddC z ++ ddR (zs.set k m)
      rw [List.set_append_right _ _ (by omega), List.set_append_right _ _ (by omega), List.set_append_right _ _ (by omega), List.set_append_right _ _ (by omega), List.set_append_right _ _ (by omega), List.set_append_right _ _ (by omega), List.set_append_right _ _ (by omega), List.set_append_right _ _ (by omega), hl,
        show (k + 1) * 8 - 8 = k * 8 by omega, show (k + 1) * 8 + 1 - 8 = k * 8 + 1 by omega, show (k + 1) * 8 + 2 - 8 = k * 8 + 2 by omega, show (k + 1) * 8 + 3 - 8 = k * 8 + 3 by omega, show (k + 1) * 8 + 4 - 8 = k * 8 + 4 by omega, show (k + 1) * 8 + 5 - 8 = k * 8 + 5 by omega, show (k + 1) * 8 + 6 - 8 = k * 8 + 6 by omega, show (k + 1) * 8 + 7 - 8 = k * 8 + 7 by omega, ih k (by simpa using hk)]
theorem gbDD {w0 w u : World} {r : Option Nat} (h : w0.grownBy w r) (hg : w.grownBy u r) : w0.grownBy u r :=
  ⟨hg.os.trans h.os, hg.tape.trans h.tape, hg.output.trans h.output, Nat.le_trans h.size hg.size, fun k hk hn => (hg.block k (Nat.lt_of_lt_of_le hk h.size) hn).trans (h.block k hk hn)⟩
theorem dd_cells {w : World} {B g cap m : Nat} {zs : List DD} (h : w.ownsRow B 99 8 (.slice (some ⟨g, 0, none⟩) m cap) m (ddR zs)) (hm : zs.length = m) (k : Nat) (hk : k < zs.length) : ∃ y : DD, w.cell? ⟨g, k * 8, none⟩ = some (.int .i64 y.pos) ∧ w.cell? ⟨g, k * 8 + 1, none⟩ = some (.int .i64 y.len) ∧ w.cell? ⟨g, k * 8 + 2, none⟩ = some (.bool y.write) ∧ w.cell? ⟨g, k * 8 + 3, none⟩ = some (.bool y.next) ∧ w.cell? ⟨g, k * 8 + 4, none⟩ = some (.bool y.ind) ∧ w.cell? ⟨g, k * 8 + 5, none⟩ = some (.bool y.avl) ∧ w.cell? ⟨g, k * 8 + 6, none⟩ = some (.bool y.usd) ∧ w.cell? ⟨g, k * 8 + 7, none⟩ = some (.int .i64 y.num) := by
  subst hm
  rcases DDrow.of h with ⟨e, _⟩ | ⟨g2, o, cap2, hv, _, _, hc⟩
  · rw [e] at hk
    simp at hk
  · injection hv with e1
    injection e1 with e2
    obtain ⟨rfl, rfl⟩ : g = g2 ∧ 0 = o := ⟨congrArg Addr.block e2, congrArg Addr.off e2⟩
    have h3 := hc k hk
    simp only [Nat.zero_add] at h3
    exact ⟨zs[k], h3⟩
/-- An element put. -/
theorem own_setDD {w : World} {B g cap : Nat} {zs : List DD} (h : w.ownsRow B 99 8 (.slice (some ⟨g, 0, none⟩) zs.length cap) zs.length (ddR zs)) (k : Nat) (hk : k < zs.length) (m : DD) :
    ((((((((w.setCell ⟨g, k * 8, none⟩ (.int .i64 m.pos)).setCell ⟨g, k * 8 + 1, none⟩ (.int .i64 m.len)).setCell ⟨g, k * 8 + 2, none⟩ (.bool m.write)).setCell ⟨g, k * 8 + 3, none⟩ (.bool m.next)).setCell ⟨g, k * 8 + 4, none⟩ (.bool m.ind)).setCell ⟨g, k * 8 + 5, none⟩ (.bool m.avl)).setCell ⟨g, k * 8 + 6, none⟩ (.bool m.usd)).setCell ⟨g, k * 8 + 7, none⟩ (.int .i64 m.num)).ownsRow B 99 8 (.slice (some ⟨g, 0, none⟩) zs.length cap) zs.length (ddR (zs.set k m)) ∧
    w.grownBy ((((((((w.setCell ⟨g, k * 8, none⟩ (.int .i64 m.pos)).setCell ⟨g, k * 8 + 1, none⟩ (.int .i64 m.len)).setCell ⟨g, k * 8 + 2, none⟩ (.bool m.write)).setCell ⟨g, k * 8 + 3, none⟩ (.bool m.next)).setCell ⟨g, k * 8 + 4, none⟩ (.bool m.ind)).setCell ⟨g, k * 8 + 5, none⟩ (.bool m.avl)).setCell ⟨g, k * 8 + 6, none⟩ (.bool m.usd)).setCell ⟨g, k * 8 + 7, none⟩ (.int .i64 m.num)) (some g) := by
  have s1 := h.stored (k * 8) (.int .i64 m.pos)
  have s2 := s1.1.stored (k * 8 + 1) (.int .i64 m.len)
  have s3 := s2.1.stored (k * 8 + 2) (.bool m.write)
  have s4 := s3.1.stored (k * 8 + 3) (.bool m.next)
  have s5 := s4.1.stored (k * 8 + 4) (.bool m.ind)
  have s6 := s5.1.stored (k * 8 + 5) (.bool m.avl)
  have s7 := s6.1.stored (k * 8 + 6) (.bool m.usd)
  have s8 := s7.1.stored (k * 8 + 7) (.int .i64 m.num)
  rw [ddR_set zs k m hk] at s8
  exact ⟨s8.1, (gbDD (gbDD (gbDD (gbDD (gbDD (gbDD (gbDD s1.2 s2.2) s3.2) s4.2) s5.2) s6.2) s7.2) s8.2)⟩
end Go.Proofs.Ythhbfghbpapklaa
