import Derived.Test.YtpggbbdfbnocfaaRowCN1
namespace Go.Proofs.Ytpggbbdfbnocfaa
open Go.ChangeShapes Go.WideShapes Go.ChangeAt Go.RowKit

theorem cnR_set (zs : List CN) (k : Nat) (m : CN) (hk : k < zs.length) : (((((((((((cnR zs).set (k * 10) (.int .i64 m.proto)).set (k * 10 + 1) (.int .i64 m.a)).set (k * 10 + 2) (.int .i64 m.ap)).set (k * 10 + 3) (.int .i64 m.b)).set (k * 10 + 4) (.int .i64 m.bp)).set (k * 10 + 5) (.int .i64 m.outer)).set (k * 10 + 6) (.int .i64 m.state)).set (k * 10 + 7) (.bool m.fa)).set (k * 10 + 8) (.bool m.fb)).set (k * 10 + 9) (.int .i64 m.seen)) = cnR (zs.set k m) := by
  induction zs generalizing k with
  | nil => simp at hk
  | cons z zs ih =>
    have e : cnR (z :: zs) = cnC z ++ cnR zs := rfl
    have hl : (cnC z).length = 10 := rfl
    cases k with
    | zero =>
      rw [e, List.set_cons_zero]
      show _ = cnC m ++ cnR zs
      rfl
    | succ k =>
      rw [e, List.set_cons_succ]
      show _ = cnC z ++ cnR (zs.set k m)
      rw [List.set_append_right _ _ (by omega), List.set_append_right _ _ (by omega), List.set_append_right _ _ (by omega), List.set_append_right _ _ (by omega), List.set_append_right _ _ (by omega), List.set_append_right _ _ (by omega), List.set_append_right _ _ (by omega), List.set_append_right _ _ (by omega), List.set_append_right _ _ (by omega), List.set_append_right _ _ (by omega), hl,
        show (k + 1) * 10 - 10 = k * 10 by omega, show (k + 1) * 10 + 1 - 10 = k * 10 + 1 by omega, show (k + 1) * 10 + 2 - 10 = k * 10 + 2 by omega, show (k + 1) * 10 + 3 - 10 = k * 10 + 3 by omega, show (k + 1) * 10 + 4 - 10 = k * 10 + 4 by omega, show (k + 1) * 10 + 5 - 10 = k * 10 + 5 by omega, show (k + 1) * 10 + 6 - 10 = k * 10 + 6 by omega, show (k + 1) * 10 + 7 - 10 = k * 10 + 7 by omega, show (k + 1) * 10 + 8 - 10 = k * 10 + 8 by omega, show (k + 1) * 10 + 9 - 10 = k * 10 + 9 by omega, ih k (by simpa using hk)]
theorem gbCN {w0 w u : World} {r : Option Nat} (h : w0.grownBy w r) (hg : w.grownBy u r) : w0.grownBy u r :=
  ⟨hg.os.trans h.os, hg.tape.trans h.tape, hg.output.trans h.output, Nat.le_trans h.size hg.size, fun k hk hn => (hg.block k (Nat.lt_of_lt_of_le hk h.size) hn).trans (h.block k hk hn)⟩
theorem cn_cells {w : World} {B g cap m : Nat} {zs : List CN} (h : w.ownsRow B 59 10 (.slice (some ⟨g, 0, none⟩) m cap) m (cnR zs)) (hm : zs.length = m) (k : Nat) (hk : k < zs.length) : ∃ y : CN, w.cell? ⟨g, k * 10, none⟩ = some (.int .i64 y.proto) ∧ w.cell? ⟨g, k * 10 + 1, none⟩ = some (.int .i64 y.a) ∧ w.cell? ⟨g, k * 10 + 2, none⟩ = some (.int .i64 y.ap) ∧ w.cell? ⟨g, k * 10 + 3, none⟩ = some (.int .i64 y.b) ∧ w.cell? ⟨g, k * 10 + 4, none⟩ = some (.int .i64 y.bp) ∧ w.cell? ⟨g, k * 10 + 5, none⟩ = some (.int .i64 y.outer) ∧ w.cell? ⟨g, k * 10 + 6, none⟩ = some (.int .i64 y.state) ∧ w.cell? ⟨g, k * 10 + 7, none⟩ = some (.bool y.fa) ∧ w.cell? ⟨g, k * 10 + 8, none⟩ = some (.bool y.fb) ∧ w.cell? ⟨g, k * 10 + 9, none⟩ = some (.int .i64 y.seen) := by
  subst hm
  rcases CNrow.of h with ⟨e, _⟩ | ⟨g2, o, cap2, hv, _, _, hc⟩
  · rw [e] at hk
    simp at hk
  · injection hv with e1
    injection e1 with e2
    obtain ⟨rfl, rfl⟩ : g = g2 ∧ 0 = o := ⟨congrArg Addr.block e2, congrArg Addr.off e2⟩
    have h3 := hc k hk
    simp only [Nat.zero_add] at h3
    exact ⟨zs[k], h3⟩
/-- An element put. -/
theorem own_setCN {w : World} {B g cap : Nat} {zs : List CN} (h : w.ownsRow B 59 10 (.slice (some ⟨g, 0, none⟩) zs.length cap) zs.length (cnR zs)) (k : Nat) (hk : k < zs.length) (m : CN) :
    ((((((((((w.setCell ⟨g, k * 10, none⟩ (.int .i64 m.proto)).setCell ⟨g, k * 10 + 1, none⟩ (.int .i64 m.a)).setCell ⟨g, k * 10 + 2, none⟩ (.int .i64 m.ap)).setCell ⟨g, k * 10 + 3, none⟩ (.int .i64 m.b)).setCell ⟨g, k * 10 + 4, none⟩ (.int .i64 m.bp)).setCell ⟨g, k * 10 + 5, none⟩ (.int .i64 m.outer)).setCell ⟨g, k * 10 + 6, none⟩ (.int .i64 m.state)).setCell ⟨g, k * 10 + 7, none⟩ (.bool m.fa)).setCell ⟨g, k * 10 + 8, none⟩ (.bool m.fb)).setCell ⟨g, k * 10 + 9, none⟩ (.int .i64 m.seen)).ownsRow B 59 10 (.slice (some ⟨g, 0, none⟩) zs.length cap) zs.length (cnR (zs.set k m)) ∧
    w.grownBy ((((((((((w.setCell ⟨g, k * 10, none⟩ (.int .i64 m.proto)).setCell ⟨g, k * 10 + 1, none⟩ (.int .i64 m.a)).setCell ⟨g, k * 10 + 2, none⟩ (.int .i64 m.ap)).setCell ⟨g, k * 10 + 3, none⟩ (.int .i64 m.b)).setCell ⟨g, k * 10 + 4, none⟩ (.int .i64 m.bp)).setCell ⟨g, k * 10 + 5, none⟩ (.int .i64 m.outer)).setCell ⟨g, k * 10 + 6, none⟩ (.int .i64 m.state)).setCell ⟨g, k * 10 + 7, none⟩ (.bool m.fa)).setCell ⟨g, k * 10 + 8, none⟩ (.bool m.fb)).setCell ⟨g, k * 10 + 9, none⟩ (.int .i64 m.seen)) (some g) := by
  have s1 := h.stored (k * 10) (.int .i64 m.proto)
  have s2 := s1.1.stored (k * 10 + 1) (.int .i64 m.a)
  have s3 := s2.1.stored (k * 10 + 2) (.int .i64 m.ap)
  have s4 := s3.1.stored (k * 10 + 3) (.int .i64 m.b)
  have s5 := s4.1.stored (k * 10 + 4) (.int .i64 m.bp)
  have s6 := s5.1.stored (k * 10 + 5) (.int .i64 m.outer)
  have s7 := s6.1.stored (k * 10 + 6) (.int .i64 m.state)
  have s8 := s7.1.stored (k * 10 + 7) (.bool m.fa)
  have s9 := s8.1.stored (k * 10 + 8) (.bool m.fb)
  have s10 := s9.1.stored (k * 10 + 9) (.int .i64 m.seen)
  rw [cnR_set zs k m hk] at s10
  exact ⟨s10.1, (gbCN (gbCN (gbCN (gbCN (gbCN (gbCN (gbCN (gbCN (gbCN s1.2 s2.2) s3.2) s4.2) s5.2) s6.2) s7.2) s8.2) s9.2) s10.2)⟩
end Go.Proofs.Ytpggbbdfbnocfaa
