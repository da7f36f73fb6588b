import Derived.Test.YtefeahilamiiaaaRowPQ1
namespace Go.Proofs.Ytefeahilamiiaaa
open Go.ChangeShapes Go.WideShapes Go.ChangeAt Go.RowKit

theorem pqR_set (zs : List PQ) (k : Nat) (m : PQ) (hk : k < zs.length) : ((((((((pqR zs).set (k * 7) (.int .i64 m.net)).set (k * 7 + 1) (m.nets)).set (k * 7 + 2) (.int .i64 m.own)).set (k * 7 + 3) (.bool m.up)).set (k * 7 + 4) (.int .i64 m.rate)).set (k * 7 + 5) (.int .i64 m.burst)).set (k * 7 + 6) (.int .i64 m.lev)) = pqR (zs.set k m) := by
  induction zs generalizing k with
  | nil => simp at hk
  | cons z zs ih =>
    have e : pqR (z :: zs) = pqC z ++ pqR zs := rfl
    have hl : (pqC z).length = 7 := rfl
    cases k with
    | zero =>
      rw [e, List.set_cons_zero]
      show _ = pqC m ++ pqR zs
      rfl
    | succ k =>
      rw [e, List.set_cons_succ]
      show _ = pqC z ++ pqR (zs.set k m)
      rw [List.set_append_right _ _ (by omega), List.set_append_right _ _ (by omega), List.set_append_right _ _ (by omega), List.set_append_right _ _ (by omega), List.set_append_right _ _ (by omega), List.set_append_right _ _ (by omega), List.set_append_right _ _ (by omega), hl,
        show (k + 1) * 7 - 7 = k * 7 by omega, show (k + 1) * 7 + 1 - 7 = k * 7 + 1 by omega, show (k + 1) * 7 + 2 - 7 = k * 7 + 2 by omega, show (k + 1) * 7 + 3 - 7 = k * 7 + 3 by omega, show (k + 1) * 7 + 4 - 7 = k * 7 + 4 by omega, show (k + 1) * 7 + 5 - 7 = k * 7 + 5 by omega, show (k + 1) * 7 + 6 - 7 = k * 7 + 6 by omega, ih k (by simpa using hk)]
theorem gbPQ {w0 w u : World} {r : Option Nat} (h : w0.grownBy w r) (hg : w.grownBy u r) : w0.grownBy u r :=
  ⟨hg.os.trans h.os, hg.tape.trans h.tape, hg.output.trans h.output, Nat.le_trans h.size hg.size, fun k hk hn => (hg.block k (Nat.lt_of_lt_of_le hk h.size) hn).trans (h.block k hk hn)⟩
theorem pq_cells {w : World} {B g cap m : Nat} {zs : List PQ} (h : w.ownsRow B 73 7 (.slice (some ⟨g, 0, none⟩) m cap) m (pqR zs)) (hm : zs.length = m) (k : Nat) (hk : k < zs.length) : ∃ y : PQ, w.cell? ⟨g, k * 7, none⟩ = some (.int .i64 y.net) ∧ w.cell? ⟨g, k * 7 + 1, none⟩ = some (y.nets) ∧ w.cell? ⟨g, k * 7 + 2, none⟩ = some (.int .i64 y.own) ∧ w.cell? ⟨g, k * 7 + 3, none⟩ = some (.bool y.up) ∧ w.cell? ⟨g, k * 7 + 4, none⟩ = some (.int .i64 y.rate) ∧ w.cell? ⟨g, k * 7 + 5, none⟩ = some (.int .i64 y.burst) ∧ w.cell? ⟨g, k * 7 + 6, none⟩ = some (.int .i64 y.lev) := by
  subst hm
  rcases PQrow.of h with ⟨e, _⟩ | ⟨g2, o, cap2, hv, _, _, hc⟩
  · rw [e] at hk
    simp at hk
  · injection hv with e1
    injection e1 with e2
    obtain ⟨rfl, rfl⟩ : g = g2 ∧ 0 = o := ⟨congrArg Addr.block e2, congrArg Addr.off e2⟩
    have h3 := hc k hk
    simp only [Nat.zero_add] at h3
    exact ⟨zs[k], h3⟩
/-- An element put. -/
theorem own_setPQ {w : World} {B g cap : Nat} {zs : List PQ} (h : w.ownsRow B 73 7 (.slice (some ⟨g, 0, none⟩) zs.length cap) zs.length (pqR zs)) (k : Nat) (hk : k < zs.length) (m : PQ) :
    (((((((w.setCell ⟨g, k * 7, none⟩ (.int .i64 m.net)).setCell ⟨g, k * 7 + 1, none⟩ (m.nets)).setCell ⟨g, k * 7 + 2, none⟩ (.int .i64 m.own)).setCell ⟨g, k * 7 + 3, none⟩ (.bool m.up)).setCell ⟨g, k * 7 + 4, none⟩ (.int .i64 m.rate)).setCell ⟨g, k * 7 + 5, none⟩ (.int .i64 m.burst)).setCell ⟨g, k * 7 + 6, none⟩ (.int .i64 m.lev)).ownsRow B 73 7 (.slice (some ⟨g, 0, none⟩) zs.length cap) zs.length (pqR (zs.set k m)) ∧
    w.grownBy (((((((w.setCell ⟨g, k * 7, none⟩ (.int .i64 m.net)).setCell ⟨g, k * 7 + 1, none⟩ (m.nets)).setCell ⟨g, k * 7 + 2, none⟩ (.int .i64 m.own)).setCell ⟨g, k * 7 + 3, none⟩ (.bool m.up)).setCell ⟨g, k * 7 + 4, none⟩ (.int .i64 m.rate)).setCell ⟨g, k * 7 + 5, none⟩ (.int .i64 m.burst)).setCell ⟨g, k * 7 + 6, none⟩ (.int .i64 m.lev)) (some g) := by
  have s1 := h.stored (k * 7) (.int .i64 m.net)
  have s2 := s1.1.stored (k * 7 + 1) (m.nets)
  have s3 := s2.1.stored (k * 7 + 2) (.int .i64 m.own)
  have s4 := s3.1.stored (k * 7 + 3) (.bool m.up)
  have s5 := s4.1.stored (k * 7 + 4) (.int .i64 m.rate)
  have s6 := s5.1.stored (k * 7 + 5) (.int .i64 m.burst)
  have s7 := s6.1.stored (k * 7 + 6) (.int .i64 m.lev)
  rw [pqR_set zs k m hk] at s7
  exact ⟨s7.1, (gbPQ (gbPQ (gbPQ (gbPQ (gbPQ (gbPQ s1.2 s2.2) s3.2) s4.2) s5.2) s6.2) s7.2)⟩
end Go.Proofs.Ytefeahilamiiaaa
