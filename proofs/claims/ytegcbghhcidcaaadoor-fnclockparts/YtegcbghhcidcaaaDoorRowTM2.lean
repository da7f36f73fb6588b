import Derived.Test.YtegcbghhcidcaaaDoorRowTM1
namespace Go.Proofs.YtegcbghhcidcaaaDoor
open Go.ChangeShapes Go.WideShapes Go.ChangeAt Go.RowKit

theorem tiR_set (zs : List TM) (k : Nat) (m : TM) (hk : k < zs.length) : ((((tiR zs).set (k * 3) (.int .i64 m.due)).set (k * 3 + 1) (.int .i64 m.period)).set (k * 3 + 2) (.int .i64 m.policy)) = tiR (zs.set k m) := by
  induction zs generalizing k with
  | nil => simp at hk
  | cons z zs ih =>
    have e : tiR (z :: zs) = tiC z ++ tiR zs := rfl
    have hl : (tiC z).length = 3 := rfl
    cases k with
    | zero =>
      rw [e, List.set_cons_zero]
      show _ = tiC m ++ tiR zs
      rfl
    | succ k =>
      rw [e, List.set_cons_succ]
      show _ = tiC z ++ tiR (zs.set k m)
      rw [List.set_append_right _ _ (by omega), List.set_append_right _ _ (by omega), List.set_append_right _ _ (by omega), hl,
        show (k + 1) * 3 - 3 = k * 3 by omega, show (k + 1) * 3 + 1 - 3 = k * 3 + 1 by omega, show (k + 1) * 3 + 2 - 3 = k * 3 + 2 by omega, ih k (by simpa using hk)]
theorem gbTM {w0 w u : World} {r : Option Nat} (h : w0.grownBy w r) (hg : w.grownBy u r) : w0.grownBy u r :=
  ⟨hg.os.trans h.os, hg.tape.trans h.tape, hg.output.trans h.output, Nat.le_trans h.size hg.size, fun k hk hn => (hg.block k (Nat.lt_of_lt_of_le hk h.size) hn).trans (h.block k hk hn)⟩
theorem ti_cells {w : World} {B g cap m : Nat} {zs : List TM} (h : w.ownsRow B 34 3 (.slice (some ⟨g, 0, none⟩) m cap) m (tiR zs)) (hm : zs.length = m) (k : Nat) (hk : k < zs.length) : ∃ y : TM, w.cell? ⟨g, k * 3, none⟩ = some (.int .i64 y.due) ∧ w.cell? ⟨g, k * 3 + 1, none⟩ = some (.int .i64 y.period) ∧ w.cell? ⟨g, k * 3 + 2, none⟩ = some (.int .i64 y.policy) := by
  subst hm
  rcases TMrow.of h with ⟨e, _⟩ | ⟨g2, o, cap2, hv, _, _, hc⟩
  · rw [e] at hk
    simp at hk
  · injection hv with e1
    injection e1 with e2
    obtain ⟨rfl, rfl⟩ : g = g2 ∧ 0 = o := ⟨congrArg Addr.block e2, congrArg Addr.off e2⟩
    have h3 := hc k hk
    simp only [Nat.zero_add] at h3
    exact ⟨zs[k], h3⟩
/-- An element put. -/
theorem own_setTM {w : World} {B g cap : Nat} {zs : List TM} (h : w.ownsRow B 34 3 (.slice (some ⟨g, 0, none⟩) zs.length cap) zs.length (tiR zs)) (k : Nat) (hk : k < zs.length) (m : TM) :
    (((w.setCell ⟨g, k * 3, none⟩ (.int .i64 m.due)).setCell ⟨g, k * 3 + 1, none⟩ (.int .i64 m.period)).setCell ⟨g, k * 3 + 2, none⟩ (.int .i64 m.policy)).ownsRow B 34 3 (.slice (some ⟨g, 0, none⟩) zs.length cap) zs.length (tiR (zs.set k m)) ∧
    w.grownBy (((w.setCell ⟨g, k * 3, none⟩ (.int .i64 m.due)).setCell ⟨g, k * 3 + 1, none⟩ (.int .i64 m.period)).setCell ⟨g, k * 3 + 2, none⟩ (.int .i64 m.policy)) (some g) := by
  have s1 := h.stored (k * 3) (.int .i64 m.due)
  have s2 := s1.1.stored (k * 3 + 1) (.int .i64 m.period)
  have s3 := s2.1.stored (k * 3 + 2) (.int .i64 m.policy)
  rw [tiR_set zs k m hk] at s3
  exact ⟨s3.1, (gbTM (gbTM s1.2 s2.2) s3.2)⟩
end Go.Proofs.YtegcbghhcidcaaaDoor
