import Derived.Test.YtkmbhhkgfofcoaaRowNOD1
namespace Go.Proofs.Ytkmbhhkgfofcoaa
open Go.ChangeShapes Go.WideShapes Go.ChangeAt Go.RowKit

theorem nodR_set (zs : List NOD) (k : Nat) (m : NOD) (hk : k < zs.length) : ((((((((nodR zs).set (k * 7) (.string m.name)).set (k * 7 + 1) (.int .i64 m.cpu)).set (k * 7 + 2) (.int .i64 m.mem)).set (k * 7 + 3) (.int .i64 m.zone)).set (k * 7 + 4) (.int .i64 m.beat)).set (k * 7 + 5) (.bool m.fenced)).set (k * 7 + 6) (.bool m.closed)) = nodR (zs.set k m) := by
  induction zs generalizing k with
  | nil => simp at hk
  | cons z zs ih =>
    have e : nodR (z :: zs) = nodC z ++ nodR zs := rfl
    have hl : (nodC z).length = 7 := rfl
    cases k with
    | zero =>
      rw [e, List.set_cons_zero]
      show _ = nodC m ++ nodR zs
      rfl
    | succ k =>
      rw [e, List.set_cons_succ]
      show _ = nodC z ++ nodR (zs.set k m)
      rw [List.set_append_right _ _ (by omega), List.set_append_right _ _ (by omega), List.set_append_right _ _ (by omega), List.set_append_right _ _ (by omega), List.set_append_right _ _ (by omega), List.set_append_right _ _ (by omega), List.set_append_right _ _ (by omega), hl,
        show (k + 1) * 7 - 7 = k * 7 by omega, show (k + 1) * 7 + 1 - 7 = k * 7 + 1 by omega, show (k + 1) * 7 + 2 - 7 = k * 7 + 2 by omega, show (k + 1) * 7 + 3 - 7 = k * 7 + 3 by omega, show (k + 1) * 7 + 4 - 7 = k * 7 + 4 by omega, show (k + 1) * 7 + 5 - 7 = k * 7 + 5 by omega, show (k + 1) * 7 + 6 - 7 = k * 7 + 6 by omega, ih k (by simpa using hk)]
theorem gbNOD {w0 w u : World} {r : Option Nat} (h : w0.grownBy w r) (hg : w.grownBy u r) : w0.grownBy u r :=
  ⟨hg.os.trans h.os, hg.tape.trans h.tape, hg.output.trans h.output, Nat.le_trans h.size hg.size, fun k hk hn => (hg.block k (Nat.lt_of_lt_of_le hk h.size) hn).trans (h.block k hk hn)⟩
theorem nod_cells {w : World} {B g cap m : Nat} {zs : List NOD} (h : w.ownsRow B 73 7 (.slice (some ⟨g, 0, none⟩) m cap) m (nodR zs)) (hm : zs.length = m) (k : Nat) (hk : k < zs.length) : ∃ y : NOD, w.cell? ⟨g, k * 7, none⟩ = some (.string y.name) ∧ w.cell? ⟨g, k * 7 + 1, none⟩ = some (.int .i64 y.cpu) ∧ w.cell? ⟨g, k * 7 + 2, none⟩ = some (.int .i64 y.mem) ∧ w.cell? ⟨g, k * 7 + 3, none⟩ = some (.int .i64 y.zone) ∧ w.cell? ⟨g, k * 7 + 4, none⟩ = some (.int .i64 y.beat) ∧ w.cell? ⟨g, k * 7 + 5, none⟩ = some (.bool y.fenced) ∧ w.cell? ⟨g, k * 7 + 6, none⟩ = some (.bool y.closed) := by
  subst hm
  rcases NODrow.of h with ⟨e, _⟩ | ⟨g2, o, cap2, hv, _, _, hc⟩
  · rw [e] at hk
    simp at hk
  · injection hv with e1
    injection e1 with e2
    obtain ⟨rfl, rfl⟩ : g = g2 ∧ 0 = o := ⟨congrArg Addr.block e2, congrArg Addr.off e2⟩
    have h3 := hc k hk
    simp only [Nat.zero_add] at h3
    exact ⟨zs[k], h3⟩
/-- An element put. -/
theorem own_setNOD {w : World} {B g cap : Nat} {zs : List NOD} (h : w.ownsRow B 73 7 (.slice (some ⟨g, 0, none⟩) zs.length cap) zs.length (nodR zs)) (k : Nat) (hk : k < zs.length) (m : NOD) :
    (((((((w.setCell ⟨g, k * 7, none⟩ (.string m.name)).setCell ⟨g, k * 7 + 1, none⟩ (.int .i64 m.cpu)).setCell ⟨g, k * 7 + 2, none⟩ (.int .i64 m.mem)).setCell ⟨g, k * 7 + 3, none⟩ (.int .i64 m.zone)).setCell ⟨g, k * 7 + 4, none⟩ (.int .i64 m.beat)).setCell ⟨g, k * 7 + 5, none⟩ (.bool m.fenced)).setCell ⟨g, k * 7 + 6, none⟩ (.bool m.closed)).ownsRow B 73 7 (.slice (some ⟨g, 0, none⟩) zs.length cap) zs.length (nodR (zs.set k m)) ∧
    w.grownBy (((((((w.setCell ⟨g, k * 7, none⟩ (.string m.name)).setCell ⟨g, k * 7 + 1, none⟩ (.int .i64 m.cpu)).setCell ⟨g, k * 7 + 2, none⟩ (.int .i64 m.mem)).setCell ⟨g, k * 7 + 3, none⟩ (.int .i64 m.zone)).setCell ⟨g, k * 7 + 4, none⟩ (.int .i64 m.beat)).setCell ⟨g, k * 7 + 5, none⟩ (.bool m.fenced)).setCell ⟨g, k * 7 + 6, none⟩ (.bool m.closed)) (some g) := by
  have s1 := h.stored (k * 7) (.string m.name)
  have s2 := s1.1.stored (k * 7 + 1) (.int .i64 m.cpu)
  have s3 := s2.1.stored (k * 7 + 2) (.int .i64 m.mem)
  have s4 := s3.1.stored (k * 7 + 3) (.int .i64 m.zone)
  have s5 := s4.1.stored (k * 7 + 4) (.int .i64 m.beat)
  have s6 := s5.1.stored (k * 7 + 5) (.bool m.fenced)
  have s7 := s6.1.stored (k * 7 + 6) (.bool m.closed)
  rw [nodR_set zs k m hk] at s7
  exact ⟨s7.1, (gbNOD (gbNOD (gbNOD (gbNOD (gbNOD (gbNOD s1.2 s2.2) s3.2) s4.2) s5.2) s6.2) s7.2)⟩
end Go.Proofs.Ytkmbhhkgfofcoaa
