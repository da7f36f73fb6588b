import Derived.Test.YtlpkkclmcgnapaaRowDV1
namespace Go.Proofs.Ytlpkkclmcgnapaa
open Go.ChangeShapes Go.WideShapes Go.ChangeAt Go.RowKit

theorem dvR_set (zs : List DV) (k : Nat) (m : DV) (hk : k < zs.length) : ((((dvR zs).set (k * 3) (.int .i64 m.kind)).set (k * 3 + 1) (.int .i64 m.port)).set (k * 3 + 2) (.int .i64 m.line)) = dvR (zs.set k m) := by
  induction zs generalizing k with
  | nil => simp at hk
  | cons z zs ih =>
    have e : dvR (z :: zs) = dvC z ++ dvR zs := rfl
    have hl : (dvC z).length = 3 := rfl
    cases k with
    | zero =>
      rw [e, List.set_cons_zero]
      show _ = dvC m ++ dvR zs
      rfl
    | succ k =>
      rw [e, List.set_cons_succ]
      show _ = dvC z ++ dvR (zs.set k m)
      rw [List.set_append_right _ _ (by omega), List.set_append_right _ _ (by omega), List.set_append_right _ _ (by omega), hl,
        show (k + 1) * 3 - 3 = k * 3 by omega, show (k + 1) * 3 + 1 - 3 = k * 3 + 1 by omega, show (k + 1) * 3 + 2 - 3 = k * 3 + 2 by omega, ih k (by simpa using hk)]
theorem gbDV {w0 w u : World} {r : Option Nat} (h : w0.grownBy w r) (hg : w.grownBy u r) : w0.grownBy u r :=
  ⟨hg.os.trans h.os, hg.tape.trans h.tape, hg.output.trans h.output, Nat.le_trans h.size hg.size, fun k hk hn => (hg.block k (Nat.lt_of_lt_of_le hk h.size) hn).trans (h.block k hk hn)⟩
theorem dv_cells {w : World} {B g cap m : Nat} {zs : List DV} (h : w.ownsRow B 49 3 (.slice (some ⟨g, 0, none⟩) m cap) m (dvR zs)) (hm : zs.length = m) (k : Nat) (hk : k < zs.length) : ∃ y : DV, w.cell? ⟨g, k * 3, none⟩ = some (.int .i64 y.kind) ∧ w.cell? ⟨g, k * 3 + 1, none⟩ = some (.int .i64 y.port) ∧ w.cell? ⟨g, k * 3 + 2, none⟩ = some (.int .i64 y.line) := by
  subst hm
  rcases DVrow.of h with ⟨e, _⟩ | ⟨g2, o, cap2, hv, _, _, hc⟩
  · rw [e] at hk
    simp at hk
  · injection hv with e1
    injection e1 with e2
    obtain ⟨rfl, rfl⟩ : g = g2 ∧ 0 = o := ⟨congrArg Addr.block e2, congrArg Addr.off e2⟩
    have h3 := hc k hk
    simp only [Nat.zero_add] at h3
    exact ⟨zs[k], h3⟩
/-- An element put. -/
theorem own_setDV {w : World} {B g cap : Nat} {zs : List DV} (h : w.ownsRow B 49 3 (.slice (some ⟨g, 0, none⟩) zs.length cap) zs.length (dvR zs)) (k : Nat) (hk : k < zs.length) (m : DV) :
    (((w.setCell ⟨g, k * 3, none⟩ (.int .i64 m.kind)).setCell ⟨g, k * 3 + 1, none⟩ (.int .i64 m.port)).setCell ⟨g, k * 3 + 2, none⟩ (.int .i64 m.line)).ownsRow B 49 3 (.slice (some ⟨g, 0, none⟩) zs.length cap) zs.length (dvR (zs.set k m)) ∧
    w.grownBy (((w.setCell ⟨g, k * 3, none⟩ (.int .i64 m.kind)).setCell ⟨g, k * 3 + 1, none⟩ (.int .i64 m.port)).setCell ⟨g, k * 3 + 2, none⟩ (.int .i64 m.line)) (some g) := by
  have s1 := h.stored (k * 3) (.int .i64 m.kind)
  have s2 := s1.1.stored (k * 3 + 1) (.int .i64 m.port)
  have s3 := s2.1.stored (k * 3 + 2) (.int .i64 m.line)
  rw [dvR_set zs k m hk] at s3
  exact ⟨s3.1, (gbDV (gbDV s1.2 s2.2) s3.2)⟩
end Go.Proofs.Ytlpkkclmcgnapaa
