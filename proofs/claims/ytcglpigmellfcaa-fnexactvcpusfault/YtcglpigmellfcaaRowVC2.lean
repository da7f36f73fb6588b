import Derived.Test.YtcglpigmellfcaaRowVC1
namespace Go.Proofs.Ytcglpigmellfcaa
open Go.ChangeShapes Go.WideShapes Go.ChangeAt Go.RowKit

theorem vcR_set (zs : List VC) (k : Nat) (m : VC) (hk : k < zs.length) : ((((((((((vcR zs).set (k * 9) (.int .i64 m.guest)).set (k * 9 + 1) (.int .i64 m.weight)).set (k * 9 + 2) (.int .i64 m.cap)).set (k * 9 + 3) (.int .i64 m.mask)).set (k * 9 + 4) (.bool m.awake)).set (k * 9 + 5) (.int .i64 m.credit)).set (k * 9 + 6) (.int .i64 m.used)).set (k * 9 + 7) (.int .i64 m.ran)).set (k * 9 + 8) (.int .i64 m.stolen)) = vcR (zs.set k m) := by
  induction zs generalizing k with
  | nil => simp at hk
  | cons z zs ih =>
    have e : vcR (z :: zs) = vcC z ++ vcR zs := rfl
    have hl : (vcC z).length = 9 := rfl
    cases k with
    | zero =>
      rw [e, List.set_cons_zero]
      show _ = vcC m ++ vcR zs
      rfl
    | succ k =>
      rw [e, List.set_cons_succ]
      show _ = vcC z ++ vcR (zs.set k m)
      rw [List.set_append_right _ _ (by omega), List.set_append_right _ _ (by omega), List.set_append_right _ _ (by omega), List.set_append_right _ _ (by omega), List.set_append_right _ _ (by omega), List.set_append_right _ _ (by omega), List.set_append_right _ _ (by omega), List.set_append_right _ _ (by omega), List.set_append_right _ _ (by omega), hl,
        show (k + 1) * 9 - 9 = k * 9 by omega, show (k + 1) * 9 + 1 - 9 = k * 9 + 1 by omega, show (k + 1) * 9 + 2 - 9 = k * 9 + 2 by omega, show (k + 1) * 9 + 3 - 9 = k * 9 + 3 by omega, show (k + 1) * 9 + 4 - 9 = k * 9 + 4 by omega, show (k + 1) * 9 + 5 - 9 = k * 9 + 5 by omega, show (k + 1) * 9 + 6 - 9 = k * 9 + 6 by omega, show (k + 1) * 9 + 7 - 9 = k * 9 + 7 by omega, show (k + 1) * 9 + 8 - 9 = k * 9 + 8 by omega, ih k (by simpa using hk)]
theorem gbVC {w0 w u : World} {r : Option Nat} (h : w0.grownBy w r) (hg : w.grownBy u r) : w0.grownBy u r :=
  ⟨hg.os.trans h.os, hg.tape.trans h.tape, hg.output.trans h.output, Nat.le_trans h.size hg.size, fun k hk hn => (hg.block k (Nat.lt_of_lt_of_le hk h.size) hn).trans (h.block k hk hn)⟩
theorem vc_cells {w : World} {B g cap m : Nat} {zs : List VC} (h : w.ownsRow B 60 9 (.slice (some ⟨g, 0, none⟩) m cap) m (vcR zs)) (hm : zs.length = m) (k : Nat) (hk : k < zs.length) : ∃ y : VC, w.cell? ⟨g, k * 9, none⟩ = some (.int .i64 y.guest) ∧ w.cell? ⟨g, k * 9 + 1, none⟩ = some (.int .i64 y.weight) ∧ w.cell? ⟨g, k * 9 + 2, none⟩ = some (.int .i64 y.cap) ∧ w.cell? ⟨g, k * 9 + 3, none⟩ = some (.int .i64 y.mask) ∧ w.cell? ⟨g, k * 9 + 4, none⟩ = some (.bool y.awake) ∧ w.cell? ⟨g, k * 9 + 5, none⟩ = some (.int .i64 y.credit) ∧ w.cell? ⟨g, k * 9 + 6, none⟩ = some (.int .i64 y.used) ∧ w.cell? ⟨g, k * 9 + 7, none⟩ = some (.int .i64 y.ran) ∧ w.cell? ⟨g, k * 9 + 8, none⟩ = some (.int .i64 y.stolen) := by
  subst hm
  rcases VCrow.of h with ⟨e, _⟩ | ⟨g2, o, cap2, hv, _, _, hc⟩
  · rw [e] at hk
    simp at hk
  · injection hv with e1
    injection e1 with e2
    obtain ⟨rfl, rfl⟩ : g = g2 ∧ 0 = o := ⟨congrArg Addr.block e2, congrArg Addr.off e2⟩
    have h3 := hc k hk
    simp only [Nat.zero_add] at h3
    exact ⟨zs[k], h3⟩
/-- An element put. -/
theorem own_setVC {w : World} {B g cap : Nat} {zs : List VC} (h : w.ownsRow B 60 9 (.slice (some ⟨g, 0, none⟩) zs.length cap) zs.length (vcR zs)) (k : Nat) (hk : k < zs.length) (m : VC) :
    (((((((((w.setCell ⟨g, k * 9, none⟩ (.int .i64 m.guest)).setCell ⟨g, k * 9 + 1, none⟩ (.int .i64 m.weight)).setCell ⟨g, k * 9 + 2, none⟩ (.int .i64 m.cap)).setCell ⟨g, k * 9 + 3, none⟩ (.int .i64 m.mask)).setCell ⟨g, k * 9 + 4, none⟩ (.bool m.awake)).setCell ⟨g, k * 9 + 5, none⟩ (.int .i64 m.credit)).setCell ⟨g, k * 9 + 6, none⟩ (.int .i64 m.used)).setCell ⟨g, k * 9 + 7, none⟩ (.int .i64 m.ran)).setCell ⟨g, k * 9 + 8, none⟩ (.int .i64 m.stolen)).ownsRow B 60 9 (.slice (some ⟨g, 0, none⟩) zs.length cap) zs.length (vcR (zs.set k m)) ∧
    w.grownBy (((((((((w.setCell ⟨g, k * 9, none⟩ (.int .i64 m.guest)).setCell ⟨g, k * 9 + 1, none⟩ (.int .i64 m.weight)).setCell ⟨g, k * 9 + 2, none⟩ (.int .i64 m.cap)).setCell ⟨g, k * 9 + 3, none⟩ (.int .i64 m.mask)).setCell ⟨g, k * 9 + 4, none⟩ (.bool m.awake)).setCell ⟨g, k * 9 + 5, none⟩ (.int .i64 m.credit)).setCell ⟨g, k * 9 + 6, none⟩ (.int .i64 m.used)).setCell ⟨g, k * 9 + 7, none⟩ (.int .i64 m.ran)).setCell ⟨g, k * 9 + 8, none⟩ (.int .i64 m.stolen)) (some g) := by
  have s1 := h.stored (k * 9) (.int .i64 m.guest)
  have s2 := s1.1.stored (k * 9 + 1) (.int .i64 m.weight)
  have s3 := s2.1.stored (k * 9 + 2) (.int .i64 m.cap)
  have s4 := s3.1.stored (k * 9 + 3) (.int .i64 m.mask)
  have s5 := s4.1.stored (k * 9 + 4) (.bool m.awake)
  have s6 := s5.1.stored (k * 9 + 5) (.int .i64 m.credit)
  have s7 := s6.1.stored (k * 9 + 6) (.int .i64 m.used)
  have s8 := s7.1.stored (k * 9 + 7) (.int .i64 m.ran)
  have s9 := s8.1.stored (k * 9 + 8) (.int .i64 m.stolen)
  rw [vcR_set zs k m hk] at s9
  exact ⟨s9.1, (gbVC (gbVC (gbVC (gbVC (gbVC (gbVC (gbVC (gbVC s1.2 s2.2) s3.2) s4.2) s5.2) s6.2) s7.2) s8.2) s9.2)⟩
end Go.Proofs.Ytcglpigmellfcaa
