import Derived.Test.YtkmbhhkgfofcoaaRowTNT1
namespace Go.Proofs.Ytkmbhhkgfofcoaa
open Go.ChangeShapes Go.WideShapes Go.ChangeAt Go.RowKit

theorem tntR_set (zs : List TNT) (k : Nat) (m : TNT) (hk : k < zs.length) : ((((tntR zs).set (k * 3) (.int .i64 m.cpu)).set (k * 3 + 1) (.int .i64 m.mem)).set (k * 3 + 2) (.int .i64 m.bill)) = tntR (zs.set k m) := by
  induction zs generalizing k with
  | nil => simp at hk
  | cons z zs ih =>
    have e : tntR (z :: zs) = tntC z ++ tntR zs := rfl
    have hl : (tntC z).length = 3 := rfl
    cases k with
    | zero =>
      rw [e, List.set_cons_zero]
      show _ = tntC m ++ tntR zs
      rfl
    | succ k =>
      rw [e, List.set_cons_succ]
      show _ = tntC z ++ tntR (zs.set k m)
      rw [List.set_append_right _ _ (by omega), List.set_append_right _ _ (by omega), List.set_append_right _ _ (by omega), hl,
        show (k + 1) * 3 - 3 = k * 3 by omega, show (k + 1) * 3 + 1 - 3 = k * 3 + 1 by omega, show (k + 1) * 3 + 2 - 3 = k * 3 + 2 by omega, ih k (by simpa using hk)]
theorem gbTNT {w0 w u : World} {r : Option Nat} (h : w0.grownBy w r) (hg : w.grownBy u r) : w0.grownBy u r :=
  ⟨hg.os.trans h.os, hg.tape.trans h.tape, hg.output.trans h.output, Nat.le_trans h.size hg.size, fun k hk hn => (hg.block k (Nat.lt_of_lt_of_le hk h.size) hn).trans (h.block k hk hn)⟩
theorem tnt_cells {w : World} {B g cap m : Nat} {zs : List TNT} (h : w.ownsRow B 54 3 (.slice (some ⟨g, 0, none⟩) m cap) m (tntR zs)) (hm : zs.length = m) (k : Nat) (hk : k < zs.length) : ∃ y : TNT, w.cell? ⟨g, k * 3, none⟩ = some (.int .i64 y.cpu) ∧ w.cell? ⟨g, k * 3 + 1, none⟩ = some (.int .i64 y.mem) ∧ w.cell? ⟨g, k * 3 + 2, none⟩ = some (.int .i64 y.bill) := by
  subst hm
  rcases TNTrow.of h with ⟨e, _⟩ | ⟨g2, o, cap2, hv, _, _, hc⟩
  · rw [e] at hk
    simp at hk
  · injection hv with e1
    injection e1 with e2
    obtain ⟨rfl, rfl⟩ : g = g2 ∧ 0 = o := ⟨congrArg Addr.block e2, congrArg Addr.off e2⟩
    have h3 := hc k hk
    simp only [Nat.zero_add] at h3
    exact ⟨zs[k], h3⟩
/-- An element put. -/
theorem own_setTNT {w : World} {B g cap : Nat} {zs : List TNT} (h : w.ownsRow B 54 3 (.slice (some ⟨g, 0, none⟩) zs.length cap) zs.length (tntR zs)) (k : Nat) (hk : k < zs.length) (m : TNT) :
    (((w.setCell ⟨g, k * 3, none⟩ (.int .i64 m.cpu)).setCell ⟨g, k * 3 + 1, none⟩ (.int .i64 m.mem)).setCell ⟨g, k * 3 + 2, none⟩ (.int .i64 m.bill)).ownsRow B 54 3 (.slice (some ⟨g, 0, none⟩) zs.length cap) zs.length (tntR (zs.set k m)) ∧
    w.grownBy (((w.setCell ⟨g, k * 3, none⟩ (.int .i64 m.cpu)).setCell ⟨g, k * 3 + 1, none⟩ (.int .i64 m.mem)).setCell ⟨g, k * 3 + 2, none⟩ (.int .i64 m.bill)) (some g) := by
  have s1 := h.stored (k * 3) (.int .i64 m.cpu)
  have s2 := s1.1.stored (k * 3 + 1) (.int .i64 m.mem)
  have s3 := s2.1.stored (k * 3 + 2) (.int .i64 m.bill)
  rw [tntR_set zs k m hk] at s3
  exact ⟨s3.1, (gbTNT (gbTNT s1.2 s2.2) s3.2)⟩
end Go.Proofs.Ytkmbhhkgfofcoaa
