import Derived.Test.YtefeahilamiiaaaRowSE1
namespace Go.Proofs.Ytefeahilamiiaaa
open Go.ChangeShapes Go.WideShapes Go.ChangeAt Go.RowKit

theorem seR_set (zs : List SE) (k : Nat) (m : SE) (hk : k < zs.length) : (((((seR zs).set (k * 4) (.int .i64 m.net)).set (k * 4 + 1) (.int .i64 m.addr)).set (k * 4 + 2) (.int .i64 m.port)).set (k * 4 + 3) (.int .i64 m.seen)) = seR (zs.set k m) := by
  induction zs generalizing k with
  | nil => simp at hk
  | cons z zs ih =>
    have e : seR (z :: zs) = seC z ++ seR zs := rfl
    have hl : (seC z).length = 4 := rfl
    cases k with
    | zero =>
      rw [e, List.set_cons_zero]
      show _ = seC m ++ seR zs
      rfl
    | succ k =>
      rw [e, List.set_cons_succ]
      show _ = seC z ++ seR (zs.set k m)
      rw [List.set_append_right _ _ (by omega), List.set_append_right _ _ (by omega), List.set_append_right _ _ (by omega), List.set_append_right _ _ (by omega), hl,
        show (k + 1) * 4 - 4 = k * 4 by omega, show (k + 1) * 4 + 1 - 4 = k * 4 + 1 by omega, show (k + 1) * 4 + 2 - 4 = k * 4 + 2 by omega, show (k + 1) * 4 + 3 - 4 = k * 4 + 3 by omega, ih k (by simpa using hk)]
theorem gbSE {w0 w u : World} {r : Option Nat} (h : w0.grownBy w r) (hg : w.grownBy u r) : w0.grownBy u r :=
  ⟨hg.os.trans h.os, hg.tape.trans h.tape, hg.output.trans h.output, Nat.le_trans h.size hg.size, fun k hk hn => (hg.block k (Nat.lt_of_lt_of_le hk h.size) hn).trans (h.block k hk hn)⟩
theorem se_cells {w : World} {B g cap m : Nat} {zs : List SE} (h : w.ownsRow B 75 4 (.slice (some ⟨g, 0, none⟩) m cap) m (seR zs)) (hm : zs.length = m) (k : Nat) (hk : k < zs.length) : ∃ y : SE, w.cell? ⟨g, k * 4, none⟩ = some (.int .i64 y.net) ∧ w.cell? ⟨g, k * 4 + 1, none⟩ = some (.int .i64 y.addr) ∧ w.cell? ⟨g, k * 4 + 2, none⟩ = some (.int .i64 y.port) ∧ w.cell? ⟨g, k * 4 + 3, none⟩ = some (.int .i64 y.seen) := by
  subst hm
  rcases SErow.of h with ⟨e, _⟩ | ⟨g2, o, cap2, hv, _, _, hc⟩
  · rw [e] at hk
    simp at hk
  · injection hv with e1
    injection e1 with e2
    obtain ⟨rfl, rfl⟩ : g = g2 ∧ 0 = o := ⟨congrArg Addr.block e2, congrArg Addr.off e2⟩
    have h3 := hc k hk
    simp only [Nat.zero_add] at h3
    exact ⟨zs[k], h3⟩
/-- An element put. -/
theorem own_setSE {w : World} {B g cap : Nat} {zs : List SE} (h : w.ownsRow B 75 4 (.slice (some ⟨g, 0, none⟩) zs.length cap) zs.length (seR zs)) (k : Nat) (hk : k < zs.length) (m : SE) :
    ((((w.setCell ⟨g, k * 4, none⟩ (.int .i64 m.net)).setCell ⟨g, k * 4 + 1, none⟩ (.int .i64 m.addr)).setCell ⟨g, k * 4 + 2, none⟩ (.int .i64 m.port)).setCell ⟨g, k * 4 + 3, none⟩ (.int .i64 m.seen)).ownsRow B 75 4 (.slice (some ⟨g, 0, none⟩) zs.length cap) zs.length (seR (zs.set k m)) ∧
    w.grownBy ((((w.setCell ⟨g, k * 4, none⟩ (.int .i64 m.net)).setCell ⟨g, k * 4 + 1, none⟩ (.int .i64 m.addr)).setCell ⟨g, k * 4 + 2, none⟩ (.int .i64 m.port)).setCell ⟨g, k * 4 + 3, none⟩ (.int .i64 m.seen)) (some g) := by
  have s1 := h.stored (k * 4) (.int .i64 m.net)
  have s2 := s1.1.stored (k * 4 + 1) (.int .i64 m.addr)
  have s3 := s2.1.stored (k * 4 + 2) (.int .i64 m.port)
  have s4 := s3.1.stored (k * 4 + 3) (.int .i64 m.seen)
  rw [seR_set zs k m hk] at s4
  exact ⟨s4.1, (gbSE (gbSE (gbSE s1.2 s2.2) s3.2) s4.2)⟩
end Go.Proofs.Ytefeahilamiiaaa
