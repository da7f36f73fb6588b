import Derived.Test.YtnbohdninedjdaaRowEV1
namespace Go.Proofs.Ytnbohdninedjdaa
open Go.ChangeShapes Go.WideShapes Go.ChangeAt Go.RowKit

theorem evR_set (zs : List EV) (k : Nat) (m : EV) (hk : k < zs.length) : (((((evR zs).set (k * 4) (.int .i64 m.t)).set (k * 4 + 1) (.int .i64 m.kind)).set (k * 4 + 2) (.int .i64 m.num)).set (k * 4 + 3) (.int .i64 m.val)) = evR (zs.set k m) := by
  induction zs generalizing k with
  | nil => simp at hk
  | cons z zs ih =>
    have e : evR (z :: zs) = evC z ++ evR zs := rfl
    have hl : (evC z).length = 4 := rfl
    cases k with
    | zero =>
      rw [e, List.set_cons_zero]
      show _ = evC m ++ evR zs
      rfl
    | succ k =>
      rw [e, List.set_cons_succ]
      show _ = evC z ++ evR (zs.set k m)
      rw [List.set_append_right _ _ (by omega), List.set_append_right _ _ (by omega), List.set_append_right _ _ (by omega), List.set_append_right _ _ (by omega), hl,
        show (k + 1) * 4 - 4 = k * 4 by omega, show (k + 1) * 4 + 1 - 4 = k * 4 + 1 by omega, show (k + 1) * 4 + 2 - 4 = k * 4 + 2 by omega, show (k + 1) * 4 + 3 - 4 = k * 4 + 3 by omega, ih k (by simpa using hk)]
theorem gbEV {w0 w u : World} {r : Option Nat} (h : w0.grownBy w r) (hg : w.grownBy u r) : w0.grownBy u r :=
  ⟨hg.os.trans h.os, hg.tape.trans h.tape, hg.output.trans h.output, Nat.le_trans h.size hg.size, fun k hk hn => (hg.block k (Nat.lt_of_lt_of_le hk h.size) hn).trans (h.block k hk hn)⟩
theorem ev_cells {w : World} {B g cap m : Nat} {zs : List EV} (h : w.ownsRow B 46 4 (.slice (some ⟨g, 0, none⟩) m cap) m (evR zs)) (hm : zs.length = m) (k : Nat) (hk : k < zs.length) : ∃ y : EV, w.cell? ⟨g, k * 4, none⟩ = some (.int .i64 y.t) ∧ w.cell? ⟨g, k * 4 + 1, none⟩ = some (.int .i64 y.kind) ∧ w.cell? ⟨g, k * 4 + 2, none⟩ = some (.int .i64 y.num) ∧ w.cell? ⟨g, k * 4 + 3, none⟩ = some (.int .i64 y.val) := by
  subst hm
  rcases EVrow.of h with ⟨e, _⟩ | ⟨g2, o, cap2, hv, _, _, hc⟩
  · rw [e] at hk
    simp at hk
  · injection hv with e1
    injection e1 with e2
    obtain ⟨rfl, rfl⟩ : g = g2 ∧ 0 = o := ⟨congrArg Addr.block e2, congrArg Addr.off e2⟩
    have h3 := hc k hk
    simp only [Nat.zero_add] at h3
    exact ⟨zs[k], h3⟩
/-- An element put. -/
theorem own_setEV {w : World} {B g cap : Nat} {zs : List EV} (h : w.ownsRow B 46 4 (.slice (some ⟨g, 0, none⟩) zs.length cap) zs.length (evR zs)) (k : Nat) (hk : k < zs.length) (m : EV) :
    ((((w.setCell ⟨g, k * 4, none⟩ (.int .i64 m.t)).setCell ⟨g, k * 4 + 1, none⟩ (.int .i64 m.kind)).setCell ⟨g, k * 4 + 2, none⟩ (.int .i64 m.num)).setCell ⟨g, k * 4 + 3, none⟩ (.int .i64 m.val)).ownsRow B 46 4 (.slice (some ⟨g, 0, none⟩) zs.length cap) zs.length (evR (zs.set k m)) ∧
    w.grownBy ((((w.setCell ⟨g, k * 4, none⟩ (.int .i64 m.t)).setCell ⟨g, k * 4 + 1, none⟩ (.int .i64 m.kind)).setCell ⟨g, k * 4 + 2, none⟩ (.int .i64 m.num)).setCell ⟨g, k * 4 + 3, none⟩ (.int .i64 m.val)) (some g) := by
  have s1 := h.stored (k * 4) (.int .i64 m.t)
  have s2 := s1.1.stored (k * 4 + 1) (.int .i64 m.kind)
  have s3 := s2.1.stored (k * 4 + 2) (.int .i64 m.num)
  have s4 := s3.1.stored (k * 4 + 3) (.int .i64 m.val)
  rw [evR_set zs k m hk] at s4
  exact ⟨s4.1, (gbEV (gbEV (gbEV s1.2 s2.2) s3.2) s4.2)⟩
end Go.Proofs.Ytnbohdninedjdaa
