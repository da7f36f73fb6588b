import Derived.Test.YtpggbbdfbnocfaaRowFW1
namespace Go.Proofs.Ytpggbbdfbnocfaa
open Go.ChangeShapes Go.WideShapes Go.ChangeAt Go.RowKit

theorem fwR_set (zs : List FW) (k : Nat) (m : FW) (hk : k < zs.length) : (((((fwR zs).set (k * 4) (.int .i64 m.proto)).set (k * 4 + 1) (.int .i64 m.port)).set (k * 4 + 2) (.int .i64 m.addr)).set (k * 4 + 3) (.int .i64 m.tp)) = fwR (zs.set k m) := by
  induction zs generalizing k with
  | nil => simp at hk
  | cons z zs ih =>
    have e : fwR (z :: zs) = fwC z ++ fwR zs := rfl
    have hl : (fwC z).length = 4 := rfl
    cases k with
    | zero =>
      rw [e, List.set_cons_zero]
      show _ = fwC m ++ fwR zs
      rfl
    | succ k =>
      rw [e, List.set_cons_succ]
      show _ = fwC z ++ fwR (zs.set k m)
      rw [List.set_append_right _ _ (by omega), List.set_append_right _ _ (by omega), List.set_append_right _ _ (by omega), List.set_append_right _ _ (by omega), hl,
        show (k + 1) * 4 - 4 = k * 4 by omega, show (k + 1) * 4 + 1 - 4 = k * 4 + 1 by omega, show (k + 1) * 4 + 2 - 4 = k * 4 + 2 by omega, show (k + 1) * 4 + 3 - 4 = k * 4 + 3 by omega, ih k (by simpa using hk)]
theorem gbFW {w0 w u : World} {r : Option Nat} (h : w0.grownBy w r) (hg : w.grownBy u r) : w0.grownBy u r :=
  ⟨hg.os.trans h.os, hg.tape.trans h.tape, hg.output.trans h.output, Nat.le_trans h.size hg.size, fun k hk hn => (hg.block k (Nat.lt_of_lt_of_le hk h.size) hn).trans (h.block k hk hn)⟩
theorem fw_cells {w : World} {B g cap m : Nat} {zs : List FW} (h : w.ownsRow B 56 4 (.slice (some ⟨g, 0, none⟩) m cap) m (fwR zs)) (hm : zs.length = m) (k : Nat) (hk : k < zs.length) : ∃ y : FW, w.cell? ⟨g, k * 4, none⟩ = some (.int .i64 y.proto) ∧ w.cell? ⟨g, k * 4 + 1, none⟩ = some (.int .i64 y.port) ∧ w.cell? ⟨g, k * 4 + 2, none⟩ = some (.int .i64 y.addr) ∧ w.cell? ⟨g, k * 4 + 3, none⟩ = some (.int .i64 y.tp) := by
  subst hm
  rcases FWrow.of h with ⟨e, _⟩ | ⟨g2, o, cap2, hv, _, _, hc⟩
  · rw [e] at hk
    simp at hk
  · injection hv with e1
    injection e1 with e2
    obtain ⟨rfl, rfl⟩ : g = g2 ∧ 0 = o := ⟨congrArg Addr.block e2, congrArg Addr.off e2⟩
    have h3 := hc k hk
    simp only [Nat.zero_add] at h3
    exact ⟨zs[k], h3⟩
/-- An element put. -/
theorem own_setFW {w : World} {B g cap : Nat} {zs : List FW} (h : w.ownsRow B 56 4 (.slice (some ⟨g, 0, none⟩) zs.length cap) zs.length (fwR zs)) (k : Nat) (hk : k < zs.length) (m : FW) :
    ((((w.setCell ⟨g, k * 4, none⟩ (.int .i64 m.proto)).setCell ⟨g, k * 4 + 1, none⟩ (.int .i64 m.port)).setCell ⟨g, k * 4 + 2, none⟩ (.int .i64 m.addr)).setCell ⟨g, k * 4 + 3, none⟩ (.int .i64 m.tp)).ownsRow B 56 4 (.slice (some ⟨g, 0, none⟩) zs.length cap) zs.length (fwR (zs.set k m)) ∧
    w.grownBy ((((w.setCell ⟨g, k * 4, none⟩ (.int .i64 m.proto)).setCell ⟨g, k * 4 + 1, none⟩ (.int .i64 m.port)).setCell ⟨g, k * 4 + 2, none⟩ (.int .i64 m.addr)).setCell ⟨g, k * 4 + 3, none⟩ (.int .i64 m.tp)) (some g) := by
  have s1 := h.stored (k * 4) (.int .i64 m.proto)
  have s2 := s1.1.stored (k * 4 + 1) (.int .i64 m.port)
  have s3 := s2.1.stored (k * 4 + 2) (.int .i64 m.addr)
  have s4 := s3.1.stored (k * 4 + 3) (.int .i64 m.tp)
  rw [fwR_set zs k m hk] at s4
  exact ⟨s4.1, (gbFW (gbFW (gbFW s1.2 s2.2) s3.2) s4.2)⟩
end Go.Proofs.Ytpggbbdfbnocfaa
