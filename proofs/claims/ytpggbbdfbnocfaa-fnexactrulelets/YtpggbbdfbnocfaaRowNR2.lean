import Derived.Test.YtpggbbdfbnocfaaRowNR1
namespace Go.Proofs.Ytpggbbdfbnocfaa
open Go.ChangeShapes Go.WideShapes Go.ChangeAt Go.RowKit

theorem nrR_set (zs : List NR) (k : Nat) (m : NR) (hk : k < zs.length) : ((((((((nrR zs).set (k * 7) (.bool m.inn)).set (k * 7 + 1) (.int .i64 m.proto)).set (k * 7 + 2) (.int .i64 m.addr)).set (k * 7 + 3) (.int .i64 m.bits)).set (k * 7 + 4) (.int .i64 m.low)).set (k * 7 + 5) (.int .i64 m.high)).set (k * 7 + 6) (.int .i64 m.group)) = nrR (zs.set k m) := by
  induction zs generalizing k with
  | nil => simp at hk
  | cons z zs ih =>
    have e : nrR (z :: zs) = nrC z ++ nrR zs := rfl
    have hl : (nrC z).length = 7 := rfl
    cases k with
    | zero =>
      rw [e, List.set_cons_zero]
      show _ = nrC m ++ nrR zs
      rfl
    | succ k =>
      rw [e, List.set_cons_succ]
      show _ = nrC z ++ nrR (zs.set k m)
      rw [List.set_append_right _ _ (by omega), List.set_append_right _ _ (by omega), List.set_append_right _ _ (by omega), List.set_append_right _ _ (by omega), List.set_append_right _ _ (by omega), List.set_append_right _ _ (by omega), List.set_append_right _ _ (by omega), hl,
        show (k + 1) * 7 - 7 = k * 7 by omega, show (k + 1) * 7 + 1 - 7 = k * 7 + 1 by omega, show (k + 1) * 7 + 2 - 7 = k * 7 + 2 by omega, show (k + 1) * 7 + 3 - 7 = k * 7 + 3 by omega, show (k + 1) * 7 + 4 - 7 = k * 7 + 4 by omega, show (k + 1) * 7 + 5 - 7 = k * 7 + 5 by omega, show (k + 1) * 7 + 6 - 7 = k * 7 + 6 by omega, ih k (by simpa using hk)]
theorem gbNR {w0 w u : World} {r : Option Nat} (h : w0.grownBy w r) (hg : w.grownBy u r) : w0.grownBy u r :=
  ⟨hg.os.trans h.os, hg.tape.trans h.tape, hg.output.trans h.output, Nat.le_trans h.size hg.size, fun k hk hn => (hg.block k (Nat.lt_of_lt_of_le hk h.size) hn).trans (h.block k hk hn)⟩
theorem nr_cells {w : World} {B g cap m : Nat} {zs : List NR} (h : w.ownsRow B 44 7 (.slice (some ⟨g, 0, none⟩) m cap) m (nrR zs)) (hm : zs.length = m) (k : Nat) (hk : k < zs.length) : ∃ y : NR, w.cell? ⟨g, k * 7, none⟩ = some (.bool y.inn) ∧ w.cell? ⟨g, k * 7 + 1, none⟩ = some (.int .i64 y.proto) ∧ w.cell? ⟨g, k * 7 + 2, none⟩ = some (.int .i64 y.addr) ∧ w.cell? ⟨g, k * 7 + 3, none⟩ = some (.int .i64 y.bits) ∧ w.cell? ⟨g, k * 7 + 4, none⟩ = some (.int .i64 y.low) ∧ w.cell? ⟨g, k * 7 + 5, none⟩ = some (.int .i64 y.high) ∧ w.cell? ⟨g, k * 7 + 6, none⟩ = some (.int .i64 y.group) := by
  subst hm
  rcases NRrow.of h with ⟨e, _⟩ | ⟨g2, o, cap2, hv, _, _, hc⟩
  · rw [e] at hk
    simp at hk
  · injection hv with e1
    injection e1 with e2
    obtain ⟨rfl, rfl⟩ : g = g2 ∧ 0 = o := ⟨congrArg Addr.block e2, congrArg Addr.off e2⟩
    have h3 := hc k hk
    simp only [Nat.zero_add] at h3
    exact ⟨zs[k], h3⟩
/-- An element put. -/
theorem own_setNR {w : World} {B g cap : Nat} {zs : List NR} (h : w.ownsRow B 44 7 (.slice (some ⟨g, 0, none⟩) zs.length cap) zs.length (nrR zs)) (k : Nat) (hk : k < zs.length) (m : NR) :
    (((((((w.setCell ⟨g, k * 7, none⟩ (.bool m.inn)).setCell ⟨g, k * 7 + 1, none⟩ (.int .i64 m.proto)).setCell ⟨g, k * 7 + 2, none⟩ (.int .i64 m.addr)).setCell ⟨g, k * 7 + 3, none⟩ (.int .i64 m.bits)).setCell ⟨g, k * 7 + 4, none⟩ (.int .i64 m.low)).setCell ⟨g, k * 7 + 5, none⟩ (.int .i64 m.high)).setCell ⟨g, k * 7 + 6, none⟩ (.int .i64 m.group)).ownsRow B 44 7 (.slice (some ⟨g, 0, none⟩) zs.length cap) zs.length (nrR (zs.set k m)) ∧
    w.grownBy (((((((w.setCell ⟨g, k * 7, none⟩ (.bool m.inn)).setCell ⟨g, k * 7 + 1, none⟩ (.int .i64 m.proto)).setCell ⟨g, k * 7 + 2, none⟩ (.int .i64 m.addr)).setCell ⟨g, k * 7 + 3, none⟩ (.int .i64 m.bits)).setCell ⟨g, k * 7 + 4, none⟩ (.int .i64 m.low)).setCell ⟨g, k * 7 + 5, none⟩ (.int .i64 m.high)).setCell ⟨g, k * 7 + 6, none⟩ (.int .i64 m.group)) (some g) := by
  have s1 := h.stored (k * 7) (.bool m.inn)
  have s2 := s1.1.stored (k * 7 + 1) (.int .i64 m.proto)
  have s3 := s2.1.stored (k * 7 + 2) (.int .i64 m.addr)
  have s4 := s3.1.stored (k * 7 + 3) (.int .i64 m.bits)
  have s5 := s4.1.stored (k * 7 + 4) (.int .i64 m.low)
  have s6 := s5.1.stored (k * 7 + 5) (.int .i64 m.high)
  have s7 := s6.1.stored (k * 7 + 6) (.int .i64 m.group)
  rw [nrR_set zs k m hk] at s7
  exact ⟨s7.1, (gbNR (gbNR (gbNR (gbNR (gbNR (gbNR s1.2 s2.2) s3.2) s4.2) s5.2) s6.2) s7.2)⟩
end Go.Proofs.Ytpggbbdfbnocfaa
