import Derived.Test.YtkicaihfknfgkaaDoorRowVMC1
namespace Go.Proofs.YtkicaihfknfgkaaDoor
open Go.ChangeShapes Go.WideShapes Go.ChangeAt Go.RowKit

theorem vmcR_set (zs : List VMC) (k : Nat) (m : VMC) (hk : k < zs.length) : (((((((((vmcR zs).set (k * 8) (.string m.name)).set (k * 8 + 1) (.int .i64 m.tenant)).set (k * 8 + 2) (.int .i64 m.cpu)).set (k * 8 + 3) (.int .i64 m.mem)).set (k * 8 + 4) (.int .i64 m.zone)).set (k * 8 + 5) (.int .i64 m.apart)).set (k * 8 + 6) (.string m.node)).set (k * 8 + 7) (.int .i64 m.epoch)) = vmcR (zs.set k m) := by
  induction zs generalizing k with
  | nil => simp at hk
  | cons z zs ih =>
    have e : vmcR (z :: zs) = vmcC z ++ vmcR zs := rfl
    have hl : (vmcC z).length = 8 := rfl
    cases k with
    | zero =>
      rw [e, List.set_cons_zero]
      show _ = vmcC m ++ vmcR zs
      rfl
    | succ k =>
      rw [e, List.set_cons_succ]
      show _ = vmcC z ++ vmcR (zs.set k m)
      rw [List.set_append_right _ _ (by omega), List.set_append_right _ _ (by omega), List.set_append_right _ _ (by omega), List.set_append_right _ _ (by omega), List.set_append_right _ _ (by omega), List.set_append_right _ _ (by omega), List.set_append_right _ _ (by omega), List.set_append_right _ _ (by omega), hl,
        show (k + 1) * 8 - 8 = k * 8 by omega, show (k + 1) * 8 + 1 - 8 = k * 8 + 1 by omega, show (k + 1) * 8 + 2 - 8 = k * 8 + 2 by omega, show (k + 1) * 8 + 3 - 8 = k * 8 + 3 by omega, show (k + 1) * 8 + 4 - 8 = k * 8 + 4 by omega, show (k + 1) * 8 + 5 - 8 = k * 8 + 5 by omega, show (k + 1) * 8 + 6 - 8 = k * 8 + 6 by omega, show (k + 1) * 8 + 7 - 8 = k * 8 + 7 by omega, ih k (by simpa using hk)]
theorem gbVMC {w0 w u : World} {r : Option Nat} (h : w0.grownBy w r) (hg : w.grownBy u r) : w0.grownBy u r :=
  ⟨hg.os.trans h.os, hg.tape.trans h.tape, hg.output.trans h.output, Nat.le_trans h.size hg.size, fun k hk hn => (hg.block k (Nat.lt_of_lt_of_le hk h.size) hn).trans (h.block k hk hn)⟩
theorem vmc_cells {w : World} {B g cap m : Nat} {zs : List VMC} (h : w.ownsRow B 23 8 (.slice (some ⟨g, 0, none⟩) m cap) m (vmcR zs)) (hm : zs.length = m) (k : Nat) (hk : k < zs.length) : ∃ y : VMC, w.cell? ⟨g, k * 8, none⟩ = some (.string y.name) ∧ w.cell? ⟨g, k * 8 + 1, none⟩ = some (.int .i64 y.tenant) ∧ w.cell? ⟨g, k * 8 + 2, none⟩ = some (.int .i64 y.cpu) ∧ w.cell? ⟨g, k * 8 + 3, none⟩ = some (.int .i64 y.mem) ∧ w.cell? ⟨g, k * 8 + 4, none⟩ = some (.int .i64 y.zone) ∧ w.cell? ⟨g, k * 8 + 5, none⟩ = some (.int .i64 y.apart) ∧ w.cell? ⟨g, k * 8 + 6, none⟩ = some (.string y.node) ∧ w.cell? ⟨g, k * 8 + 7, none⟩ = some (.int .i64 y.epoch) := by
  subst hm
  rcases VMCrow.of h with ⟨e, _⟩ | ⟨g2, o, cap2, hv, _, _, hc⟩
  · rw [e] at hk
    simp at hk
  · injection hv with e1
    injection e1 with e2
    obtain ⟨rfl, rfl⟩ : g = g2 ∧ 0 = o := ⟨congrArg Addr.block e2, congrArg Addr.off e2⟩
    have h3 := hc k hk
    simp only [Nat.zero_add] at h3
    exact ⟨zs[k], h3⟩
/-- An element put. -/
theorem own_setVMC {w : World} {B g cap : Nat} {zs : List VMC} (h : w.ownsRow B 23 8 (.slice (some ⟨g, 0, none⟩) zs.length cap) zs.length (vmcR zs)) (k : Nat) (hk : k < zs.length) (m : VMC) :
    ((((((((w.setCell ⟨g, k * 8, none⟩ (.string m.name)).setCell ⟨g, k * 8 + 1, none⟩ (.int .i64 m.tenant)).setCell ⟨g, k * 8 + 2, none⟩ (.int .i64 m.cpu)).setCell ⟨g, k * 8 + 3, none⟩ (.int .i64 m.mem)).setCell ⟨g, k * 8 + 4, none⟩ (.int .i64 m.zone)).setCell ⟨g, k * 8 + 5, none⟩ (.int .i64 m.apart)).setCell ⟨g, k * 8 + 6, none⟩ (.string m.node)).setCell ⟨g, k * 8 + 7, none⟩ (.int .i64 m.epoch)).ownsRow B 23 8 (.slice (some ⟨g, 0, none⟩) zs.length cap) zs.length (vmcR (zs.set k m)) ∧
    w.grownBy ((((((((w.setCell ⟨g, k * 8, none⟩ (.string m.name)).setCell ⟨g, k * 8 + 1, none⟩ (.int .i64 m.tenant)).setCell ⟨g, k * 8 + 2, none⟩ (.int .i64 m.cpu)).setCell ⟨g, k * 8 + 3, none⟩ (.int .i64 m.mem)).setCell ⟨g, k * 8 + 4, none⟩ (.int .i64 m.zone)).setCell ⟨g, k * 8 + 5, none⟩ (.int .i64 m.apart)).setCell ⟨g, k * 8 + 6, none⟩ (.string m.node)).setCell ⟨g, k * 8 + 7, none⟩ (.int .i64 m.epoch)) (some g) := by
  have s1 := h.stored (k * 8) (.string m.name)
  have s2 := s1.1.stored (k * 8 + 1) (.int .i64 m.tenant)
  have s3 := s2.1.stored (k * 8 + 2) (.int .i64 m.cpu)
  have s4 := s3.1.stored (k * 8 + 3) (.int .i64 m.mem)
  have s5 := s4.1.stored (k * 8 + 4) (.int .i64 m.zone)
  have s6 := s5.1.stored (k * 8 + 5) (.int .i64 m.apart)
  have s7 := s6.1.stored (k * 8 + 6) (.string m.node)
  have s8 := s7.1.stored (k * 8 + 7) (.int .i64 m.epoch)
  rw [vmcR_set zs k m hk] at s8
  exact ⟨s8.1, (gbVMC (gbVMC (gbVMC (gbVMC (gbVMC (gbVMC (gbVMC s1.2 s2.2) s3.2) s4.2) s5.2) s6.2) s7.2) s8.2)⟩
end Go.Proofs.YtkicaihfknfgkaaDoor
