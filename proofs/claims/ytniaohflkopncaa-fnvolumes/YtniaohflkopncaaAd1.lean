import Derived.Test.YtniaohflkopncaaVm4
import Derived.Test.YtniaohflkopncaaOv2
import Derived.Maps.AppendAt
import Derived.OwnWalk
namespace Go.Proofs.Ytniaohflkopncaa
open Go.ChangeShapes Go.WideShapes Go.ChangeAt Go.RowKit

set_option maxRecDepth 100000 in
theorem infoKS : (Try.prog.info? 70).map (fun i => (i.zero, i.size, i.bytes)) = some (some (.agg #[.int .i64 0, .string ⟨#[]⟩, .string ⟨#[]⟩]), 3, 40) := by kernel_rfl
theorem ksR_one (zs : List KS) : ∀ u ∈ ksR zs, u.oneCell' = true := by
  intro u hu
  unfold ksR at hu
  rw [List.mem_flatMap] at hu
  obtain ⟨m, _, hm⟩ := hu
  simp [ksC] at hm
  rcases hm with rfl | rfl | rfl <;> rfl
theorem ksR_cells {w : World} {a : Addr} {n cap : Nat} {zs : List KS} (h : KSrow w (.slice (some a) n cap) zs) : ∀ j u, (ksR zs)[j]? = some u → w.cell? (a.add j) = some u := by
  intro j u hj
  rcases h with ⟨rfl, _⟩ | ⟨g, o, c1, hv, hc, hg, ha⟩
  · simp [ksR] at hj
  · injection hv with q1
    injection q1 with q2
    subst q2
    have hjl : j < zs.length * 3 := by
      have := (List.getElem?_eq_some_iff.1 hj).1
      rw [ksR_len] at this
      exact this
    have hk : j / 3 < zs.length := by omega
    have e1 := ksR_at zs (j / 3) hk (j % 3) (by omega)
    rw [show j / 3 * 3 + j % 3 = j by omega, hj] at e1
    obtain ⟨b0, b1, b2⟩ := ha (j / 3) hk
    rw [Addr.add_lit]
    obtain h2 | h2 | h2 : j % 3 = 0 ∨ j % 3 = 1 ∨ j % 3 = 2 := by omega
    · rw [h2] at e1
      rw [show o + j = o + j / 3 * 3 by omega, b0, e1]
      rfl
    · rw [h2] at e1
      rw [show o + j = o + j / 3 * 3 + 1 by omega, b1, e1]
      rfl
    · rw [h2] at e1
      rw [show o + j = o + j / 3 * 3 + 2 by omega, b2, e1]
      rfl
set_option maxRecDepth 100000 in
theorem appK {w : World} {B : Nat} {v : Value} {xs : List KS} (H0 : w.ownsRow B 70 3 v xs.length (ksR xs)) {ao : Option Addr} {cap : Nat} {zs : List KS} (h : KSrow w (.slice ao zs.length cap) zs) (hl : xs.length + zs.length ≤ 1048576) (hB : B ≤ w.heap.size) : ∃ v' u', (Builtin.append_ #[25, 25] 25 #[v, .slice ao zs.length cap]).run Try.prog w = .ok v' u' ∧ (u'.ownsRow B 70 3 v' (xs ++ zs).length (ksR (xs ++ zs)) ∧ w.grownBy u' v.ownBlock) := by
  obtain ⟨i0, hi0, hz0, hz1, hz2⟩ := info_parts infoKS
  cases ao with
  | none =>
    have hz : zs = [] := by
      rcases h with ⟨q, _⟩ | ⟨g, o, c1, hv, _⟩
      · exact q
      · injection hv with q1
        cases q1
    subst hz
    refine ⟨v, w, ?_, by rw [List.append_nil]; exact H0, ⟨rfl, rfl, rfl, Nat.le_refl _, fun _ _ _ => rfl⟩⟩
    have hcap : ∃ a0 c0, v = .slice a0 xs.length c0 ∧ xs.length ≤ c0 := by
      obtain ⟨a0, c0, rfl⟩ := ks_sl H0
      refine ⟨a0, c0, rfl, ?_⟩
      rcases H0 with ⟨_, h | ⟨g, c, cur, hv, _, _, hle, _⟩⟩
      · obtain ⟨h1, _⟩ := h
        injection h1 with _ q2 q3
        omega
      · injection hv with _ q2 q3
        omega
    obtain ⟨a0, c0, rfl, hc0⟩ := hcap
    simp [hc0, Builtin.append_, run_underlying Try.underlying25, sizeOf, typeInfo, hi0, Builtin.lenOf, Builtin.firstCells, storeCells]
    cases a0 <;> rfl
  | some a =>
    obtain ⟨v', w', hr, h2, h3, _, _⟩ := run_append_own_at (P := Try.prog) w B 25 25 70 i0 (.agg #[.int .i64 0, .string ⟨#[]⟩, .string ⟨#[]⟩]) 3 40 Try.underlying25 hi0 hz0 hz1 hz2 rfl (by decide) v xs.length (ksR xs) H0 a zs.length cap (ksR zs) (ksR_len zs) (ksR_cells h) (ksR_one zs) (by unfold maxLen; omega) (by omega) hB
    exact ⟨v', w', hr, by rw [List.length_append, ksR_app]; exact h2, h3⟩
end Go.Proofs.Ytniaohflkopncaa
