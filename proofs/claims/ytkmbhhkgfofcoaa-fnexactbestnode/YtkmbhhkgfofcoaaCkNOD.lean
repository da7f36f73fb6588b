import Derived.Test.YtkmbhhkgfofcoaaCkL
import Derived.Test.YtkmbhhkgfofcoaaRowNOD1
import Derived.Maps.AppendAt
import Derived.OwnWalk
namespace Go.Proofs.Ytkmbhhkgfofcoaa
open Go.ChangeShapes Go.WideShapes Go.ChangeAt Go.RowKit

set_option maxRecDepth 100000 in
theorem infoNOD : (Try.prog.info? 73).map (fun i => (i.zero, i.size, i.bytes)) = some (some (.agg #[.string ⟨#[]⟩, .int .i64 0, .int .i64 0, .int .i64 0, .int .i64 0, .bool false, .bool false]), 7, 56) := by kernel_rfl
theorem nodR_one (zs : List NOD) : ∀ u ∈ nodR zs, u.oneCell' = true := by
  intro u hu
  unfold nodR at hu
  rw [List.mem_flatMap] at hu
  obtain ⟨m, _, hm⟩ := hu
  simp [nodC] at hm
  rcases hm with rfl | rfl | rfl | rfl | rfl | rfl | rfl <;> rfl
theorem nodR_cells {w : World} {a : Addr} {n cap : Nat} {zs : List NOD} (h : NODrow w (.slice (some a) n cap) zs) : ∀ j u, (nodR zs)[j]? = some u → w.cell? (a.add j) = some u := by
  intro j u hj
  rcases h with ⟨rfl, _⟩ | ⟨g, o, c1, hv, hc, hg, ha⟩
  · simp [nodR] at hj
  · injection hv with q1
    injection q1 with q2
    subst q2
    have hjl : j < zs.length * 7 := by
      have := (List.getElem?_eq_some_iff.1 hj).1
      rw [nodR_len] at this
      exact this
    have hk : j / 7 < zs.length := by omega
    have e1 := nodR_at zs (j / 7) hk (j % 7) (by omega)
    rw [show j / 7 * 7 + j % 7 = j by omega, hj] at e1
    obtain ⟨b0, b1, b2, b3, b4, b5, b6⟩ := ha (j / 7) hk
    rw [Addr.add_lit]
    obtain h2 | h2 | h2 | h2 | h2 | h2 | h2 : j % 7 = 0 ∨ j % 7 = 1 ∨ j % 7 = 2 ∨ j % 7 = 3 ∨ j % 7 = 4 ∨ j % 7 = 5 ∨ j % 7 = 6 := by omega
    · rw [h2] at e1
      rw [show o + j = o + j / 7 * 7 by omega, b0, e1]
      rfl
    · rw [h2] at e1
      rw [show o + j = o + j / 7 * 7 + 1 by omega, b1, e1]
      rfl
    · rw [h2] at e1
      rw [show o + j = o + j / 7 * 7 + 2 by omega, b2, e1]
      rfl
    · rw [h2] at e1
      rw [show o + j = o + j / 7 * 7 + 3 by omega, b3, e1]
      rfl
    · rw [h2] at e1
      rw [show o + j = o + j / 7 * 7 + 4 by omega, b4, e1]
      rfl
    · rw [h2] at e1
      rw [show o + j = o + j / 7 * 7 + 5 by omega, b5, e1]
      rfl
    · rw [h2] at e1
      rw [show o + j = o + j / 7 * 7 + 6 by omega, b6, e1]
      rfl
set_option maxRecDepth 100000 in
theorem appNOD {w : World} {B : Nat} {v : Value} {xs : List NOD} (H0 : w.ownsRow B 73 7 v xs.length (nodR xs)) {ao : Option Addr} {cap : Nat} {zs : List NOD} (h : NODrow w (.slice ao zs.length cap) zs) (hl : xs.length + zs.length ≤ 1048576) (hB : B ≤ w.heap.size) : ∃ v' u', (Builtin.append_ #[29, 29] 29 #[v, .slice ao zs.length cap]).run Try.prog w = .ok v' u' ∧ (u'.ownsRow B 73 7 v' (xs ++ zs).length (nodR (xs ++ zs)) ∧ w.grownBy u' v.ownBlock) := by
  obtain ⟨i0, hi0, hz0, hz1, hz2⟩ := info_parts infoNOD
  cases ao with
  | none =>
    have hz : zs = [] := by
      rcases h with ⟨q, _⟩ | ⟨g, o, c1, hv, _⟩
      · exact q
      · injection hv with q1
        cases q1
    subst hz
    refine ⟨v, w, ?_, by rw [List.append_nil]; exact H0, ⟨rfl, rfl, rfl, Nat.le_refl _, fun _ _ _ => rfl⟩⟩
    have hcap : ∃ a0 c0, v = .slice a0 xs.length c0 ∧ xs.length ≤ c0 := by
      obtain ⟨a0, c0, rfl⟩ := nod_sl H0
      refine ⟨a0, c0, rfl, ?_⟩
      rcases H0 with ⟨_, h | ⟨g, c, cur, hv, _, _, hle, _⟩⟩
      · obtain ⟨h1, _⟩ := h
        injection h1 with _ q2 q3
        omega
      · injection hv with _ q2 q3
        omega
    obtain ⟨a0, c0, rfl, hc0⟩ := hcap
    simp [hc0, Builtin.append_, run_underlying Try.underlying29, sizeOf, typeInfo, hi0, Builtin.lenOf, Builtin.firstCells, storeCells]
    cases a0 <;> rfl
  | some a =>
    obtain ⟨v', w', hr, h2, h3, _, _⟩ := run_append_own_at (P := Try.prog) w B 29 29 73 i0 (.agg #[.string ⟨#[]⟩, .int .i64 0, .int .i64 0, .int .i64 0, .int .i64 0, .bool false, .bool false]) 7 56 Try.underlying29 hi0 hz0 hz1 hz2 rfl (by decide) v xs.length (nodR xs) H0 a zs.length cap (nodR zs) (nodR_len zs) (nodR_cells h) (nodR_one zs) (by unfold maxLen; omega) (by omega) hB
    exact ⟨v', w', hr, by rw [List.length_append, nodR_app]; exact h2, h3⟩
set_option maxRecDepth 100000 in
theorem eqNilNOD (n c : Nat) (w : World) : Sem.run Try.prog (binOp BinOp.eql 29 (.slice none n c) (.slice none 0 0)) w = .ok (.bool true) w := by kernel_rfl
set_option maxRecDepth 100000 in
theorem neNilNOD (a : Addr) (n c : Nat) (w : World) : Sem.run Try.prog (binOp BinOp.eql 29 (.slice (some a) n c) (.slice none 0 0)) w = .ok (.bool false) w := by kernel_rfl
theorem ownNoneNOD (w : World) : (w.alloc (.cells #[] 73)).ownsRow w.heap.size 73 7 (.slice (some ⟨w.heap.size, 0, none⟩) 0 0) 0 [] := World.ownsRow_lit _ #[] 0 (by simp) (by decide) rfl
theorem appNOD0 {w : World} {ao : Option Addr} {cap : Nat} {zs : List NOD} (h : NODrow w (.slice ao zs.length cap) zs) (hl : zs.length ≤ 1048576) : ∃ v' u', (Builtin.append_ #[29, 29] 29 #[.slice (some ⟨w.heap.size, 0, none⟩) 0 0, .slice ao zs.length cap]).run Try.prog (w.alloc (.cells #[] 73)) = .ok v' u' ∧ (u'.ownsRow w.heap.size 73 7 v' zs.length (nodR zs) ∧ (w.alloc (.cells #[] 73)).grownBy u' (some w.heap.size)) := by
  obtain ⟨v', u', h1, h2, h3⟩ := appNOD (xs := []) (ownNoneNOD w) (h.below (bx1 _ _)) (by simpa using hl) (by simp)
  exact ⟨v', u', h1, h2, h3⟩
set_option maxRecDepth 100000 in
set_option maxHeartbeats 4000000 in
theorem cloneNOD_any {w : World} {v : Value} {zs : List NOD} (h : NODrow w v zs) (hl : zs.length ≤ 1048576) : Calls Try.prog 57 #[v] w fun e w' => ∃ u, e = .returned u ∧ w'.ownsRow w.heap.size 73 7 u zs.length (nodR zs) ∧ Below w.heap.size w w' := by
  obtain ⟨ao, cap, rfl⟩ := h.sl
  have n1 := eqNilNOD
  have n2 := neNilNOD
  have HAP : Hid _ := appNOD0 h hl
  cases ao with
  | none =>
    have hz : zs = [] := by
      rcases h with ⟨q, _⟩ | ⟨g, o, c1, hv, _⟩
      · exact q
      · injection hv with q1
        cases q1
    subst hz
    clear h hl HAP
    go_enter Try.func57, Try.ntmps57
    go_wp2
    go_ret
    exact ⟨_, rfl, World.ownsRow_nil _ _ _ _, Below.refl _ _⟩
  | some a =>
    clear h
    go_enter Try.func57, Try.ntmps57
    go_wp2_with (at_builtin; (refine wl_append_ex rfl _ _ 29 rfl _ _ rfl rfl HAP.out ?_; rintro v' u' ⟨ho, hg⟩; have HO : Hid (u'.ownsRow w.heap.size 73 7 v' zs.length (nodR zs)) := ho; have HG : Hid (Below w.heap.size w u') := ((Below.refl w.heap.size w).alloc (Nat.le_refl _) _).grown hg (by simp) (fun j hj => by cases hj; exact Nat.le_refl _); clear ho hg HAP))
    go_ret
    exact ⟨_, rfl, HO.out, HG.out⟩
end Go.Proofs.Ytkmbhhkgfofcoaa
