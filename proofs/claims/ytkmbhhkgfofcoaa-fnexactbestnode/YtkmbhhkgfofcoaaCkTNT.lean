import Derived.Test.YtkmbhhkgfofcoaaCkL
import Derived.Test.YtkmbhhkgfofcoaaRowTNT1
import Derived.Maps.AppendAt
import Derived.OwnWalk
namespace Go.Proofs.Ytkmbhhkgfofcoaa
open Go.ChangeShapes Go.WideShapes Go.ChangeAt Go.RowKit

set_option maxRecDepth 100000 in
theorem infoTNT : (Try.prog.info? 54).map (fun i => (i.zero, i.size, i.bytes)) = some (some (.agg #[.int .i64 0, .int .i64 0, .int .i64 0]), 3, 24) := by kernel_rfl
theorem tntR_one (zs : List TNT) : ∀ u ∈ tntR zs, u.oneCell' = true := by
  intro u hu
  unfold tntR at hu
  rw [List.mem_flatMap] at hu
  obtain ⟨m, _, hm⟩ := hu
  simp [tntC] at hm
  rcases hm with rfl | rfl | rfl <;> rfl
theorem tntR_cells {w : World} {a : Addr} {n cap : Nat} {zs : List TNT} (h : TNTrow w (.slice (some a) n cap) zs) : ∀ j u, (tntR zs)[j]? = some u → w.cell? (a.add j) = some u := by
  intro j u hj
  rcases h with ⟨rfl, _⟩ | ⟨g, o, c1, hv, hc, hg, ha⟩
  · simp [tntR] at hj
  · injection hv with q1
    injection q1 with q2
    subst q2
    have hjl : j < zs.length * 3 := by
      have := (List.getElem?_eq_some_iff.1 hj).1
      rw [tntR_len] at this
      exact this
    have hk : j / 3 < zs.length := by omega
    have e1 := tntR_at zs (j / 3) hk (j % 3) (by omega)
    rw [show j / 3 * 3 + j % 3 = j by omega, hj] at e1
    obtain ⟨b0, b1, b2⟩ := ha (j / 3) hk
    rw [Addr.add_lit]
    obtain h2 | h2 | h2 : j % 3 = 0 ∨ j % 3 = 1 ∨ j % 3 = 2 := by omega
    · rw [h2] at e1
      rw [show o + j = o + j / 3 * 3 by omega, b0, e1]
      rfl
    · rw [h2] at e1
      rw [show o + j = o + j / 3 * 3 + 1 by omega, b1, e1]
      rfl
    · rw [h2] at e1
      rw [show o + j = o + j / 3 * 3 + 2 by omega, b2, e1]
      rfl
set_option maxRecDepth 100000 in
theorem appTNT {w : World} {B : Nat} {v : Value} {xs : List TNT} (H0 : w.ownsRow B 54 3 v xs.length (tntR xs)) {ao : Option Addr} {cap : Nat} {zs : List TNT} (h : TNTrow w (.slice ao zs.length cap) zs) (hl : xs.length + zs.length ≤ 1048576) (hB : B ≤ w.heap.size) : ∃ v' u', (Builtin.append_ #[31, 31] 31 #[v, .slice ao zs.length cap]).run Try.prog w = .ok v' u' ∧ (u'.ownsRow B 54 3 v' (xs ++ zs).length (tntR (xs ++ zs)) ∧ w.grownBy u' v.ownBlock) := by
  obtain ⟨i0, hi0, hz0, hz1, hz2⟩ := info_parts infoTNT
  cases ao with
  | none =>
    have hz : zs = [] := by
      rcases h with ⟨q, _⟩ | ⟨g, o, c1, hv, _⟩
      · exact q
      · injection hv with q1
        cases q1
    subst hz
    refine ⟨v, w, ?_, by rw [List.append_nil]; exact H0, ⟨rfl, rfl, rfl, Nat.le_refl _, fun _ _ _ => rfl⟩⟩
    have hcap : ∃ a0 c0, v = .slice a0 xs.length c0 ∧ xs.length ≤ c0 := by
      obtain ⟨a0, c0, rfl⟩ := tnt_sl H0
      refine ⟨a0, c0, rfl, ?_⟩
      rcases H0 with ⟨_, h | ⟨g, c, cur, hv, _, _, hle, _⟩⟩
      · obtain ⟨h1, _⟩ := h
        injection h1 with _ q2 q3
        omega
      · injection hv with _ q2 q3
        omega
    obtain ⟨a0, c0, rfl, hc0⟩ := hcap
    simp [hc0, Builtin.append_, run_underlying Try.underlying31, sizeOf, typeInfo, hi0, Builtin.lenOf, Builtin.firstCells, storeCells]
    cases a0 <;> rfl
  | some a =>
    obtain ⟨v', w', hr, h2, h3, _, _⟩ := run_append_own_at (P := Try.prog) w B 31 31 54 i0 (.agg #[.int .i64 0, .int .i64 0, .int .i64 0]) 3 24 Try.underlying31 hi0 hz0 hz1 hz2 rfl (by decide) v xs.length (tntR xs) H0 a zs.length cap (tntR zs) (tntR_len zs) (tntR_cells h) (tntR_one zs) (by unfold maxLen; omega) (by omega) hB
    exact ⟨v', w', hr, by rw [List.length_append, tntR_app]; exact h2, h3⟩
set_option maxRecDepth 100000 in
theorem eqNilTNT (n c : Nat) (w : World) : Sem.run Try.prog (binOp BinOp.eql 31 (.slice none n c) (.slice none 0 0)) w = .ok (.bool true) w := by kernel_rfl
set_option maxRecDepth 100000 in
theorem neNilTNT (a : Addr) (n c : Nat) (w : World) : Sem.run Try.prog (binOp BinOp.eql 31 (.slice (some a) n c) (.slice none 0 0)) w = .ok (.bool false) w := by kernel_rfl
theorem ownNoneTNT (w : World) : (w.alloc (.cells #[] 54)).ownsRow w.heap.size 54 3 (.slice (some ⟨w.heap.size, 0, none⟩) 0 0) 0 [] := World.ownsRow_lit _ #[] 0 (by simp) (by decide) rfl
theorem appTNT0 {w : World} {ao : Option Addr} {cap : Nat} {zs : List TNT} (h : TNTrow w (.slice ao zs.length cap) zs) (hl : zs.length ≤ 1048576) : ∃ v' u', (Builtin.append_ #[31, 31] 31 #[.slice (some ⟨w.heap.size, 0, none⟩) 0 0, .slice ao zs.length cap]).run Try.prog (w.alloc (.cells #[] 54)) = .ok v' u' ∧ (u'.ownsRow w.heap.size 54 3 v' zs.length (tntR zs) ∧ (w.alloc (.cells #[] 54)).grownBy u' (some w.heap.size)) := by
  obtain ⟨v', u', h1, h2, h3⟩ := appTNT (xs := []) (ownNoneTNT w) (h.below (bx1 _ _)) (by simpa using hl) (by simp)
  exact ⟨v', u', h1, h2, h3⟩
set_option maxRecDepth 100000 in
set_option maxHeartbeats 4000000 in
theorem cloneTNT_any {w : World} {v : Value} {zs : List TNT} (h : TNTrow w v zs) (hl : zs.length ≤ 1048576) : Calls Try.prog 59 #[v] w fun e w' => ∃ u, e = .returned u ∧ w'.ownsRow w.heap.size 54 3 u zs.length (tntR zs) ∧ Below w.heap.size w w' := by
  obtain ⟨ao, cap, rfl⟩ := h.sl
  have n1 := eqNilTNT
  have n2 := neNilTNT
  have HAP : Hid _ := appTNT0 h hl
  cases ao with
  | none =>
    have hz : zs = [] := by
      rcases h with ⟨q, _⟩ | ⟨g, o, c1, hv, _⟩
      · exact q
      · injection hv with q1
        cases q1
    subst hz
    clear h hl HAP
    go_enter Try.func59, Try.ntmps59
    go_wp2
    go_ret
    exact ⟨_, rfl, World.ownsRow_nil _ _ _ _, Below.refl _ _⟩
  | some a =>
    clear h
    go_enter Try.func59, Try.ntmps59
    go_wp2_with (at_builtin; (refine wl_append_ex rfl _ _ 31 rfl _ _ rfl rfl HAP.out ?_; rintro v' u' ⟨ho, hg⟩; have HO : Hid (u'.ownsRow w.heap.size 54 3 v' zs.length (tntR zs)) := ho; have HG : Hid (Below w.heap.size w u') := ((Below.refl w.heap.size w).alloc (Nat.le_refl _) _).grown hg (by simp) (fun j hj => by cases hj; exact Nat.le_refl _); clear ho hg HAP))
    go_ret
    exact ⟨_, rfl, HO.out, HG.out⟩
end Go.Proofs.Ytkmbhhkgfofcoaa
