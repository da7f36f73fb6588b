import Derived.Test.YtalpcjclahkgnaaGreatOwnB
import Derived.Test.YtalpcjclahkgnaaGreatTB
import Derived.Maps.AppendAt
import Derived.OwnWalk
import Derived.Test.YtalpcjclahkgnaaGreatNodZ
import Derived.Test.YtalpcjclahkgnaaGreatVmcZ
import Derived.Test.YtalpcjclahkgnaaGreatTntZ
namespace Go.Proofs.YtalpcjclahkgnaaGreat
open Go.ChangeShapes Go.WideShapes Go.ChangeAt Go.RowKit

theorem wl_append_ex {P : Program} {ops : Array Oper} {rest : List Oper} {o : Oper} {a : Act} {w : World} {Q : Exit → Act → World → Prop} (hgd : o.guard = none) (s x : Operand) (t : TypeId)
    (ho : o.op = .call { callee := .builtin .append, args := #[s, x], argTypes := #[t, t] }) (v v2 : Value) (hs : a.eval s = v) (hx : a.eval x = v2) {R : Value → World → Prop}
    (hr : ∃ v' w', (Builtin.append_ #[t, t] o.type #[v, v2]).run P w = .ok v' w' ∧ R v' w') (h : ∀ v' w', R v' w' → wpList P ops Q rest (a.put o.dst v') w') : wpList P ops Q (o :: rest) a w :=
  wpList_plain hgd fun _ hK => by
    obtain ⟨v', w', hr, hR⟩ := hr
    unfold Oper.wp execOp
    simp only [ho, resolve, invoke, builtin, Sem.run_bind, Sem.run_pure, Result.andThen_ok, List.map_toArray, List.map_cons, List.map_nil, hs, hx, hr]
    exact hK _ _ (h v' w' hR)
theorem wp_append_ex {P : Program} {o : Oper} {a : Act} {w : World} {K : Act → World → Prop} {Q : Exit → Act → World → Prop} (s x : Operand) (t : TypeId)
    (ho : o.op = .call { callee := .builtin .append, args := #[s, x], argTypes := #[t, t] }) (v v2 : Value) (hs : a.eval s = v) (hx : a.eval x = v2) {R : Value → World → Prop}
    (hr : ∃ v' w', (Builtin.append_ #[t, t] o.type #[v, v2]).run P w = .ok v' w' ∧ R v' w') (h : ∀ v' w', R v' w' → K (a.put o.dst v') w') : o.wp P a w K Q := by
  obtain ⟨v', w', hr, hR⟩ := hr
  unfold Oper.wp execOp
  simp only [ho, resolve, invoke, builtin, Sem.run_bind, Sem.run_pure, Result.andThen_ok, List.map_toArray, List.map_cons, List.map_nil, hs, hx, hr]
  exact h v' w' hR

set_option maxRecDepth 100000 in
theorem infoNOD : (Tryz.prog.info? 97).map (fun i => (i.zero, i.size, i.bytes)) = some (some (.agg #[.string ⟨#[]⟩, .int .i64 0, .int .i64 0, .int .i64 0, .int .i64 0, .bool false, .bool false]), 7, 56) := by kernel_rfl
theorem nodR_one (zs : List NOD) : ∀ u ∈ nodR zs, u.oneCell' = true := by
  intro u hu
  unfold nodR at hu
  rw [List.mem_flatMap] at hu
  obtain ⟨m, _, hm⟩ := hu
  simp [nodC] at hm
  rcases hm with rfl | rfl | rfl | rfl | rfl | rfl | rfl <;> rfl
theorem nodR_cells {w : World} {a : Addr} {n cap : Nat} {zs : List NOD} (h : NODrow w (.slice (some a) n cap) zs) : ∀ j u, (nodR zs)[j]? = some u → w.cell? (a.add j) = some u := by
  intro j u hj
  rcases h with ⟨rfl, _⟩ | ⟨g, o, c1, hv, hc, hg, ha⟩
  · simp [nodR] at hj
  · injection hv with q1
    injection q1 with q2
    subst q2
    have hjl : j < zs.length * 7 := by
      have := (List.getElem?_eq_some_iff.1 hj).1
      rw [nodR_len] at this
      exact this
    have hk : j / 7 < zs.length := by omega
    have e1 := nodR_at zs (j / 7) hk (j % 7) (by omega)
    rw [show j / 7 * 7 + j % 7 = j by omega, hj] at e1
    obtain ⟨b0, b1, b2, b3, b4, b5, b6⟩ := ha (j / 7) hk
    rw [Addr.add_lit]
    obtain h2 | h2 | h2 | h2 | h2 | h2 | h2 : j % 7 = 0 ∨ j % 7 = 1 ∨ j % 7 = 2 ∨ j % 7 = 3 ∨ j % 7 = 4 ∨ j % 7 = 5 ∨ j % 7 = 6 := by omega
    · rw [h2] at e1
      rw [show o + j = o + j / 7 * 7 by omega, b0, e1]
      rfl
    · rw [h2] at e1
      rw [show o + j = o + j / 7 * 7 + 1 by omega, b1, e1]
      rfl
    · rw [h2] at e1
      rw [show o + j = o + j / 7 * 7 + 2 by omega, b2, e1]
      rfl
    · rw [h2] at e1
      rw [show o + j = o + j / 7 * 7 + 3 by omega, b3, e1]
      rfl
    · rw [h2] at e1
      rw [show o + j = o + j / 7 * 7 + 4 by omega, b4, e1]
      rfl
    · rw [h2] at e1
      rw [show o + j = o + j / 7 * 7 + 5 by omega, b5, e1]
      rfl
    · rw [h2] at e1
      rw [show o + j = o + j / 7 * 7 + 6 by omega, b6, e1]
      rfl
set_option maxRecDepth 100000 in
theorem appNOD {w : World} {B : Nat} {v : Value} {xs : List NOD} (H0 : w.ownsRow B 97 7 v xs.length (nodR xs)) {ao : Option Addr} {cap : Nat} {zs : List NOD} (h : NODrow w (.slice ao zs.length cap) zs) (hl : xs.length + zs.length ≤ 1048576) (hB : B ≤ w.heap.size) : ∃ v' u', (Builtin.append_ #[33, 33] 33 #[v, .slice ao zs.length cap]).run Tryz.prog w = .ok v' u' ∧ (u'.ownsRow B 97 7 v' (xs ++ zs).length (nodR (xs ++ zs)) ∧ w.grownBy u' v.ownBlock) := by
  obtain ⟨i0, hi0, hz0, hz1, hz2⟩ := info_parts infoNOD
  cases ao with
  | none =>
    have hz : zs = [] := by
      rcases h with ⟨q, _⟩ | ⟨g, o, c1, hv, _⟩
      · exact q
      · injection hv with q1
        cases q1
    subst hz
    refine ⟨v, w, ?_, by rw [List.append_nil]; exact H0, ⟨rfl, rfl, rfl, Nat.le_refl _, fun _ _ _ => rfl⟩⟩
    have hcap : ∃ a0 c0, v = .slice a0 xs.length c0 ∧ xs.length ≤ c0 := by
      obtain ⟨a0, c0, rfl⟩ := nod_sl H0
      refine ⟨a0, c0, rfl, ?_⟩
      rcases H0 with ⟨_, h | ⟨g, c, cur, hv, _, _, hle, _⟩⟩
      · obtain ⟨h1, _⟩ := h
        injection h1 with _ q2 q3
        omega
      · injection hv with _ q2 q3
        omega
    obtain ⟨a0, c0, rfl, hc0⟩ := hcap
    simp [hc0, Builtin.append_, run_underlying Tryz.underlying33, sizeOf, typeInfo, hi0, Builtin.lenOf, Builtin.firstCells, storeCells]
    cases a0 <;> rfl
  | some a =>
    obtain ⟨v', w', hr, h2, h3, _, _⟩ := run_append_own_at (P := Tryz.prog) w B 33 33 97 i0 (.agg #[.string ⟨#[]⟩, .int .i64 0, .int .i64 0, .int .i64 0, .int .i64 0, .bool false, .bool false]) 7 56 Tryz.underlying33 hi0 hz0 hz1 hz2 rfl (by decide) v xs.length (nodR xs) H0 a zs.length cap (nodR zs) (nodR_len zs) (nodR_cells h) (nodR_one zs) (by unfold maxLen; omega) (by omega) hB
    exact ⟨v', w', hr, by rw [List.length_append, nodR_app]; exact h2, h3⟩
set_option maxRecDepth 100000 in
theorem eqNilNOD (n c : Nat) (w : World) : Sem.run Tryz.prog (binOp BinOp.eql 33 (.slice none n c) (.slice none 0 0)) w = .ok (.bool true) w := by kernel_rfl
set_option maxRecDepth 100000 in
theorem neNilNOD (a : Addr) (n c : Nat) (w : World) : Sem.run Tryz.prog (binOp BinOp.eql 33 (.slice (some a) n c) (.slice none 0 0)) w = .ok (.bool false) w := by kernel_rfl
theorem ownNoneNOD (w : World) : (w.alloc (.cells #[] 97)).ownsRow w.heap.size 97 7 (.slice (some ⟨w.heap.size, 0, none⟩) 0 0) 0 [] := World.ownsRow_lit _ #[] 0 (by simp) (by decide) rfl
theorem appNOD0 {w : World} {ao : Option Addr} {cap : Nat} {zs : List NOD} (h : NODrow w (.slice ao zs.length cap) zs) (hl : zs.length ≤ 1048576) : ∃ v' u', (Builtin.append_ #[33, 33] 33 #[.slice (some ⟨w.heap.size, 0, none⟩) 0 0, .slice ao zs.length cap]).run Tryz.prog (w.alloc (.cells #[] 97)) = .ok v' u' ∧ (u'.ownsRow w.heap.size 97 7 v' zs.length (nodR zs) ∧ (w.alloc (.cells #[] 97)).grownBy u' (some w.heap.size)) := by
  obtain ⟨v', u', h1, h2, h3⟩ := appNOD (xs := []) (ownNoneNOD w) (h.below (bx1 _ _)) (by simpa using hl) (by simp)
  exact ⟨v', u', h1, h2, h3⟩
set_option maxRecDepth 100000 in
set_option maxHeartbeats 4000000 in
theorem cloneNOD_any {w : World} {v : Value} {zs : List NOD} (h : NODrow w v zs) (hl : zs.length ≤ 1048576) : Calls Tryz.prog 80 #[v] w fun e w' => ∃ u, e = .returned u ∧ w'.ownsRow w.heap.size 97 7 u zs.length (nodR zs) ∧ Below w.heap.size w w' := by
  obtain ⟨ao, cap, rfl⟩ := h.sl
  have n1 := eqNilNOD
  have n2 := neNilNOD
  have HAP : Hid _ := appNOD0 h hl
  cases ao with
  | none =>
    have hz : zs = [] := by
      rcases h with ⟨q, _⟩ | ⟨g, o, c1, hv, _⟩
      · exact q
      · injection hv with q1
        cases q1
    subst hz
    clear h hl HAP
    go_enter Tryz.func80, Tryz.ntmps80
    go_wp2
    go_ret
    exact ⟨_, rfl, World.ownsRow_nil _ _ _ _, Below.refl _ _⟩
  | some a =>
    clear h
    go_enter Tryz.func80, Tryz.ntmps80
    go_wp2_with (at_builtin; (refine wl_append_ex rfl _ _ 33 rfl _ _ rfl rfl HAP.out ?_; rintro v' u' ⟨ho, hg⟩; have HO : Hid (u'.ownsRow w.heap.size 97 7 v' zs.length (nodR zs)) := ho; have HG : Hid (Below w.heap.size w u') := ((Below.refl w.heap.size w).alloc (Nat.le_refl _) _).grown hg (by simp) (fun j hj => by cases hj; exact Nat.le_refl _); clear ho hg HAP))
    go_ret
    exact ⟨_, rfl, HO.out, HG.out⟩

set_option maxRecDepth 100000 in
theorem infoVMC : (Tryz.prog.info? 71).map (fun i => (i.zero, i.size, i.bytes)) = some (some (.agg #[.string ⟨#[]⟩, .int .i64 0, .int .i64 0, .int .i64 0, .int .i64 0, .int .i64 0, .string ⟨#[]⟩, .int .i64 0]), 8, 80) := by kernel_rfl
theorem vmcR_one (zs : List VMC) : ∀ u ∈ vmcR zs, u.oneCell' = true := by
  intro u hu
  unfold vmcR at hu
  rw [List.mem_flatMap] at hu
  obtain ⟨m, _, hm⟩ := hu
  simp [vmcC] at hm
  rcases hm with rfl | rfl | rfl | rfl | rfl | rfl | rfl | rfl <;> rfl
theorem vmcR_cells {w : World} {a : Addr} {n cap : Nat} {zs : List VMC} (h : VMCrow w (.slice (some a) n cap) zs) : ∀ j u, (vmcR zs)[j]? = some u → w.cell? (a.add j) = some u := by
  intro j u hj
  rcases h with ⟨rfl, _⟩ | ⟨g, o, c1, hv, hc, hg, ha⟩
  · simp [vmcR] at hj
  · injection hv with q1
    injection q1 with q2
    subst q2
    have hjl : j < zs.length * 8 := by
      have := (List.getElem?_eq_some_iff.1 hj).1
      rw [vmcR_len] at this
      exact this
    have hk : j / 8 < zs.length := by omega
    have e1 := vmcR_at zs (j / 8) hk (j % 8) (by omega)
    rw [show j / 8 * 8 + j % 8 = j by omega, hj] at e1
    obtain ⟨b0, b1, b2, b3, b4, b5, b6, b7⟩ := ha (j / 8) hk
    rw [Addr.add_lit]
    obtain h2 | h2 | h2 | h2 | h2 | h2 | h2 | h2 : j % 8 = 0 ∨ j % 8 = 1 ∨ j % 8 = 2 ∨ j % 8 = 3 ∨ j % 8 = 4 ∨ j % 8 = 5 ∨ j % 8 = 6 ∨ j % 8 = 7 := by omega
    · rw [h2] at e1
      rw [show o + j = o + j / 8 * 8 by omega, b0, e1]
      rfl
    · rw [h2] at e1
      rw [show o + j = o + j / 8 * 8 + 1 by omega, b1, e1]
      rfl
    · rw [h2] at e1
      rw [show o + j = o + j / 8 * 8 + 2 by omega, b2, e1]
      rfl
    · rw [h2] at e1
      rw [show o + j = o + j / 8 * 8 + 3 by omega, b3, e1]
      rfl
    · rw [h2] at e1
      rw [show o + j = o + j / 8 * 8 + 4 by omega, b4, e1]
      rfl
    · rw [h2] at e1
      rw [show o + j = o + j / 8 * 8 + 5 by omega, b5, e1]
      rfl
    · rw [h2] at e1
      rw [show o + j = o + j / 8 * 8 + 6 by omega, b6, e1]
      rfl
    · rw [h2] at e1
      rw [show o + j = o + j / 8 * 8 + 7 by omega, b7, e1]
      rfl
set_option maxRecDepth 100000 in
theorem appVMC {w : World} {B : Nat} {v : Value} {xs : List VMC} (H0 : w.ownsRow B 71 8 v xs.length (vmcR xs)) {ao : Option Addr} {cap : Nat} {zs : List VMC} (h : VMCrow w (.slice ao zs.length cap) zs) (hl : xs.length + zs.length ≤ 1048576) (hB : B ≤ w.heap.size) : ∃ v' u', (Builtin.append_ #[34, 34] 34 #[v, .slice ao zs.length cap]).run Tryz.prog w = .ok v' u' ∧ (u'.ownsRow B 71 8 v' (xs ++ zs).length (vmcR (xs ++ zs)) ∧ w.grownBy u' v.ownBlock) := by
  obtain ⟨i0, hi0, hz0, hz1, hz2⟩ := info_parts infoVMC
  cases ao with
  | none =>
    have hz : zs = [] := by
      rcases h with ⟨q, _⟩ | ⟨g, o, c1, hv, _⟩
      · exact q
      · injection hv with q1
        cases q1
    subst hz
    refine ⟨v, w, ?_, by rw [List.append_nil]; exact H0, ⟨rfl, rfl, rfl, Nat.le_refl _, fun _ _ _ => rfl⟩⟩
    have hcap : ∃ a0 c0, v = .slice a0 xs.length c0 ∧ xs.length ≤ c0 := by
      obtain ⟨a0, c0, rfl⟩ := vmc_sl H0
      refine ⟨a0, c0, rfl, ?_⟩
      rcases H0 with ⟨_, h | ⟨g, c, cur, hv, _, _, hle, _⟩⟩
      · obtain ⟨h1, _⟩ := h
        injection h1 with _ q2 q3
        omega
      · injection hv with _ q2 q3
        omega
    obtain ⟨a0, c0, rfl, hc0⟩ := hcap
    simp [hc0, Builtin.append_, run_underlying Tryz.underlying34, sizeOf, typeInfo, hi0, Builtin.lenOf, Builtin.firstCells, storeCells]
    cases a0 <;> rfl
  | some a =>
    obtain ⟨v', w', hr, h2, h3, _, _⟩ := run_append_own_at (P := Tryz.prog) w B 34 34 71 i0 (.agg #[.string ⟨#[]⟩, .int .i64 0, .int .i64 0, .int .i64 0, .int .i64 0, .int .i64 0, .string ⟨#[]⟩, .int .i64 0]) 8 80 Tryz.underlying34 hi0 hz0 hz1 hz2 rfl (by decide) v xs.length (vmcR xs) H0 a zs.length cap (vmcR zs) (vmcR_len zs) (vmcR_cells h) (vmcR_one zs) (by unfold maxLen; omega) (by omega) hB
    exact ⟨v', w', hr, by rw [List.length_append, vmcR_app]; exact h2, h3⟩
set_option maxRecDepth 100000 in
theorem eqNilVMC (n c : Nat) (w : World) : Sem.run Tryz.prog (binOp BinOp.eql 34 (.slice none n c) (.slice none 0 0)) w = .ok (.bool true) w := by kernel_rfl
set_option maxRecDepth 100000 in
theorem neNilVMC (a : Addr) (n c : Nat) (w : World) : Sem.run Tryz.prog (binOp BinOp.eql 34 (.slice (some a) n c) (.slice none 0 0)) w = .ok (.bool false) w := by kernel_rfl
theorem ownNoneVMC (w : World) : (w.alloc (.cells #[] 71)).ownsRow w.heap.size 71 8 (.slice (some ⟨w.heap.size, 0, none⟩) 0 0) 0 [] := World.ownsRow_lit _ #[] 0 (by simp) (by decide) rfl
theorem appVMC0 {w : World} {ao : Option Addr} {cap : Nat} {zs : List VMC} (h : VMCrow w (.slice ao zs.length cap) zs) (hl : zs.length ≤ 1048576) : ∃ v' u', (Builtin.append_ #[34, 34] 34 #[.slice (some ⟨w.heap.size, 0, none⟩) 0 0, .slice ao zs.length cap]).run Tryz.prog (w.alloc (.cells #[] 71)) = .ok v' u' ∧ (u'.ownsRow w.heap.size 71 8 v' zs.length (vmcR zs) ∧ (w.alloc (.cells #[] 71)).grownBy u' (some w.heap.size)) := by
  obtain ⟨v', u', h1, h2, h3⟩ := appVMC (xs := []) (ownNoneVMC w) (h.below (bx1 _ _)) (by simpa using hl) (by simp)
  exact ⟨v', u', h1, h2, h3⟩
set_option maxRecDepth 100000 in
set_option maxHeartbeats 4000000 in
theorem cloneVMC_any {w : World} {v : Value} {zs : List VMC} (h : VMCrow w v zs) (hl : zs.length ≤ 1048576) : Calls Tryz.prog 81 #[v] w fun e w' => ∃ u, e = .returned u ∧ w'.ownsRow w.heap.size 71 8 u zs.length (vmcR zs) ∧ Below w.heap.size w w' := by
  obtain ⟨ao, cap, rfl⟩ := h.sl
  have n1 := eqNilVMC
  have n2 := neNilVMC
  have HAP : Hid _ := appVMC0 h hl
  cases ao with
  | none =>
    have hz : zs = [] := by
      rcases h with ⟨q, _⟩ | ⟨g, o, c1, hv, _⟩
      · exact q
      · injection hv with q1
        cases q1
    subst hz
    clear h hl HAP
    go_enter Tryz.func81, Tryz.ntmps81
    go_wp2
    go_ret
    exact ⟨_, rfl, World.ownsRow_nil _ _ _ _, Below.refl _ _⟩
  | some a =>
    clear h
    go_enter Tryz.func81, Tryz.ntmps81
    go_wp2_with (at_builtin; (refine wl_append_ex rfl _ _ 34 rfl _ _ rfl rfl HAP.out ?_; rintro v' u' ⟨ho, hg⟩; have HO : Hid (u'.ownsRow w.heap.size 71 8 v' zs.length (vmcR zs)) := ho; have HG : Hid (Below w.heap.size w u') := ((Below.refl w.heap.size w).alloc (Nat.le_refl _) _).grown hg (by simp) (fun j hj => by cases hj; exact Nat.le_refl _); clear ho hg HAP))
    go_ret
    exact ⟨_, rfl, HO.out, HG.out⟩

set_option maxRecDepth 100000 in
theorem infoTNT : (Tryz.prog.info? 76).map (fun i => (i.zero, i.size, i.bytes)) = some (some (.agg #[.int .i64 0, .int .i64 0, .int .i64 0]), 3, 24) := by kernel_rfl
theorem tntR_one (zs : List TNT) : ∀ u ∈ tntR zs, u.oneCell' = true := by
  intro u hu
  unfold tntR at hu
  rw [List.mem_flatMap] at hu
  obtain ⟨m, _, hm⟩ := hu
  simp [tntC] at hm
  rcases hm with rfl | rfl | rfl <;> rfl
theorem tntR_cells {w : World} {a : Addr} {n cap : Nat} {zs : List TNT} (h : TNTrow w (.slice (some a) n cap) zs) : ∀ j u, (tntR zs)[j]? = some u → w.cell? (a.add j) = some u := by
  intro j u hj
  rcases h with ⟨rfl, _⟩ | ⟨g, o, c1, hv, hc, hg, ha⟩
  · simp [tntR] at hj
  · injection hv with q1
    injection q1 with q2
    subst q2
    have hjl : j < zs.length * 3 := by
      have := (List.getElem?_eq_some_iff.1 hj).1
      rw [tntR_len] at this
      exact this
    have hk : j / 3 < zs.length := by omega
    have e1 := tntR_at zs (j / 3) hk (j % 3) (by omega)
    rw [show j / 3 * 3 + j % 3 = j by omega, hj] at e1
    obtain ⟨b0, b1, b2⟩ := ha (j / 3) hk
    rw [Addr.add_lit]
    obtain h2 | h2 | h2 : j % 3 = 0 ∨ j % 3 = 1 ∨ j % 3 = 2 := by omega
    · rw [h2] at e1
      rw [show o + j = o + j / 3 * 3 by omega, b0, e1]
      rfl
    · rw [h2] at e1
      rw [show o + j = o + j / 3 * 3 + 1 by omega, b1, e1]
      rfl
    · rw [h2] at e1
      rw [show o + j = o + j / 3 * 3 + 2 by omega, b2, e1]
      rfl
set_option maxRecDepth 100000 in
theorem appTNT {w : World} {B : Nat} {v : Value} {xs : List TNT} (H0 : w.ownsRow B 76 3 v xs.length (tntR xs)) {ao : Option Addr} {cap : Nat} {zs : List TNT} (h : TNTrow w (.slice ao zs.length cap) zs) (hl : xs.length + zs.length ≤ 1048576) (hB : B ≤ w.heap.size) : ∃ v' u', (Builtin.append_ #[35, 35] 35 #[v, .slice ao zs.length cap]).run Tryz.prog w = .ok v' u' ∧ (u'.ownsRow B 76 3 v' (xs ++ zs).length (tntR (xs ++ zs)) ∧ w.grownBy u' v.ownBlock) := by
  obtain ⟨i0, hi0, hz0, hz1, hz2⟩ := info_parts infoTNT
  cases ao with
  | none =>
    have hz : zs = [] := by
      rcases h with ⟨q, _⟩ | ⟨g, o, c1, hv, _⟩
      · exact q
      · injection hv with q1
        cases q1
    subst hz
    refine ⟨v, w, ?_, by rw [List.append_nil]; exact H0, ⟨rfl, rfl, rfl, Nat.le_refl _, fun _ _ _ => rfl⟩⟩
    have hcap : ∃ a0 c0, v = .slice a0 xs.length c0 ∧ xs.length ≤ c0 := by
      obtain ⟨a0, c0, rfl⟩ := tnt_sl H0
      refine ⟨a0, c0, rfl, ?_⟩
      rcases H0 with ⟨_, h | ⟨g, c, cur, hv, _, _, hle, _⟩⟩
      · obtain ⟨h1, _⟩ := h
        injection h1 with _ q2 q3
        omega
      · injection hv with _ q2 q3
        omega
    obtain ⟨a0, c0, rfl, hc0⟩ := hcap
    simp [hc0, Builtin.append_, run_underlying Tryz.underlying35, sizeOf, typeInfo, hi0, Builtin.lenOf, Builtin.firstCells, storeCells]
    cases a0 <;> rfl
  | some a =>
    obtain ⟨v', w', hr, h2, h3, _, _⟩ := run_append_own_at (P := Tryz.prog) w B 35 35 76 i0 (.agg #[.int .i64 0, .int .i64 0, .int .i64 0]) 3 24 Tryz.underlying35 hi0 hz0 hz1 hz2 rfl (by decide) v xs.length (tntR xs) H0 a zs.length cap (tntR zs) (tntR_len zs) (tntR_cells h) (tntR_one zs) (by unfold maxLen; omega) (by omega) hB
    exact ⟨v', w', hr, by rw [List.length_append, tntR_app]; exact h2, h3⟩
set_option maxRecDepth 100000 in
theorem eqNilTNT (n c : Nat) (w : World) : Sem.run Tryz.prog (binOp BinOp.eql 35 (.slice none n c) (.slice none 0 0)) w = .ok (.bool true) w := by kernel_rfl
set_option maxRecDepth 100000 in
theorem neNilTNT (a : Addr) (n c : Nat) (w : World) : Sem.run Tryz.prog (binOp BinOp.eql 35 (.slice (some a) n c) (.slice none 0 0)) w = .ok (.bool false) w := by kernel_rfl
theorem ownNoneTNT (w : World) : (w.alloc (.cells #[] 76)).ownsRow w.heap.size 76 3 (.slice (some ⟨w.heap.size, 0, none⟩) 0 0) 0 [] := World.ownsRow_lit _ #[] 0 (by simp) (by decide) rfl
theorem appTNT0 {w : World} {ao : Option Addr} {cap : Nat} {zs : List TNT} (h : TNTrow w (.slice ao zs.length cap) zs) (hl : zs.length ≤ 1048576) : ∃ v' u', (Builtin.append_ #[35, 35] 35 #[.slice (some ⟨w.heap.size, 0, none⟩) 0 0, .slice ao zs.length cap]).run Tryz.prog (w.alloc (.cells #[] 76)) = .ok v' u' ∧ (u'.ownsRow w.heap.size 76 3 v' zs.length (tntR zs) ∧ (w.alloc (.cells #[] 76)).grownBy u' (some w.heap.size)) := by
  obtain ⟨v', u', h1, h2, h3⟩ := appTNT (xs := []) (ownNoneTNT w) (h.below (bx1 _ _)) (by simpa using hl) (by simp)
  exact ⟨v', u', h1, h2, h3⟩
set_option maxRecDepth 100000 in
set_option maxHeartbeats 4000000 in
theorem cloneTNT_any {w : World} {v : Value} {zs : List TNT} (h : TNTrow w v zs) (hl : zs.length ≤ 1048576) : Calls Tryz.prog 82 #[v] w fun e w' => ∃ u, e = .returned u ∧ w'.ownsRow w.heap.size 76 3 u zs.length (tntR zs) ∧ Below w.heap.size w w' := by
  obtain ⟨ao, cap, rfl⟩ := h.sl
  have n1 := eqNilTNT
  have n2 := neNilTNT
  have HAP : Hid _ := appTNT0 h hl
  cases ao with
  | none =>
    have hz : zs = [] := by
      rcases h with ⟨q, _⟩ | ⟨g, o, c1, hv, _⟩
      · exact q
      · injection hv with q1
        cases q1
    subst hz
    clear h hl HAP
    go_enter Tryz.func82, Tryz.ntmps82
    go_wp2
    go_ret
    exact ⟨_, rfl, World.ownsRow_nil _ _ _ _, Below.refl _ _⟩
  | some a =>
    clear h
    go_enter Tryz.func82, Tryz.ntmps82
    go_wp2_with (at_builtin; (refine wl_append_ex rfl _ _ 35 rfl _ _ rfl rfl HAP.out ?_; rintro v' u' ⟨ho, hg⟩; have HO : Hid (u'.ownsRow w.heap.size 76 3 v' zs.length (tntR zs)) := ho; have HG : Hid (Below w.heap.size w u') := ((Below.refl w.heap.size w).alloc (Nat.le_refl _) _).grown hg (by simp) (fun j hj => by cases hj; exact Nat.le_refl _); clear ho hg HAP))
    go_ret
    exact ⟨_, rfl, HO.out, HG.out⟩
end Go.Proofs.YtalpcjclahkgnaaGreat
