import Derived.Test.YtniaohflkopncaaAd2
import Derived.Lib.AppendZerosOnto
namespace Go.Proofs.Ytniaohflkopncaa
open Go.ChangeShapes Go.WideShapes Go.ChangeAt Go.RowKit

theorem ksz (w : World) : (sizeOf (Try.prog.elem 25)).run Try.prog w = .ok 3 w := by kernel_rfl
theorem KSat.drop {w : World} {g o : Nat} {zs : List KS} (h : KSat w g o zs) (k : Nat) : KSat w g (o + k * 3) (zs.drop k) := by
  intro j hj
  have hj2 : k + j < zs.length := by simp at hj; omega
  have := h (k + j) hj2
  rw [List.getElem_drop, show o + k * 3 + j * 3 = o + (k + j) * 3 by omega]
  exact this
theorem KSat.take {w : World} {g o : Nat} {zs : List KS} (h : KSat w g o zs) (k : Nat) : KSat w g o (zs.take k) := by
  intro j hj
  have hj2 : j < zs.length := by simp at hj; omega
  rw [List.getElem_take]
  exact h j hj2
set_option maxRecDepth 100000 in
/-- The first k of a row. -/
theorem cutTo {g0 o0 : Nat} {ao : Option Addr} (hao : ao = some ⟨g0, o0, none⟩) {cap n : Nat} (k : Nat) (hk : k ≤ n) (hn : n ≤ cap) : ∃ a1 c1, (∀ w, Sem.run Try.prog (Instr.slice 25 (.slice ao n cap) none (some (.int .i64 (k : Int))) none) w = .ok (.slice a1 k c1) w) ∧ ∀ w (zs : List KS), zs.length = n → KSrow w (.slice ao n cap) zs → KSrow w (.slice a1 k c1) (zs.take k) := by
  refine ⟨ao, cap, fun w => ?_, fun w zs hl h => ?_⟩
  · rw [run_slice_h (P := Try.prog) w 25 ao n cap Try.underlying25 .i64 (k : Int) (by omega) (by omega), ksz]
    subst hao
    simp [sliced, Addr.add_lit]
  · rcases h with ⟨rfl, _⟩ | ⟨g, o, c, hv, hc, hg, ha⟩
    · simp at hl
      subst hl
      obtain rfl : k = 0 := by omega
      exact .inl ⟨by simp, ao, cap, rfl⟩
    · injection hv with e1 e2 e3
      subst e1 e3
      refine .inr ⟨g, o, cap, by simp; omega, by simp; omega, hg, ha.take k⟩
set_option maxRecDepth 100000 in
/-- What is behind the first k of a row. -/
theorem cutFrom {ao : Option Addr} {cap n : Nat} (k : Nat) (hk : k ≤ n) (hn : n ≤ cap) : ∃ a1 c1, (∀ w, Sem.run Try.prog (Instr.slice 25 (.slice ao n cap) (some (.int .i64 (k : Int))) none none) w = .ok (.slice a1 (n - k) c1) w) ∧ ∀ w (zs : List KS), zs.length = n → KSrow w (.slice ao n cap) zs → KSrow w (.slice a1 (n - k) c1) (zs.drop k) := by
  have hr : ∀ w, Sem.run Try.prog (Instr.slice 25 (.slice ao n cap) (some (.int .i64 (k : Int))) none none) w = .ok (sliced ao k n cap 3) w := by
    intro w
    rw [run_slice_l (P := Try.prog) w 25 ao n cap Try.underlying25 .i64 (k : Int) (by omega) (by omega), ksz]
    simp
  refine ⟨_, _, hr, fun w zs hl h => ?_⟩
  rcases h with ⟨rfl, _⟩ | ⟨g, o, c, hv, hc, hg, ha⟩
  · simp at hl
    subst hl
    obtain rfl : k = 0 := by omega
    exact .inl ⟨by simp, _, _, rfl⟩
  · injection hv with e1 e2 e3
    subst e1 e3
    by_cases hkn : n = k
    · exact .inl ⟨by rw [List.drop_eq_nil_iff]; omega, _, _, by rw [hkn, Nat.sub_self]⟩
    · have hne : ¬ cap = k := by omega
      refine .inr ⟨g, o + k * 3, cap - k, ?_, by simp; omega, hg, ha.drop k⟩
      rw [if_neg hne]
      simp [Addr.add_lit]
      omega
theorem wl_append_ex2 {P : Program} {ops : Array Oper} {rest : List Oper} {o : Oper} {a : Act} {w : World} {Q : Exit → Act → World → Prop} (hgd : o.guard = none) (s x : Operand) (t t2 : TypeId)
    (ho : o.op = .call { callee := .builtin .append, args := #[s, x], argTypes := #[t, t2] }) (v v2 : Value) (hs : a.eval s = v) (hx : a.eval x = v2) {R : Value → World → Prop}
    (hr : ∃ v' w', (Builtin.append_ #[t, t2] o.type #[v, v2]).run P w = .ok v' w' ∧ R v' w') (h : ∀ v' w', R v' w' → wpList P ops Q rest (a.put o.dst v') w') : wpList P ops Q (o :: rest) a w :=
  wpList_plain hgd fun _ hK => by
    obtain ⟨v', w', hr, hR⟩ := hr
    unfold Oper.wp execOp
    simp only [ho, resolve, invoke, builtin, Sem.run_bind, Sem.run_pure, Result.andThen_ok, List.map_toArray, List.map_cons, List.map_nil, hs, hx, hr]
    exact hK _ _ (h v' w' hR)
theorem zerosK (n : Nat) (w : World) (h0 : 0 < n) (hn : n ≤ 8) : ∃ v' u', (Builtin.append_ #[25, 3] 25 #[.slice none 0 0, .int .i64 n]).run Try.prog w = .ok v' u' ∧ ∃ g cap, v' = .slice (some ⟨g, 0, none⟩) n cap ∧ n ≤ cap ∧ u'.ownsRow w.heap.size 70 3 (.slice (some ⟨g, 0, none⟩) 0 cap) 0 [] ∧ Below w.heap.size w u' := by
  obtain ⟨i0, hi0, hz0, hz1, hz2⟩ := info_parts infoKS
  have hold : (Builtin.firstCells i0.size 0 (.slice none 0 0)).run Try.prog w.drew = .ok ([] : List Value).toArray w.drew := by
    simp [Builtin.firstCells]
  have hr := Lib.run_append_grow_zeros (P := Try.prog) w 25 3 25 70 i0 _ .i64 .i64 Try.underlying25 Try.underlying3 hi0 hz0 none 0 0 [] hold n h0 (by rw [hz1]; omega) (by omega) (by omega) (by rw [hz2]; omega) (by rw [hz2]; exact growslice_fits (by omega) (by omega))
  have hge := grownCap_ge w (0 + n) 0 70
  have hcm : grownCap w (0 + n) 0 70 ≤ maxLen := grownCap_le_maxLen w (0 + n) 0 70 (by unfold maxLen; omega)
  rw [Nat.zero_add] at hr hge hcm
  refine ⟨_, _, hr, w.heap.size, grownCap w n 0 70, rfl, hge, ?_, (Below.refl _ w).drew.alloc (Nat.le_refl _) _⟩
  refine ⟨rfl, .inr ⟨w.heap.size, grownCap w n 0 70, _, rfl, Nat.le_refl _, heap_alloc_new w.drew _, Nat.zero_le _, hcm, ?_, ?_⟩⟩
  · simp only [Array.size_append, size_zeroCells]
    simp [Value.cells]
    omega
  · simp
set_option maxRecDepth 100000 in
theorem cut0 (g n c : Nat) (w : World) : Sem.run Try.prog (Instr.slice 25 (.slice (some ⟨g, 0, none⟩) n c) none (some (.int .i64 0)) none) w = .ok (.slice (some ⟨g, 0, none⟩) 0 c) w := by
  rw [run_slice_h (P := Try.prog) w 25 (some ⟨g, 0, none⟩) n c Try.underlying25 .i64 0 (by omega) (by omega), ksz]
  simp [sliced, Addr.add_lit]
set_option maxRecDepth 100000 in
theorem cut00 (w : World) : Sem.run Try.prog (Instr.slice 25 (.slice none 0 0) none (some (.int .i64 0)) none) w = .ok (.slice none 0 0) w := by
  rw [run_slice_h (P := Try.prog) w 25 none 0 0 Try.underlying25 .i64 0 (by omega) (by omega), ksz]
  simp [sliced]
set_option maxRecDepth 100000 in
set_option maxHeartbeats 4000000 in
/-- Room for n at the end of nothing: a row of its own. -/
theorem growK_any (n : Nat) (w : World) (h0 : 0 < n) (hn : n ≤ 8) : Calls Try.prog 70 #[.slice none 0 0, .int .i64 n] w fun e w' => ∃ v, e = .returned v ∧ w'.ownsRow w.heap.size 70 3 v 0 (ksR []) ∧ Below w.heap.size w w' := by
  have HA : Hid _ := zerosK n w h0 hn
  have d1 : decide ((n : Int) < 0) = false := decide_eq_false (by omega)
  have d2 : decide (0 < (n : Int)) = true := decide_eq_true (by omega)
  have e1 := cut0
  have e2 := cut00
  go_enter Try.func70, Try.ntmps70
  go_wp2_with (at_builtin; (refine wl_append_ex2 rfl _ _ 25 3 rfl _ _ rfl rfl HA.out ?_; rintro v' u' ⟨g, cap, rfl, hc, ho, hb⟩; have HO : Hid (u'.ownsRow w.heap.size 70 3 (.slice (some ⟨g, 0, none⟩) 0 cap) 0 []) := ho; have HB : Hid (Below w.heap.size w u') := hb; clear ho hb HA))
  go_ret
  exact ⟨_, rfl, HO.out, HB.out⟩
def cat2 (xs ys : List KS) : Nat → List KS
  | 0 => []
  | 1 => xs
  | _ => xs ++ ys
set_option maxRecDepth 100000 in
set_option maxHeartbeats 4000000 in
theorem concatK_any (b cap2 : Nat) {w : World} {a1 a2 : Option Addr} {c1 c2 : Nat} {xs ys : List KS} (h1 : KSrow w (.slice a1 xs.length c1) xs) (h2 : KSrow w (.slice a2 ys.length c2) ys) (hb : b < w.heap.size) (k1 : w.cell? ⟨b, 0, none⟩ = some (.slice a1 xs.length c1)) (k2 : w.cell? ⟨b, 1, none⟩ = some (.slice a2 ys.length c2)) (hl0 : 0 < xs.length + ys.length) (hl : xs.length + ys.length ≤ 8) :
    Calls Try.prog 37 #[.slice (some ⟨b, 0, none⟩) 2 cap2] w fun e w' => ∃ v, e = .returned v ∧ w'.ownsRow w.heap.size 70 3 v (xs ++ ys).length (ksR (xs ++ ys)) ∧ Below w.heap.size w w' := by
  have HX : Hid (KSrow w (.slice a1 xs.length c1) xs) := h1
  have HY : Hid (KSrow w (.slice a2 ys.length c2) ys) := h2
  have HK1 : Hid (w.cell? ⟨b, 0, none⟩ = some (.slice a1 xs.length c1)) := k1
  have HK2 : Hid (w.cell? ⟨b, 1, none⟩ = some (.slice a2 ys.length c2)) := k2
  have HN : Hid (xs.length + ys.length ≤ 8) := hl
  have hlx : xs.length ≤ 8 := by omega
  have hly : ys.length ≤ 8 := by omega
  clear h1 h2
  go_enter Try.func37, Try.ntmps37
  go_wp2
  clear k1 k2
  go_loopw [3, 11] (fun s i wr => ∃ k : Nat, k ≤ 2 ∧ i = .int .i64 k ∧ s = .int .i64 ((if k = 0 then 0 else if k = 1 then xs.length else xs.length + ys.length : Nat) : Int) ∧ wr = w) (fun _ i _ => 2 - (intOf i).toNat)
  case atStart => exact ⟨0, by omega, rfl, rfl, rfl⟩
  case round =>
    obtain ⟨k, hk, rfl, rfl, hw⟩ := hrel
    have hw2 := hw.symm
    subst hw2
    clear hw
    obtain rfl | rfl | rfl : k = 0 ∨ k = 1 ∨ k = 2 := by omega
    · have q1 := HK1.out
      have q9 : decide (0 + (xs.length : Int) < 0) = false := decide_eq_false (by omega)
      have q8 : decide ((xs.length : Int) < 0) = false := decide_eq_false (by omega)
      go_wp2
      exact ⟨⟨1, by omega, by go_num, by simp, trivial⟩, by simp [intOf]⟩
    · have q1 := HK2.out
      have q8 : decide ((xs.length : Int) + (ys.length : Int) < 0) = false := decide_eq_false (by omega)
      go_wp2
      exact ⟨⟨2, by omega, by go_num, by simp, trivial⟩, by simp [intOf]⟩
    · obtain ⟨n, hn⟩ : ∃ n : Nat, xs.length + ys.length = n := ⟨_, rfl⟩
      have hc : (((if (2 : Nat) = 0 then 0 else if (2 : Nat) = 1 then xs.length else xs.length + ys.length : Nat)) : Int) = (n : Int) := by simp; omega
      rw [hc]
      have HG : Hid (∀ u, Calls Try.prog 70 #[.slice none 0 0, .int .i64 n] u fun e w' => ∃ v, e = .returned v ∧ w'.ownsRow u.heap.size 70 3 v 0 (ksR []) ∧ Below u.heap.size u w') := fun u => growK_any n u (by omega) (by omega)
      clear hc hl0 hl hn
      go_wp2_with (go_at_call 70; refine Calls.mono (HG.out _) ?_; rintro e u1 ⟨v, rfl, ho, hb1⟩; have HO : Hid (u1.ownsRow w.heap.size 70 3 v (cat2 xs ys 0).length (ksR (cat2 xs ys 0))) := ho; have HB : Hid (Below w.heap.size w u1) := hb1; clear ho hb1)
      go_loopw [6, 27] (fun v i wr => ∃ k : Nat, k ≤ 2 ∧ i = .int .i64 k ∧ wr.ownsRow w.heap.size 70 3 v (cat2 xs ys k).length (ksR (cat2 xs ys k)) ∧ Below w.heap.size w wr) (fun _ i _ => 2 - (intOf i).toNat)
      case atStart => exact ⟨0, by omega, rfl, HO.out, HB.out⟩
      case round =>
        obtain ⟨k, hk, rfl, ho3, hb3⟩ := hrel
        obtain ⟨a3, c3, rfl⟩ := ks_sl ho3
        have HO3 : Hid (wr.ownsRow w.heap.size 70 3 (.slice a3 (cat2 xs ys k).length c3) (cat2 xs ys k).length (ksR (cat2 xs ys k))) := ho3
        have HB3 : Hid (Below w.heap.size w wr) := hb3
        clear ho3 hb3 HO HB HG
        obtain rfl | rfl | rfl : k = 0 ∨ k = 1 ∨ k = 2 := by omega
        · have q1 := (HB3.out.cell (p := ⟨b, 0, none⟩) hb).trans HK1.out
          have hb3 : b < wr.heap.size := Nat.lt_of_lt_of_le hb HB3.out.size
          have HAP : Hid (∃ v' u', (Builtin.append_ #[25, 25] 25 #[.slice a3 (cat2 xs ys 0).length c3, .slice a1 xs.length c1]).run Try.prog wr = .ok v' u' ∧ (u'.ownsRow w.heap.size 70 3 v' (cat2 xs ys 0 ++ xs).length (ksR (cat2 xs ys 0 ++ xs)) ∧ wr.grownBy u' (Value.slice a3 (cat2 xs ys 0).length c3).ownBlock)) := appK HO3.out (HX.out.below HB3.out) (by have := HN.out; simp [cat2]; omega) HB3.out.size
          have HOB : Hid (∀ j, (Value.slice a3 (cat2 xs ys 0).length c3).ownBlock = some j → w.heap.size ≤ j) := fun j hj => (HO3.out.lt j hj).1
          go_wp2_with (at_builtin; (refine wl_append_ex rfl _ _ 25 rfl _ _ rfl rfl HAP.out ?_; rintro v' u' ⟨ho, hg⟩; have HO4 : Hid (u'.ownsRow w.heap.size 70 3 v' (cat2 xs ys 1).length (ksR (cat2 xs ys 1))) := ho; have HB4 : Hid (Below w.heap.size w u') := HB3.out.grown hg HB3.out.size HOB.out; clear ho hg HAP HOB HO3 HB3 q1 hb3))
          exact ⟨⟨1, by omega, by go_num, HO4.out, HB4.out⟩, by simp [intOf]⟩
        · have q1 := (HB3.out.cell (p := ⟨b, 1, none⟩) hb).trans HK2.out
          have hb3 : b < wr.heap.size := Nat.lt_of_lt_of_le hb HB3.out.size
          have HAP : Hid (∃ v' u', (Builtin.append_ #[25, 25] 25 #[.slice a3 (cat2 xs ys 1).length c3, .slice a2 ys.length c2]).run Try.prog wr = .ok v' u' ∧ (u'.ownsRow w.heap.size 70 3 v' (cat2 xs ys 1 ++ ys).length (ksR (cat2 xs ys 1 ++ ys)) ∧ wr.grownBy u' (Value.slice a3 (cat2 xs ys 1).length c3).ownBlock)) := appK HO3.out (HY.out.below HB3.out) (by have := HN.out; simp [cat2]; omega) HB3.out.size
          have HOB : Hid (∀ j, (Value.slice a3 (cat2 xs ys 1).length c3).ownBlock = some j → w.heap.size ≤ j) := fun j hj => (HO3.out.lt j hj).1
          go_wp2_with (at_builtin; (refine wl_append_ex rfl _ _ 25 rfl _ _ rfl rfl HAP.out ?_; rintro v' u' ⟨ho, hg⟩; have HO4 : Hid (u'.ownsRow w.heap.size 70 3 v' (cat2 xs ys 2).length (ksR (cat2 xs ys 2))) := ho; have HB4 : Hid (Below w.heap.size w u') := HB3.out.grown hg HB3.out.size HOB.out; clear ho hg HAP HOB HO3 HB3 q1 hb3))
          exact ⟨⟨2, by omega, by go_num, HO4.out, HB4.out⟩, by simp [intOf]⟩
        · go_wp2
          go_ret
          exact ⟨_, rfl, HO3.out, HB3.out⟩
end Go.Proofs.Ytniaohflkopncaa
