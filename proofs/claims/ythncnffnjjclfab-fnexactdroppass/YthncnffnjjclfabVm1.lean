import Derived.Test.YthncnffnjjclfabCt1
import Derived.Test.YthncnffnjjclfabRowKS3
import Derived.Test.YthncnffnjjclfabLG
import Derived.Test.YthncnffnjjclfabHl
import Derived.Laws.OwnMore
namespace Go.Proofs.Ythncnffnjjclfab
open Go.ChangeShapes Go.WideShapes Go.ChangeAt Go.RowKit

/-- The marks of slot i, from k on. -/
def mkZ (k i : Nat) : KS := ⟨((k + 3 * i : Nat) : Int), mtx ((k + 3 * i + 1 : Nat) : Int), mtx ((k + 3 * i + 2 : Nat) : Int)⟩
def mkK (k n : Nat) : List KS := (List.range n).map (mkZ k)
theorem mkK_len (k n : Nat) : (mkK k n).length = n := by simp [mkK]
/-- The first i are marked. -/
def mkJ (k i : Nat) (zs : List KS) : List KS := mkK k i ++ zs.drop i
theorem mkJ_len (k i : Nat) (zs : List KS) (h : i ≤ zs.length) : (mkJ k i zs).length = zs.length := by
  simp [mkJ, mkK_len]
  omega
theorem mkJ_step (k i : Nat) (zs : List KS) (h : i < zs.length) : (mkJ k i zs).set i (mkZ k i) = mkJ k (i + 1) zs := by
  unfold mkJ
  rw [List.set_append_right _ _ (by rw [mkK_len]; omega), mkK_len, Nat.sub_self, List.drop_eq_getElem_cons h, List.set_cons_zero]
  have : mkK k (i + 1) = mkK k i ++ [mkZ k i] := by simp [mkK, List.range_succ]
  rw [this, List.append_assoc]
  rfl
theorem mkJ_all (k : Nat) (zs : List KS) : mkJ k zs.length zs = mkK k zs.length := by simp [mkJ]
theorem gset15 {u w : World} {b : Nat} (h : u.grownBy w (some b)) (i : Nat) (v : Value) : u.grownBy (w.setCell ⟨b, i, none⟩ v) (some b) := ⟨h.os, h.tape, h.output, by simpa [World.setCell] using h.size, fun k hk hn => (Below.heap_setCell _ _ _ _ (fun e => hn (congrArg some e))).trans (h.block k hk hn)⟩
theorem gbel15 {u w w' : World} {b : Nat} (h : u.grownBy w (some b)) (hb : Below w.heap.size w w') : u.grownBy w' (some b) := ⟨hb.os.trans h.os, hb.tape.trans h.tape, hb.output.trans h.output, Nat.le_trans h.size hb.size, fun k hk hn => (hb.block k (Nat.lt_of_lt_of_le hk h.size)).trans (h.block k hk hn)⟩
theorem st_own {w : World} {B g cap n : Nat} {xs : List Value} (h : w.ownsRow B 79 3 (.slice (some ⟨g, 0, none⟩) n cap) n xs) (j : Nat) (u : Value) : (w.setCell ⟨g, j, none⟩ u).ownsRow B 79 3 (.slice (some ⟨g, 0, none⟩) n cap) n (xs.set j u) := (h.stored j u).1
set_option maxRecDepth 100000 in
set_option maxHeartbeats 4000000 in
theorem markKS_ok {w : World} {B : Nat} {v : Value} {zs : List KS} (k0 : Nat) (h : w.ownsRow B 79 3 v zs.length (ksR zs)) (hn : zs.length ≤ 1048576) (hk1 : 1 ≤ k0) (hk2 : k0 ≤ 140737488355328) :
    Calls Try.prog 47 #[v, .int .i64 (k0 : Nat)] w fun e w' => e = .returned (.int .i64 ((k0 + 3 * zs.length : Nat) : Int)) ∧ w'.ownsRow B 79 3 v zs.length (ksR (mkK k0 zs.length)) ∧ w.grownBy w' v.ownBlock := by
  rcases h.2 with ⟨hv, e⟩ | ⟨g, cap, cur, hv, hB, hg, hc, rest⟩
  · subst hv
    have hz : zs = [] := List.eq_nil_of_length_eq_zero e
    subst hz
    go_enter Try.func47, Try.ntmps47
    go_wp2
    go_loopw [1, 5] (fun y i wr => y = .int .i64 (k0 : Nat) ∧ i = .int .i64 0 ∧ wr = w) (fun _ _ _ => 0)
    case atStart => exact ⟨rfl, rfl, rfl⟩
    case round =>
      obtain ⟨rfl, rfl, rfl⟩ := hrel
      go_wp2
      go_ret
      exact ⟨by simp, World.ownsRow_nil _ _ _ _, ⟨rfl, rfl, rfl, Nat.le_refl _, fun _ _ _ => rfl⟩⟩
  · subst hv
    have HOW : Hid (w.ownsRow B 79 3 (.slice (some ⟨g, 0, none⟩) zs.length cap) zs.length (ksR zs)) := h
    have hgw : g < w.heap.size := (Array.getElem?_eq_some_iff.1 hg).1
    clear h rest hc hg
    go_enter Try.func47, Try.ntmps47
    go_wp2
    go_loopw [1, 5] (fun y i wr => ∃ k : Nat, k ≤ zs.length ∧ y = .int .i64 ((k0 + 3 * k : Nat) : Int) ∧ i = .int .i64 k ∧ wr.ownsRow B 79 3 (.slice (some ⟨g, 0, none⟩) zs.length cap) zs.length (ksR (mkJ k0 k zs)) ∧ w.grownBy wr (some g)) (fun _ i _ => zs.length - (intOf i).toNat)
    case atStart => exact ⟨0, Nat.zero_le _, rfl, rfl, HOW.out, ⟨rfl, rfl, rfl, Nat.le_refl _, fun _ _ _ => rfl⟩⟩
    case round =>
      obtain ⟨k, hk, rfl, rfl, hown, hgr⟩ := hrel
      clear HOW
      have HO : Hid (wr.ownsRow B 79 3 (.slice (some ⟨g, 0, none⟩) zs.length cap) zs.length (ksR (mkJ k0 k zs))) := hown
      have HG : Hid (w.grownBy wr (some g)) := hgr
      have hgw2 : g < wr.heap.size := Nat.lt_of_lt_of_le hgw hgr.size
      clear hown hgr
      by_cases hlt : k < zs.length
      · have hLn : (ksR (mkJ k0 k zs)).length = zs.length * 3 := by rw [ksR_len, mkJ_len _ _ _ hk]
        have HC : Hid (∀ {x : World} {ys : List Value} (j : Nat), ys.length = zs.length * 3 → j < zs.length * 3 → x.ownsRow B 79 3 (.slice (some ⟨g, 0, none⟩) zs.length cap) zs.length ys → (∃ y, x.cell? ⟨g, j, none⟩ = some y) ∧ x.frozen? ⟨g, j, none⟩ = false) := (fun {x ys} j hl hj ho => ⟨⟨ys[j]'(by omega), by rw [ho.cellAt j (by omega), List.getElem?_eq_getElem (by omega)]⟩, ho.frozenAt j⟩)
        have HST : Hid ((((ksR (mkJ k0 k zs)).set (k * 3) (.int .i64 (mkZ k0 k).salt)).set (k * 3 + 1) (.string (mkZ k0 k).key)).set (k * 3 + 2) (.string (mkZ k0 k).tag) = ksR (mkJ k0 (k + 1) zs)) := (show _ = _ by rw [ksR_set _ _ _ (by rw [mkJ_len _ _ _ hk]; exact hlt), mkJ_step _ _ _ hlt])
        have HSA : Hid ((mkZ k0 k).salt = ((k0 + 3 * k : Nat) : Int)) := rfl
        have HKE : Hid ((mkZ k0 k).key = mtx ((k0 + 3 * k + 1 : Nat) : Int)) := rfl
        have HTA : Hid ((mkZ k0 k).tag = mtx ((k0 + 3 * k + 2 : Nat) : Int)) := rfl
        rw [HSA.out, HKE.out, HTA.out] at HST
        have HM1 : Hid (∀ (x : Int) u, x = ((k0 + 3 * k : Nat) : Int) + 1 → Calls Try.prog 64 #[.int .i64 x] u fun e w' => e = .returned (.string (mtx ((k0 + 3 * k + 1 : Nat) : Int))) ∧ Below u.heap.size u w') := (fun x u hx => by rw [show x = ((k0 + 3 * k + 1 : Nat) : Int) by omega]; exact markText_any (k0 + 3 * k + 1) (by omega) (by omega) u)
        have HM2 : Hid (∀ (x : Int) u, x = ((k0 + 3 * k : Nat) : Int) + 2 → Calls Try.prog 64 #[.int .i64 x] u fun e w' => e = .returned (.string (mtx ((k0 + 3 * k + 2 : Nat) : Int))) ∧ Below u.heap.size u w') := (fun x u hx => by rw [show x = ((k0 + 3 * k + 2 : Nat) : Int) by omega]; exact markText_any (k0 + 3 * k + 2) (by omega) (by omega) u)
        generalize mtx ((k0 + 3 * k + 1 : Nat) : Int) = t1 at *
        generalize mtx ((k0 + 3 * k + 2 : Nat) : Int) = t2 at *
        obtain ⟨K, hK⟩ : ∃ K : Nat, k0 + 3 * k = K := ⟨_, rfl⟩
        have HK : Hid (k0 + 3 * k = K) := hK
        rw [hK] at HST HM1 HM2
        rw [hK]
        have hKb : K ≤ 281474976710656 := by omega
        clear hK HSA HKE HTA
        obtain ⟨⟨y0, c0⟩, f0⟩ := HC.out (k * 3) hLn (by omega) HO.out
        have hk0 : (0 : Int) ≤ (k : Int) := by omega
        have hk1' : (k : Int) < (zs.length : Int) := by omega
        have hk9 : (k : Int) ≤ 1048576 := by omega
        have HO1 : Hid ((wr.setCell ⟨g, k * 3, none⟩ (.int .i64 (K : Nat))).ownsRow B 79 3 (.slice (some ⟨g, 0, none⟩) zs.length cap) zs.length ((ksR (mkJ k0 k zs)).set (k * 3) (.int .i64 (K : Nat)))) := st_own HO.out _ _
        have HG1 : Hid (w.grownBy (wr.setCell ⟨g, k * 3, none⟩ (.int .i64 (K : Nat))) (some g)) := gset15 HG.out _ _
        go_upto_region 6 with fail
        generalize (wr.setCell ⟨g, k * 3, none⟩ (.int .i64 (K : Nat))) = x1 at *
        generalize hy1 : (ksR (mkJ k0 k zs)).set (k * 3) (.int .i64 (K : Nat)) = y1 at *
        have hL1 : y1.length = zs.length * 3 := by rw [← hy1, List.length_set]; exact hLn
        clear HO HG c0 f0 hgw2
        go_wp2_with fail
        refine Calls.mono (HM1.out _ _ (by omega)) ?_
        rintro e x2 ⟨rfl, hu⟩
        have HO2 : Hid (x2.ownsRow B 79 3 (.slice (some ⟨g, 0, none⟩) zs.length cap) zs.length y1) := ks_below HO1.out hu
        have HG2 : Hid (w.grownBy x2 (some g)) := gbel15 HG1.out hu
        clear hu HO1 HG1
        obtain ⟨⟨z1, c1⟩, f1⟩ := HC.out (k * 3 + 1) hL1 (by omega) HO2.out
        have hgw3 : g < x2.heap.size := Nat.lt_of_lt_of_le hgw HG2.out.size
        have HO3 : Hid ((x2.setCell ⟨g, k * 3 + 1, none⟩ (.string t1)).ownsRow B 79 3 (.slice (some ⟨g, 0, none⟩) zs.length cap) zs.length (y1.set (k * 3 + 1) (.string t1))) := st_own HO2.out _ _
        have HG3 : Hid (w.grownBy (x2.setCell ⟨g, k * 3 + 1, none⟩ (.string t1)) (some g)) := gset15 HG2.out _ _
        go_upto_region 8 with fail
        generalize (x2.setCell ⟨g, k * 3 + 1, none⟩ (.string t1)) = x3 at *
        generalize hy2 : y1.set (k * 3 + 1) (.string t1) = y2 at *
        have hL2 : y2.length = zs.length * 3 := by rw [← hy2, List.length_set]; exact hL1
        clear HO2 HG2 c1 f1 hgw3
        go_wp2_with fail
        refine Calls.mono (HM2.out _ _ (by omega)) ?_
        rintro e x4 ⟨rfl, hu⟩
        have HO4 : Hid (x4.ownsRow B 79 3 (.slice (some ⟨g, 0, none⟩) zs.length cap) zs.length y2) := ks_below HO3.out hu
        have HG4 : Hid (w.grownBy x4 (some g)) := gbel15 HG3.out hu
        clear hu HO3 HG3
        obtain ⟨⟨z2, c2⟩, f2⟩ := HC.out (k * 3 + 2) hL2 (by omega) HO4.out
        have hgw4 : g < x4.heap.size := Nat.lt_of_lt_of_le hgw HG4.out.size
        have HO5 : Hid ((x4.setCell ⟨g, k * 3 + 2, none⟩ (.string t2)).ownsRow B 79 3 (.slice (some ⟨g, 0, none⟩) zs.length cap) zs.length (ksR (mkJ k0 (k + 1) zs))) := (show _ by rw [← HST.out]; exact st_own HO4.out _ _)
        have HG5 : Hid (w.grownBy (x4.setCell ⟨g, k * 3 + 2, none⟩ (.string t2)) (some g)) := gset15 HG4.out _ _
        clear HO4 HG4
        go_wp2
        exact ⟨⟨k + 1, hlt, by have := HK.out; simp; omega, by go_num, HO5.out, HG5.out⟩, by simp [intOf]; omega⟩
      · obtain rfl : k = zs.length := by omega
        rw [mkJ_all] at HO
        go_wp2
        go_ret
        exact ⟨rfl, HO.out, HG.out⟩
set_option maxRecDepth 100000 in
set_option maxHeartbeats 4000000 in
theorem heldKS_ok {w : World} {v : Value} (k0 n : Nat) (h : KSrow w v (mkK k0 n)) (hn : n ≤ 1048576) (hk1 : 1 ≤ k0) (hk2 : k0 ≤ 140737488355328) :
    Calls Try.prog 96 #[v, .int .i64 (k0 : Nat)] w fun e w' => e = .returned (.int .i64 ((k0 + 3 * n : Nat) : Int)) ∧ Below w.heap.size w w' := by
  obtain ⟨ao, cap, rfl⟩ := h.sl
  have HR : Hid (KSrow w (.slice ao (mkK k0 n).length cap) (mkK k0 n)) := h
  rw [mkK_len] at HR ⊢
  clear h
  go_enter Try.func96, Try.ntmps96
  go_wp2
  go_loopw [1, 5] (fun y i wr => ∃ k : Nat, k ≤ n ∧ y = .int .i64 ((k0 + 3 * k : Nat) : Int) ∧ i = .int .i64 k ∧ Below w.heap.size w wr) (fun _ i _ => n - (intOf i).toNat)
  case atStart => exact ⟨0, Nat.zero_le _, rfl, rfl, Below.refl _ _⟩
  case round =>
    obtain ⟨k, hk, rfl, rfl, hb⟩ := hrel
    have HB : Hid (Below w.heap.size w wr) := hb
    by_cases hlt : k < n
    · obtain ⟨g, o, cap2, hv, _, hg, hc⟩ := HR.out.resolve_left (fun h => by have := congrArg List.length h.1; rw [mkK_len] at this; simp at this; omega)
      injection hv with hv1 hv2 hv3
      subst hv1 hv3
      have hlk : k < (mkK k0 n).length := by rw [mkK_len]; exact hlt
      have hz : (mkK k0 n)[k] = mkZ k0 k := by simp [mkK]
      obtain ⟨d0, d1, d2⟩ := hc k hlk
      rw [hz] at d0 d1 d2
      have HM1 : Hid (∀ (x : Int) u, x = ((k0 + 3 * k : Nat) : Int) + 1 → Calls Try.prog 64 #[.int .i64 x] u fun e w' => e = .returned (.string (mkZ k0 k).key) ∧ Below u.heap.size u w') := (fun x u hx => by rw [show x = ((k0 + 3 * k + 1 : Nat) : Int) by omega]; exact markText_any (k0 + 3 * k + 1) (by omega) (by omega) u)
      have HM2 : Hid (∀ (x : Int) u, x = ((k0 + 3 * k : Nat) : Int) + 2 → Calls Try.prog 64 #[.int .i64 x] u fun e w' => e = .returned (.string (mkZ k0 k).tag) ∧ Below u.heap.size u w') := (fun x u hx => by rw [show x = ((k0 + 3 * k + 2 : Nat) : Int) by omega]; exact markText_any (k0 + 3 * k + 2) (by omega) (by omega) u)
      have hsa : (mkZ k0 k).salt = ((k0 + 3 * k : Nat) : Int) := rfl
      rw [hsa] at d0
      generalize (mkZ k0 k).key = t1 at *
      generalize (mkZ k0 k).tag = t2 at *
      obtain ⟨K, hK⟩ : ∃ K : Nat, k0 + 3 * k = K := ⟨_, rfl⟩
      have HK : Hid (k0 + 3 * k = K) := hK
      rw [hK] at HM1 HM2 d0
      rw [hK]
      have hKb : K ≤ 281474976710656 := by omega
      have HD : Hid (∀ u, Below w.heap.size w u → u.cell? ⟨g, o + k * 3, none⟩ = some (.int .i64 (K : Nat)) ∧ u.cell? ⟨g, o + k * 3 + 1, none⟩ = some (.string t1) ∧ u.cell? ⟨g, o + k * 3 + 2, none⟩ = some (.string t2) ∧ g < u.heap.size) := (fun u hu => ⟨((bcell hu).1 g _ hg).trans d0, ((bcell hu).1 g _ hg).trans d1, ((bcell hu).1 g _ hg).trans d2, Nat.lt_of_lt_of_le hg hu.size⟩)
      obtain ⟨p0, -, -, pl⟩ := HD.out wr hb
      have hk0 : (0 : Int) ≤ (k : Int) := by omega
      have hk1' : (k : Int) < (n : Int) := by omega
      have q1 : (t1.toList == t1.toList) = true := beq_self_eq_true _
      have q2 : (t2.toList == t2.toList) = true := beq_self_eq_true _
      clear hK hsa hc d0 d1 d2 hz hb hlk hv2
      go_upto_region 7 with fail
      have HBD : Hid (Below w.heap.size w wr.drew) := bdn HB.out 1
      clear p0 pl
      refine wp_region_held (S := fun w9 => w9.cell? ⟨g, o + k * 3, none⟩ = some (.int .i64 (K : Nat)) ∧ w9.cell? ⟨g, o + k * 3 + 1, none⟩ = some (.string t1) ∧ w9.cell? ⟨g, o + k * 3 + 2, none⟩ = some (.string t2) ∧ g < w9.heap.size) (by kernel_rfl) ?_
      change wpAnyH _ _ _ _ _ _ _ _ (World.drew _)
      refine wpAnyH_take (i := 0) (v := .slice (some ⟨g, o, none⟩) n cap) rfl (by kernel_rfl) (by kernel_rfl) (by kernel_rfl) (fun _ _ _ h => h) (Or.inl ⟨by kernel_rfl, fun w9 h9 => ?_⟩) (HD.out _ HBD.out) ?_
      · go_simp
      refine wpAnyH_take (i := 1) (v := .int .i64 (k : Nat)) rfl (by kernel_rfl) (by kernel_rfl) (by kernel_rfl) (fun _ _ _ h => h) (Or.inl ⟨by kernel_rfl, fun w9 h9 => ?_⟩) (HD.out _ HBD.out) ?_
      · go_simp
      refine wpAnyH_take (i := 2) (v := .pointer (some ⟨g, o + k * 3, none⟩)) rfl (by kernel_rfl) (by kernel_rfl) (by kernel_rfl) (fun _ _ _ h => h) (Or.inl ⟨by kernel_rfl, fun w9 h9 => ?_⟩) (HD.out _ HBD.out) ?_
      · go_simp
      refine wpAnyH_take (i := 3) (v := .pointer (some ⟨g, o + k * 3 + 1, none⟩)) rfl (by kernel_rfl) (by kernel_rfl) (by kernel_rfl) (fun _ _ _ h => h) (Or.inl ⟨by kernel_rfl, fun w9 h9 => ?_⟩) (HD.out _ HBD.out) ?_
      · go_simp
      refine wpAnyH_take (i := 4) (v := .string t1) rfl (by kernel_rfl) (by kernel_rfl) (by kernel_rfl) (fun _ _ _ h => h) (Or.inl ⟨by kernel_rfl, fun w9 h9 => ?_⟩) (HD.out _ HBD.out) ?_
      · obtain ⟨x0, x1, x2, x3⟩ := h9; go_simp
      refine wpAnyH_take (i := 5) (v := .int .i64 ((K : Int) + 1)) rfl (by kernel_rfl) (by kernel_rfl) (by kernel_rfl) (fun _ _ _ h => h) (Or.inl ⟨by kernel_rfl, fun w9 h9 => ?_⟩) (HD.out _ HBD.out) ?_
      · go_simp
      refine held_one 6 (by kernel_rfl) rfl (by kernel_rfl) fun K hK => ?_
      go_simp
      go_wp2_with (go_at_call 64; refine Calls.mono (HM1.out _ _ (by omega)) ?_; rintro e v1 ⟨rfl, hu⟩; have HV1 : Hid (Below w.heap.size w v1) := HBD.out.trans (hu.mono HBD.out.size); clear hu)
      refine hK _ _ (HD.out _ HV1.out) ?_
      clear hK K
      refine wpAnyH_take (i := 7) (v := .bool false) rfl (by kernel_rfl) (by kernel_rfl) (by kernel_rfl) (fun _ _ _ h => h) (Or.inl ⟨by kernel_rfl, fun w9 h9 => ?_⟩) (HD.out _ HV1.out) ?_
      · go_simp
      refine wpAnyH_done (by kernel_rfl) ?_ _
      go_simp
      go_upto_region 10 with fail
      have HBD2 : Hid (Below w.heap.size w v1.drew) := bdn HV1.out 1
      refine wp_region_held (S := fun w9 => w9.cell? ⟨g, o + k * 3, none⟩ = some (.int .i64 (K : Nat)) ∧ w9.cell? ⟨g, o + k * 3 + 1, none⟩ = some (.string t1) ∧ w9.cell? ⟨g, o + k * 3 + 2, none⟩ = some (.string t2) ∧ g < w9.heap.size) (by kernel_rfl) ?_
      change wpAnyH _ _ _ _ _ _ _ _ (World.drew _)
      refine wpAnyH_take (i := 0) (v := .slice (some ⟨g, o, none⟩) n cap) rfl (by kernel_rfl) (by kernel_rfl) (by kernel_rfl) (fun _ _ _ h => h) (Or.inl ⟨by kernel_rfl, fun w9 h9 => ?_⟩) (HD.out _ HBD2.out) ?_
      · go_simp
      refine wpAnyH_take (i := 1) (v := .int .i64 (k : Nat)) rfl (by kernel_rfl) (by kernel_rfl) (by kernel_rfl) (fun _ _ _ h => h) (Or.inl ⟨by kernel_rfl, fun w9 h9 => ?_⟩) (HD.out _ HBD2.out) ?_
      · go_simp
      refine wpAnyH_take (i := 2) (v := .pointer (some ⟨g, o + k * 3, none⟩)) rfl (by kernel_rfl) (by kernel_rfl) (by kernel_rfl) (fun _ _ _ h => h) (Or.inl ⟨by kernel_rfl, fun w9 h9 => ?_⟩) (HD.out _ HBD2.out) ?_
      · go_simp
      refine wpAnyH_take (i := 3) (v := .pointer (some ⟨g, o + k * 3 + 2, none⟩)) rfl (by kernel_rfl) (by kernel_rfl) (by kernel_rfl) (fun _ _ _ h => h) (Or.inl ⟨by kernel_rfl, fun w9 h9 => ?_⟩) (HD.out _ HBD2.out) ?_
      · go_simp
      refine wpAnyH_take (i := 4) (v := .string t2) rfl (by kernel_rfl) (by kernel_rfl) (by kernel_rfl) (fun _ _ _ h => h) (Or.inl ⟨by kernel_rfl, fun w9 h9 => ?_⟩) (HD.out _ HBD2.out) ?_
      · obtain ⟨x0, x1, x2, x3⟩ := h9; go_simp
      refine wpAnyH_take (i := 5) (v := .int .i64 ((K : Int) + 1 + 1)) rfl (by kernel_rfl) (by kernel_rfl) (by kernel_rfl) (fun _ _ _ h => h) (Or.inl ⟨by kernel_rfl, fun w9 h9 => ?_⟩) (HD.out _ HBD2.out) ?_
      · go_simp
      refine held_one 6 (by kernel_rfl) rfl (by kernel_rfl) fun K hK => ?_
      go_simp
      go_wp2_with (go_at_call 64; refine Calls.mono (HM2.out _ _ (by omega)) ?_; rintro e v2 ⟨rfl, hu⟩; have HV2 : Hid (Below w.heap.size w v2) := HBD2.out.trans (hu.mono HBD2.out.size); clear hu)
      refine hK _ _ (HD.out _ HV2.out) ?_
      clear hK K
      refine wpAnyH_take (i := 7) (v := .bool false) rfl (by kernel_rfl) (by kernel_rfl) (by kernel_rfl) (fun _ _ _ h => h) (Or.inl ⟨by kernel_rfl, fun w9 h9 => ?_⟩) (HD.out _ HV2.out) ?_
      · go_simp
      refine wpAnyH_done (by kernel_rfl) ?_ _
      go_simp
      go_wp2
      exact ⟨⟨k + 1, hlt, by have := HK.out; simp; omega, by go_num, HV2.out⟩, by simp [intOf]; omega⟩
    · obtain rfl : k = n := by omega
      clear hb
      go_wp2
      go_ret
      exact ⟨rfl, HB.out⟩
end Go.Proofs.Ythncnffnjjclfab
