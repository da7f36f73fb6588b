import Derived.Test.YtblmodlpopnckaaCt1
import Derived.Test.YtblmodlpopnckaaRowFZ
import Derived.Test.YtblmodlpopnckaaLG
import Derived.Test.YtblmodlpopnckaaHl
import Derived.Laws.OwnMore
namespace Go.Proofs.Ytblmodlpopnckaa
open Go.ChangeShapes Go.WideShapes Go.ChangeAt Go.RowKit

/-- The marks of element i, from k on. -/
def mfZ (k i : Nat) : FT := ⟨mtx ((k + 3 * i : Nat) : Int), ((k + 3 * i + 1 : Nat) : Int), mtx ((k + 3 * i + 2 : Nat) : Int)⟩
def mfK (k n : Nat) : List FT := (List.range n).map (mfZ k)
theorem mfK_len (k n : Nat) : (mfK k n).length = n := by simp [mfK]
/-- The first i are marked. -/
def mfJ (k i : Nat) (zs : List FT) : List FT := mfK k i ++ zs.drop i
theorem mfJ_len (k i : Nat) (zs : List FT) (h : i ≤ zs.length) : (mfJ k i zs).length = zs.length := by
  simp [mfJ, mfK_len]
  omega
theorem mfJ_step (k i : Nat) (zs : List FT) (h : i < zs.length) : (mfJ k i zs).set i (mfZ k i) = mfJ k (i + 1) zs := by
  unfold mfJ
  rw [List.set_append_right _ _ (by rw [mfK_len]; omega), mfK_len, Nat.sub_self, List.drop_eq_getElem_cons h, List.set_cons_zero]
  have : mfK k (i + 1) = mfK k i ++ [mfZ k i] := by simp [mfK, List.range_succ]
  rw [this, List.append_assoc]
  rfl
theorem mfJ_all (k : Nat) (zs : List FT) : mfJ k zs.length zs = mfK k zs.length := by simp [mfJ]
theorem mf_gset {u w : World} {b : Nat} (h : u.grownBy w (some b)) (i : Nat) (v : Value) : u.grownBy (w.setCell ⟨b, i, none⟩ v) (some b) := ⟨h.os, h.tape, h.output, by simpa [World.setCell] using h.size, fun k hk hn => (Below.heap_setCell _ _ _ _ (fun e => hn (congrArg some e))).trans (h.block k hk hn)⟩
theorem mf_gbel {u w w' : World} {b : Nat} (h : u.grownBy w (some b)) (hb : Below w.heap.size w w') : u.grownBy w' (some b) := ⟨hb.os.trans h.os, hb.tape.trans h.tape, hb.output.trans h.output, Nat.le_trans h.size hb.size, fun k hk hn => (hb.block k (Nat.lt_of_lt_of_le hk h.size)).trans (h.block k hk hn)⟩
theorem mf_own {w : World} {B g cap n : Nat} {xs : List Value} (h : w.ownsRow B 40 3 (.slice (some ⟨g, 0, none⟩) n cap) n xs) (j : Nat) (u : Value) : (w.setCell ⟨g, j, none⟩ u).ownsRow B 40 3 (.slice (some ⟨g, 0, none⟩) n cap) n (xs.set j u) := (h.stored j u).1
set_option maxRecDepth 100000 in
set_option maxHeartbeats 4000000 in
theorem markFT_ok {w : World} {B : Nat} {v : Value} {zs : List FT} (k0 : Nat) (h : w.ownsRow B 40 3 v zs.length (ftR zs)) (hn : zs.length ≤ 1048576) (hk1 : 1 ≤ k0) (hk2 : k0 ≤ 140737488355328) :
    Calls Try.prog 26 #[v, .int .i64 (k0 : Nat)] w fun e w' => e = .returned (.int .i64 ((k0 + 3 * zs.length : Nat) : Int)) ∧ w'.ownsRow B 40 3 v zs.length (ftR (mfK k0 zs.length)) ∧ w.grownBy w' v.ownBlock := by
  rcases h.2 with ⟨hv, e⟩ | ⟨g, cap, cur, hv, hB, hg, hc, rest⟩
  · subst hv
    have hz : zs = [] := List.eq_nil_of_length_eq_zero e
    subst hz
    go_enter Try.func26, Try.ntmps26
    go_wp2
    go_loopw [1, 5] (fun y i wr => y = .int .i64 (k0 : Nat) ∧ i = .int .i64 0 ∧ wr = w) (fun _ _ _ => 0)
    case atStart => exact ⟨rfl, rfl, rfl⟩
    case round =>
      obtain ⟨rfl, rfl, rfl⟩ := hrel
      go_wp2
      go_ret
      exact ⟨by simp, World.ownsRow_nil _ _ _ _, ⟨rfl, rfl, rfl, Nat.le_refl _, fun _ _ _ => rfl⟩⟩
  · subst hv
    have HOW : Hid (w.ownsRow B 40 3 (.slice (some ⟨g, 0, none⟩) zs.length cap) zs.length (ftR zs)) := h
    have hgw : g < w.heap.size := (Array.getElem?_eq_some_iff.1 hg).1
    clear h rest hc hg
    go_enter Try.func26, Try.ntmps26
    go_wp2
    go_loopw [1, 5] (fun y i wr => ∃ k : Nat, k ≤ zs.length ∧ y = .int .i64 ((k0 + 3 * k : Nat) : Int) ∧ i = .int .i64 k ∧ wr.ownsRow B 40 3 (.slice (some ⟨g, 0, none⟩) zs.length cap) zs.length (ftR (mfJ k0 k zs)) ∧ w.grownBy wr (some g)) (fun _ i _ => zs.length - (intOf i).toNat)
    case atStart => exact ⟨0, Nat.zero_le _, rfl, rfl, HOW.out, ⟨rfl, rfl, rfl, Nat.le_refl _, fun _ _ _ => rfl⟩⟩
    case round =>
      obtain ⟨k, hk, rfl, rfl, hown, hgr⟩ := hrel
      clear HOW
      have HO0 : Hid (wr.ownsRow B 40 3 (.slice (some ⟨g, 0, none⟩) zs.length cap) zs.length (ftR (mfJ k0 k zs))) := hown
      have HG0 : Hid (w.grownBy wr (some g)) := hgr
      clear hown hgr
      by_cases hlt : k < zs.length
      · have hLn : (ftR (mfJ k0 k zs)).length = zs.length * 3 := by rw [ftR_len, mfJ_len _ _ _ hk]
        have HC : Hid (∀ {x : World} {ys : List Value} (j : Nat), ys.length = zs.length * 3 → j < zs.length * 3 → x.ownsRow B 40 3 (.slice (some ⟨g, 0, none⟩) zs.length cap) zs.length ys → (∃ y, x.cell? ⟨g, j, none⟩ = some y) ∧ x.frozen? ⟨g, j, none⟩ = false) := (fun {x ys} j hl hj ho => ⟨⟨ys[j]'(by omega), by rw [ho.cellAt j (by omega), List.getElem?_eq_getElem (by omega)]⟩, ho.frozenAt j⟩)
        have HST : Hid ((((ftR (mfJ k0 k zs)).set (k * 3) (.string (mfZ k0 k).name)).set (k * 3 + 1) (.int .i64 (mfZ k0 k).rev)).set (k * 3 + 2) (.string (mfZ k0 k).body) = ftR (mfJ k0 (k + 1) zs)) := (show _ = _ by rw [ftR_set _ _ _ (by rw [mfJ_len _ _ _ hk]; exact hlt), mfJ_step _ _ _ hlt])
        have HF0 : Hid ((mfZ k0 k).name = mtx ((k0 + 3 * k : Nat) : Int)) := rfl
        have HF1 : Hid ((mfZ k0 k).rev = ((k0 + 3 * k + 1 : Nat) : Int)) := rfl
        have HF2 : Hid ((mfZ k0 k).body = mtx ((k0 + 3 * k + 2 : Nat) : Int)) := rfl
        rw [HF0.out, HF1.out, HF2.out] at HST
        have HM0 : Hid (∀ (x : Int) u, x = ((k0 + 3 * k : Nat) : Int) + 0 → Calls Try.prog 48 #[.int .i64 x] u fun e w' => e = .returned (.string (mtx ((k0 + 3 * k : Nat) : Int))) ∧ Below u.heap.size u w') := (fun x u hx => by rw [show x = ((k0 + 3 * k : Nat) : Int) by omega]; exact markText_any (k0 + 3 * k) (by omega) (by omega) u)
        have HM2 : Hid (∀ (x : Int) u, x = ((k0 + 3 * k : Nat) : Int) + 2 → Calls Try.prog 48 #[.int .i64 x] u fun e w' => e = .returned (.string (mtx ((k0 + 3 * k + 2 : Nat) : Int))) ∧ Below u.heap.size u w') := (fun x u hx => by rw [show x = ((k0 + 3 * k + 2 : Nat) : Int) by omega]; exact markText_any (k0 + 3 * k + 2) (by omega) (by omega) u)
        generalize mtx ((k0 + 3 * k : Nat) : Int) = t0 at *
        generalize mtx ((k0 + 3 * k + 2 : Nat) : Int) = t2 at *
        obtain ⟨K, hK⟩ : ∃ K : Nat, k0 + 3 * k = K := ⟨_, rfl⟩
        have HK : Hid (k0 + 3 * k = K) := hK
        rw [show ((k0 + 3 * k + 1 : Nat) : Int) = (K : Int) + 1 by omega] at HST
        rw [hK] at HM0 HM2
        rw [hK]
        have hKb : K ≤ 281474976710656 := by omega
        clear hK HF0 HF1 HF2
        have hk0 : (0 : Int) ≤ (k : Int) := by omega
        have hk1' : (k : Int) < (zs.length : Int) := by omega
        have hk9 : (k : Int) ≤ 1048576 := by omega
        go_wp2_with fail
        refine Calls.mono (HM0.out _ _ (by omega)) ?_
        rintro e x0a ⟨rfl, hu⟩
        have HO0a : Hid (x0a.ownsRow B 40 3 (.slice (some ⟨g, 0, none⟩) zs.length cap) zs.length (ftR (mfJ k0 k zs))) := ft_below HO0.out hu
        have HG0a : Hid (w.grownBy x0a (some g)) := mf_gbel HG0.out hu
        clear hu HO0 HG0
        obtain ⟨⟨z0, c0⟩, f0⟩ := HC.out (k * 3) hLn (by omega) HO0a.out
        have hgw0 : g < x0a.heap.size := Nat.lt_of_lt_of_le hgw HG0a.out.size
        have HO1 : Hid ((x0a.setCell ⟨g, k * 3, none⟩ (.string t0)).ownsRow B 40 3 (.slice (some ⟨g, 0, none⟩) zs.length cap) zs.length ((ftR (mfJ k0 k zs)).set (k * 3) (.string t0))) := mf_own HO0a.out _ _
        have HG1 : Hid (w.grownBy (x0a.setCell ⟨g, k * 3, none⟩ (.string t0)) (some g)) := mf_gset HG0a.out _ _
        go_upto_region 6 with fail
        generalize (x0a.setCell ⟨g, k * 3, none⟩ (.string t0)) = x1 at *
        generalize hy1 : (ftR (mfJ k0 k zs)).set (k * 3) (.string t0) = y1 at *
        have hL1 : y1.length = zs.length * 3 := by rw [← hy1, List.length_set]; exact hLn
        clear HO0a HG0a c0 f0 hgw0
        obtain ⟨⟨z1, c1⟩, f1⟩ := HC.out (k * 3 + 1) hL1 (by omega) HO1.out
        have hgw1 : g < x1.heap.size := Nat.lt_of_lt_of_le hgw HG1.out.size
        have HO2 : Hid ((x1.setCell ⟨g, k * 3 + 1, none⟩ (.int .i64 ((K : Int) + 1))).ownsRow B 40 3 (.slice (some ⟨g, 0, none⟩) zs.length cap) zs.length ((y1).set (k * 3 + 1) (.int .i64 ((K : Int) + 1)))) := mf_own HO1.out _ _
        have HG2 : Hid (w.grownBy (x1.setCell ⟨g, k * 3 + 1, none⟩ (.int .i64 ((K : Int) + 1))) (some g)) := mf_gset HG1.out _ _
        go_upto_region 8 with fail
        generalize (x1.setCell ⟨g, k * 3 + 1, none⟩ (.int .i64 ((K : Int) + 1))) = x2 at *
        generalize hy2 : (y1).set (k * 3 + 1) (.int .i64 ((K : Int) + 1)) = y2 at *
        have hL2 : y2.length = zs.length * 3 := by rw [← hy2, List.length_set]; exact hL1
        clear HO1 HG1 c1 f1 hgw1
        go_wp2_with fail
        refine Calls.mono (HM2.out _ _ (by omega)) ?_
        rintro e x2a ⟨rfl, hu⟩
        have HO2a : Hid (x2a.ownsRow B 40 3 (.slice (some ⟨g, 0, none⟩) zs.length cap) zs.length (y2)) := ft_below HO2.out hu
        have HG2a : Hid (w.grownBy x2a (some g)) := mf_gbel HG2.out hu
        clear hu HO2 HG2
        obtain ⟨⟨z2, c2⟩, f2⟩ := HC.out (k * 3 + 2) hL2 (by omega) HO2a.out
        have hgw2 : g < x2a.heap.size := Nat.lt_of_lt_of_le hgw HG2a.out.size
        have HO3 : Hid ((x2a.setCell ⟨g, k * 3 + 2, none⟩ (.string t2)).ownsRow B 40 3 (.slice (some ⟨g, 0, none⟩) zs.length cap) zs.length (ftR (mfJ k0 (k + 1) zs))) := (show _ by rw [← HST.out]; exact mf_own HO2a.out _ _)
        have HG3 : Hid (w.grownBy (x2a.setCell ⟨g, k * 3 + 2, none⟩ (.string t2)) (some g)) := mf_gset HG2a.out _ _
        clear HO2a HG2a
        go_wp2
        exact ⟨⟨k + 1, hlt, by have := HK.out; simp; omega, by go_num, HO3.out, HG3.out⟩, by simp [intOf]; omega⟩
      · obtain rfl : k = zs.length := by omega
        rw [mfJ_all] at HO0
        go_wp2
        go_ret
        exact ⟨rfl, HO0.out, HG0.out⟩
set_option maxRecDepth 100000 in
set_option maxHeartbeats 4000000 in
theorem heldFT_ok {w : World} {v : Value} (k0 n : Nat) (h : FTrow w v (mfK k0 n)) (hn : n ≤ 1048576) (hk1 : 1 ≤ k0) (hk2 : k0 ≤ 140737488355328) :
    Calls Try.prog 27 #[v, .int .i64 (k0 : Nat)] w fun e w' => e = .returned (.int .i64 ((k0 + 3 * n : Nat) : Int)) ∧ Below w.heap.size w w' := by
  obtain ⟨ao, cap, rfl⟩ := h.sl
  have HR : Hid (FTrow w (.slice ao (mfK k0 n).length cap) (mfK k0 n)) := h
  rw [mfK_len] at HR ⊢
  clear h
  go_enter Try.func27, Try.ntmps27
  go_wp2
  go_loopw [1, 5] (fun y i wr => ∃ k : Nat, k ≤ n ∧ y = .int .i64 ((k0 + 3 * k : Nat) : Int) ∧ i = .int .i64 k ∧ Below w.heap.size w wr) (fun _ i _ => n - (intOf i).toNat)
  case atStart => exact ⟨0, Nat.zero_le _, rfl, rfl, Below.refl _ _⟩
  case round =>
    obtain ⟨k, hk, rfl, rfl, hb⟩ := hrel
    have HB : Hid (Below w.heap.size w wr) := hb
    by_cases hlt : k < n
    · obtain ⟨g, o, cap2, hv, _, hg, hc⟩ := HR.out.resolve_left (fun h => by have := congrArg List.length h.1; rw [mfK_len] at this; simp at this; omega)
      injection hv with hv1 hv2 hv3
      subst hv1 hv3
      have hlk : k < (mfK k0 n).length := by rw [mfK_len]; exact hlt
      have hz : (mfK k0 n)[k] = mfZ k0 k := by simp [mfK]
      obtain ⟨d0, d1, d2⟩ := hc k hlk
      rw [hz] at d0 d1 d2
      have HM0 : Hid (∀ (x : Int) u, x = ((k0 + 3 * k : Nat) : Int) + 0 → Calls Try.prog 48 #[.int .i64 x] u fun e w' => e = .returned (.string (mfZ k0 k).name) ∧ Below u.heap.size u w') := (fun x u hx => by rw [show x = ((k0 + 3 * k : Nat) : Int) by omega]; exact markText_any (k0 + 3 * k) (by omega) (by omega) u)
      have hs1 : (mfZ k0 k).rev = ((k0 + 3 * k + 1 : Nat) : Int) := rfl
      rw [hs1] at d1
      have HM2 : Hid (∀ (x : Int) u, x = ((k0 + 3 * k : Nat) : Int) + 2 → Calls Try.prog 48 #[.int .i64 x] u fun e w' => e = .returned (.string (mfZ k0 k).body) ∧ Below u.heap.size u w') := (fun x u hx => by rw [show x = ((k0 + 3 * k + 2 : Nat) : Int) by omega]; exact markText_any (k0 + 3 * k + 2) (by omega) (by omega) u)
      generalize (mfZ k0 k).name = t0 at *
      generalize (mfZ k0 k).body = t2 at *
      obtain ⟨K, hK⟩ : ∃ K : Nat, k0 + 3 * k = K := ⟨_, rfl⟩
      have HK : Hid (k0 + 3 * k = K) := hK
      rw [show ((k0 + 3 * k + 1 : Nat) : Int) = (K : Int) + 1 by omega] at d1
      rw [hK] at HM0 HM2
      rw [hK]
      have hKb : K ≤ 281474976710656 := by omega
      have HD : Hid (∀ u, Below w.heap.size w u → u.cell? ⟨g, o + k * 3, none⟩ = some (.string t0) ∧ u.cell? ⟨g, o + k * 3 + 1, none⟩ = some (.int .i64 ((K : Int) + 1)) ∧ u.cell? ⟨g, o + k * 3 + 2, none⟩ = some (.string t2) ∧ g < u.heap.size) := (fun u hu => ⟨((bcell hu).1 g _ hg).trans d0, ((bcell hu).1 g _ hg).trans d1, ((bcell hu).1 g _ hg).trans d2, Nat.lt_of_lt_of_le hg hu.size⟩)
      have hk0 : (0 : Int) ≤ (k : Int) := by omega
      have hk1' : (k : Int) < (n : Int) := by omega
      have q0 : (t0.toList == t0.toList) = true := beq_self_eq_true _
      have q1 : (((K : Int) + 1) != ((K : Int) + 1)) = false := by simp
      have q2 : (t2.toList == t2.toList) = true := beq_self_eq_true _
      clear hK hs1 hc d0 d1 d2 hz hb hlk hv2
      go_upto_region 4 with fail
      have HD0 : Hid (Below w.heap.size w wr.drew) := bdn HB.out 1
      refine wp_region_held (S := fun w9 => w9.cell? ⟨g, o + k * 3, none⟩ = some (.string t0) ∧ w9.cell? ⟨g, o + k * 3 + 1, none⟩ = some (.int .i64 ((K : Int) + 1)) ∧ w9.cell? ⟨g, o + k * 3 + 2, none⟩ = some (.string t2) ∧ g < w9.heap.size) (by kernel_rfl) ?_
      change wpAnyH _ _ _ _ _ _ _ _ (World.drew _)
      refine wpAnyH_take (i := 0) (v := .slice (some ⟨g, o, none⟩) n cap) rfl (by kernel_rfl) (by kernel_rfl) (by kernel_rfl) (fun _ _ _ h => h) (Or.inl ⟨by kernel_rfl, fun w9 h9 => ?_⟩) (HD.out _ HD0.out) ?_
      · go_simp
      refine wpAnyH_take (i := 1) (v := .int .i64 (k : Nat)) rfl (by kernel_rfl) (by kernel_rfl) (by kernel_rfl) (fun _ _ _ h => h) (Or.inl ⟨by kernel_rfl, fun w9 h9 => ?_⟩) (HD.out _ HD0.out) ?_
      · go_simp
      refine wpAnyH_take (i := 2) (v := .pointer (some ⟨g, o + k * 3, none⟩)) rfl (by kernel_rfl) (by kernel_rfl) (by kernel_rfl) (fun _ _ _ h => h) (Or.inl ⟨by kernel_rfl, fun w9 h9 => ?_⟩) (HD.out _ HD0.out) ?_
      · go_simp
      refine wpAnyH_take (i := 3) (v := .pointer (some ⟨g, o + k * 3, none⟩)) rfl (by kernel_rfl) (by kernel_rfl) (by kernel_rfl) (fun _ _ _ h => h) (Or.inl ⟨by kernel_rfl, fun w9 h9 => ?_⟩) (HD.out _ HD0.out) ?_
      · go_simp
      refine wpAnyH_take (i := 4) (v := .string t0) rfl (by kernel_rfl) (by kernel_rfl) (by kernel_rfl) (fun _ _ _ h => h) (Or.inl ⟨by kernel_rfl, fun w9 h9 => ?_⟩) (HD.out _ HD0.out) ?_
      · obtain ⟨x0, x1, x2, xl⟩ := h9; go_simp
      refine wpAnyH_take (i := 5) (v := .int .i64 ((K : Int))) rfl (by kernel_rfl) (by kernel_rfl) (by kernel_rfl) (fun _ _ _ h => h) (Or.inl ⟨by kernel_rfl, fun w9 h9 => ?_⟩) (HD.out _ HD0.out) ?_
      · go_simp
      refine held_one 6 (by kernel_rfl) rfl (by kernel_rfl) fun K hK => ?_
      go_simp
      go_wp2_with (go_at_call 48; refine Calls.mono (HM0.out _ _ (by omega)) ?_; rintro e v0 ⟨rfl, hu⟩; have HV0 : Hid (Below w.heap.size w v0) := HD0.out.trans (hu.mono HD0.out.size); clear hu)
      refine hK _ _ (HD.out _ HV0.out) ?_
      clear hK K
      refine wpAnyH_take (i := 7) (v := .bool false) rfl (by kernel_rfl) (by kernel_rfl) (by kernel_rfl) (fun _ _ _ h => h) (Or.inl ⟨by kernel_rfl, fun w9 h9 => ?_⟩) (HD.out _ HV0.out) ?_
      · go_simp
      refine wpAnyH_done (by kernel_rfl) ?_ _
      go_simp
      obtain ⟨p0, p1, p2, pl⟩ := HD.out _ HV0.out
      go_upto_region 10 with fail
      clear p0 p1 p2 pl
      have HD2 : Hid (Below w.heap.size w v0.drew) := bdn HV0.out 1
      refine wp_region_held (S := fun w9 => w9.cell? ⟨g, o + k * 3, none⟩ = some (.string t0) ∧ w9.cell? ⟨g, o + k * 3 + 1, none⟩ = some (.int .i64 ((K : Int) + 1)) ∧ w9.cell? ⟨g, o + k * 3 + 2, none⟩ = some (.string t2) ∧ g < w9.heap.size) (by kernel_rfl) ?_
      change wpAnyH _ _ _ _ _ _ _ _ (World.drew _)
      refine wpAnyH_take (i := 0) (v := .slice (some ⟨g, o, none⟩) n cap) rfl (by kernel_rfl) (by kernel_rfl) (by kernel_rfl) (fun _ _ _ h => h) (Or.inl ⟨by kernel_rfl, fun w9 h9 => ?_⟩) (HD.out _ HD2.out) ?_
      · go_simp
      refine wpAnyH_take (i := 1) (v := .int .i64 (k : Nat)) rfl (by kernel_rfl) (by kernel_rfl) (by kernel_rfl) (fun _ _ _ h => h) (Or.inl ⟨by kernel_rfl, fun w9 h9 => ?_⟩) (HD.out _ HD2.out) ?_
      · go_simp
      refine wpAnyH_take (i := 2) (v := .pointer (some ⟨g, o + k * 3, none⟩)) rfl (by kernel_rfl) (by kernel_rfl) (by kernel_rfl) (fun _ _ _ h => h) (Or.inl ⟨by kernel_rfl, fun w9 h9 => ?_⟩) (HD.out _ HD2.out) ?_
      · go_simp
      refine wpAnyH_take (i := 3) (v := .pointer (some ⟨g, o + k * 3 + 2, none⟩)) rfl (by kernel_rfl) (by kernel_rfl) (by kernel_rfl) (fun _ _ _ h => h) (Or.inl ⟨by kernel_rfl, fun w9 h9 => ?_⟩) (HD.out _ HD2.out) ?_
      · go_simp
      refine wpAnyH_take (i := 4) (v := .string t2) rfl (by kernel_rfl) (by kernel_rfl) (by kernel_rfl) (fun _ _ _ h => h) (Or.inl ⟨by kernel_rfl, fun w9 h9 => ?_⟩) (HD.out _ HD2.out) ?_
      · obtain ⟨x0, x1, x2, xl⟩ := h9; go_simp
      refine wpAnyH_take (i := 5) (v := .int .i64 ((K : Int) + 1 + 1)) rfl (by kernel_rfl) (by kernel_rfl) (by kernel_rfl) (fun _ _ _ h => h) (Or.inl ⟨by kernel_rfl, fun w9 h9 => ?_⟩) (HD.out _ HD2.out) ?_
      · go_simp
      refine held_one 6 (by kernel_rfl) rfl (by kernel_rfl) fun K hK => ?_
      go_simp
      go_wp2_with (go_at_call 48; refine Calls.mono (HM2.out _ _ (by omega)) ?_; rintro e v2 ⟨rfl, hu⟩; have HV2 : Hid (Below w.heap.size w v2) := HD2.out.trans (hu.mono HD2.out.size); clear hu)
      refine hK _ _ (HD.out _ HV2.out) ?_
      clear hK K
      refine wpAnyH_take (i := 7) (v := .bool false) rfl (by kernel_rfl) (by kernel_rfl) (by kernel_rfl) (fun _ _ _ h => h) (Or.inl ⟨by kernel_rfl, fun w9 h9 => ?_⟩) (HD.out _ HV2.out) ?_
      · go_simp
      refine wpAnyH_done (by kernel_rfl) ?_ _
      go_simp
      go_wp2
      exact ⟨⟨k + 1, hlt, by have := HK.out; simp; omega, by go_num, HV2.out⟩, by simp [intOf]; omega⟩
    · obtain rfl : k = n := by omega
      clear hb
      go_wp2
      go_ret
      exact ⟨rfl, HB.out⟩
end Go.Proofs.Ytblmodlpopnckaa
