import Derived.Test.YtlpkkclmcgnapaaRowDV3
import Derived.Test.YtlpkkclmcgnapaaLG
import Derived.Test.YtlpkkclmcgnapaaHl
import Derived.Laws.OwnMore
namespace Go.Proofs.Ytlpkkclmcgnapaa
open Go.ChangeShapes Go.WideShapes Go.ChangeAt Go.RowKit

/-- The marks of element i, from k on. -/
def mdZ (k i : Nat) : DV := ⟨((k + 3 * i : Nat) : Int), ((k + 3 * i + 1 : Nat) : Int), ((k + 3 * i + 2 : Nat) : Int)⟩
def mdK (k n : Nat) : List DV := (List.range n).map (mdZ k)
theorem mdK_len (k n : Nat) : (mdK k n).length = n := by simp [mdK]
/-- The first i are marked. -/
def mdJ (k i : Nat) (zs : List DV) : List DV := mdK k i ++ zs.drop i
theorem mdJ_len (k i : Nat) (zs : List DV) (h : i ≤ zs.length) : (mdJ k i zs).length = zs.length := by
  simp [mdJ, mdK_len]
  omega
theorem mdJ_step (k i : Nat) (zs : List DV) (h : i < zs.length) : (mdJ k i zs).set i (mdZ k i) = mdJ k (i + 1) zs := by
  unfold mdJ
  rw [List.set_append_right _ _ (by rw [mdK_len]; omega), mdK_len, Nat.sub_self, List.drop_eq_getElem_cons h, List.set_cons_zero]
  have : mdK k (i + 1) = mdK k i ++ [mdZ k i] := by simp [mdK, List.range_succ]
  rw [this, List.append_assoc]
  rfl
theorem mdJ_all (k : Nat) (zs : List DV) : mdJ k zs.length zs = mdK k zs.length := by simp [mdJ]
theorem md_gset {u w : World} {b : Nat} (h : u.grownBy w (some b)) (i : Nat) (v : Value) : u.grownBy (w.setCell ⟨b, i, none⟩ v) (some b) := ⟨h.os, h.tape, h.output, by simpa [World.setCell] using h.size, fun k hk hn => (Below.heap_setCell _ _ _ _ (fun e => hn (congrArg some e))).trans (h.block k hk hn)⟩
theorem md_gbel {u w w' : World} {b : Nat} (h : u.grownBy w (some b)) (hb : Below w.heap.size w w') : u.grownBy w' (some b) := ⟨hb.os.trans h.os, hb.tape.trans h.tape, hb.output.trans h.output, Nat.le_trans h.size hb.size, fun k hk hn => (hb.block k (Nat.lt_of_lt_of_le hk h.size)).trans (h.block k hk hn)⟩
theorem md_own {w : World} {B g cap n : Nat} {xs : List Value} (h : w.ownsRow B 49 3 (.slice (some ⟨g, 0, none⟩) n cap) n xs) (j : Nat) (u : Value) : (w.setCell ⟨g, j, none⟩ u).ownsRow B 49 3 (.slice (some ⟨g, 0, none⟩) n cap) n (xs.set j u) := (h.stored j u).1
set_option maxRecDepth 100000 in
set_option maxHeartbeats 4000000 in
theorem markDV_ok {w : World} {B : Nat} {v : Value} {zs : List DV} (k0 : Nat) (h : w.ownsRow B 49 3 v zs.length (dvR zs)) (hn : zs.length ≤ 1048576) (hk1 : 1 ≤ k0) (hk2 : k0 ≤ 140737488355328) :
    Calls Try.prog 32 #[v, .int .i64 (k0 : Nat)] w fun e w' => e = .returned (.int .i64 ((k0 + 3 * zs.length : Nat) : Int)) ∧ w'.ownsRow B 49 3 v zs.length (dvR (mdK k0 zs.length)) ∧ w.grownBy w' v.ownBlock := by
  rcases h.2 with ⟨hv, e⟩ | ⟨g, cap, cur, hv, hB, hg, hc, rest⟩
  · subst hv
    have hz : zs = [] := List.eq_nil_of_length_eq_zero e
    subst hz
    go_enter Try.func32, Try.ntmps32
    go_wp2
    go_loopw [1, 5] (fun y i wr => y = .int .i64 (k0 : Nat) ∧ i = .int .i64 0 ∧ wr = w) (fun _ _ _ => 0)
    case atStart => exact ⟨rfl, rfl, rfl⟩
    case round =>
      obtain ⟨rfl, rfl, rfl⟩ := hrel
      go_wp2
      go_ret
      exact ⟨by simp, World.ownsRow_nil _ _ _ _, ⟨rfl, rfl, rfl, Nat.le_refl _, fun _ _ _ => rfl⟩⟩
  · subst hv
    have HOW : Hid (w.ownsRow B 49 3 (.slice (some ⟨g, 0, none⟩) zs.length cap) zs.length (dvR zs)) := h
    have hgw : g < w.heap.size := (Array.getElem?_eq_some_iff.1 hg).1
    clear h rest hc hg
    go_enter Try.func32, Try.ntmps32
    go_wp2
    go_loopw [1, 5] (fun y i wr => ∃ k : Nat, k ≤ zs.length ∧ y = .int .i64 ((k0 + 3 * k : Nat) : Int) ∧ i = .int .i64 k ∧ wr.ownsRow B 49 3 (.slice (some ⟨g, 0, none⟩) zs.length cap) zs.length (dvR (mdJ k0 k zs)) ∧ w.grownBy wr (some g)) (fun _ i _ => zs.length - (intOf i).toNat)
    case atStart => exact ⟨0, Nat.zero_le _, rfl, rfl, HOW.out, ⟨rfl, rfl, rfl, Nat.le_refl _, fun _ _ _ => rfl⟩⟩
    case round =>
      obtain ⟨k, hk, rfl, rfl, hown, hgr⟩ := hrel
      clear HOW
      have HO0 : Hid (wr.ownsRow B 49 3 (.slice (some ⟨g, 0, none⟩) zs.length cap) zs.length (dvR (mdJ k0 k zs))) := hown
      have HG0 : Hid (w.grownBy wr (some g)) := hgr
      clear hown hgr
      by_cases hlt : k < zs.length
      · have hLn : (dvR (mdJ k0 k zs)).length = zs.length * 3 := by rw [dvR_len, mdJ_len _ _ _ hk]
        have HC : Hid (∀ {x : World} {ys : List Value} (j : Nat), ys.length = zs.length * 3 → j < zs.length * 3 → x.ownsRow B 49 3 (.slice (some ⟨g, 0, none⟩) zs.length cap) zs.length ys → (∃ y, x.cell? ⟨g, j, none⟩ = some y) ∧ x.frozen? ⟨g, j, none⟩ = false) := (fun {x ys} j hl hj ho => ⟨⟨ys[j]'(by omega), by rw [ho.cellAt j (by omega), List.getElem?_eq_getElem (by omega)]⟩, ho.frozenAt j⟩)
        have HST : Hid ((((dvR (mdJ k0 k zs)).set (k * 3) (.int .i64 (mdZ k0 k).kind)).set (k * 3 + 1) (.int .i64 (mdZ k0 k).port)).set (k * 3 + 2) (.int .i64 (mdZ k0 k).line) = dvR (mdJ k0 (k + 1) zs)) := (show _ = _ by rw [dvR_set _ _ _ (by rw [mdJ_len _ _ _ hk]; exact hlt), mdJ_step _ _ _ hlt])
        have HF0 : Hid ((mdZ k0 k).kind = ((k0 + 3 * k : Nat) : Int)) := rfl
        have HF1 : Hid ((mdZ k0 k).port = ((k0 + 3 * k + 1 : Nat) : Int)) := rfl
        have HF2 : Hid ((mdZ k0 k).line = ((k0 + 3 * k + 2 : Nat) : Int)) := rfl
        rw [HF0.out, HF1.out, HF2.out] at HST
        obtain ⟨K, hK⟩ : ∃ K : Nat, k0 + 3 * k = K := ⟨_, rfl⟩
        have HK : Hid (k0 + 3 * k = K) := hK
        rw [show ((k0 + 3 * k + 1 : Nat) : Int) = (K : Int) + 1 by omega] at HST
        rw [show ((k0 + 3 * k + 2 : Nat) : Int) = (K : Int) + 1 + 1 by omega] at HST
        rw [hK] at HST
        rw [hK]
        have hKb : K ≤ 281474976710656 := by omega
        clear hK HF0 HF1 HF2
        have hk0 : (0 : Int) ≤ (k : Int) := by omega
        have hk1' : (k : Int) < (zs.length : Int) := by omega
        have hk9 : (k : Int) ≤ 1048576 := by omega
        obtain ⟨⟨z0, c0⟩, f0⟩ := HC.out (k * 3) hLn (by omega) HO0.out
        have hgw0 : g < wr.heap.size := Nat.lt_of_lt_of_le hgw HG0.out.size
        have HO1 : Hid ((wr.setCell ⟨g, k * 3, none⟩ (.int .i64 (K : Nat))).ownsRow B 49 3 (.slice (some ⟨g, 0, none⟩) zs.length cap) zs.length ((dvR (mdJ k0 k zs)).set (k * 3) (.int .i64 (K : Nat)))) := md_own HO0.out _ _
        have HG1 : Hid (w.grownBy (wr.setCell ⟨g, k * 3, none⟩ (.int .i64 (K : Nat))) (some g)) := md_gset HG0.out _ _
        go_upto_region 6 with fail
        generalize (wr.setCell ⟨g, k * 3, none⟩ (.int .i64 (K : Nat))) = x1 at *
        generalize hy1 : (dvR (mdJ k0 k zs)).set (k * 3) (.int .i64 (K : Nat)) = y1 at *
        have hL1 : y1.length = zs.length * 3 := by rw [← hy1, List.length_set]; exact hLn
        clear HO0 HG0 c0 f0 hgw0
        obtain ⟨⟨z1, c1⟩, f1⟩ := HC.out (k * 3 + 1) hL1 (by omega) HO1.out
        have hgw1 : g < x1.heap.size := Nat.lt_of_lt_of_le hgw HG1.out.size
        have HO2 : Hid ((x1.setCell ⟨g, k * 3 + 1, none⟩ (.int .i64 ((K : Int) + 1))).ownsRow B 49 3 (.slice (some ⟨g, 0, none⟩) zs.length cap) zs.length ((y1).set (k * 3 + 1) (.int .i64 ((K : Int) + 1)))) := md_own HO1.out _ _
        have HG2 : Hid (w.grownBy (x1.setCell ⟨g, k * 3 + 1, none⟩ (.int .i64 ((K : Int) + 1))) (some g)) := md_gset HG1.out _ _
        go_upto_region 8 with fail
        generalize (x1.setCell ⟨g, k * 3 + 1, none⟩ (.int .i64 ((K : Int) + 1))) = x2 at *
        generalize hy2 : (y1).set (k * 3 + 1) (.int .i64 ((K : Int) + 1)) = y2 at *
        have hL2 : y2.length = zs.length * 3 := by rw [← hy2, List.length_set]; exact hL1
        clear HO1 HG1 c1 f1 hgw1
        obtain ⟨⟨z2, c2⟩, f2⟩ := HC.out (k * 3 + 2) hL2 (by omega) HO2.out
        have hgw2 : g < x2.heap.size := Nat.lt_of_lt_of_le hgw HG2.out.size
        have HO3 : Hid ((x2.setCell ⟨g, k * 3 + 2, none⟩ (.int .i64 ((K : Int) + 1 + 1))).ownsRow B 49 3 (.slice (some ⟨g, 0, none⟩) zs.length cap) zs.length (dvR (mdJ k0 (k + 1) zs))) := (show _ by rw [← HST.out]; exact md_own HO2.out _ _)
        have HG3 : Hid (w.grownBy (x2.setCell ⟨g, k * 3 + 2, none⟩ (.int .i64 ((K : Int) + 1 + 1))) (some g)) := md_gset HG2.out _ _
        clear HO2 HG2
        go_wp2
        exact ⟨⟨k + 1, hlt, by have := HK.out; simp; omega, by go_num, HO3.out, HG3.out⟩, by simp [intOf]; omega⟩
      · obtain rfl : k = zs.length := by omega
        rw [mdJ_all] at HO0
        go_wp2
        go_ret
        exact ⟨rfl, HO0.out, HG0.out⟩
set_option maxRecDepth 100000 in
set_option maxHeartbeats 4000000 in
theorem heldDV_ok {w : World} {v : Value} (k0 n : Nat) (h : DVrow w v (mdK k0 n)) (hn : n ≤ 1048576) (hk1 : 1 ≤ k0) (hk2 : k0 ≤ 140737488355328) :
    Calls Try.prog 48 #[v, .int .i64 (k0 : Nat)] w fun e w' => e = .returned (.int .i64 ((k0 + 3 * n : Nat) : Int)) ∧ Below w.heap.size w w' := by
  obtain ⟨ao, cap, rfl⟩ := h.sl
  have HR : Hid (DVrow w (.slice ao (mdK k0 n).length cap) (mdK k0 n)) := h
  rw [mdK_len] at HR ⊢
  clear h
  go_enter Try.func48, Try.ntmps48
  go_wp2
  go_loopw [1, 5] (fun y i wr => ∃ k : Nat, k ≤ n ∧ y = .int .i64 ((k0 + 3 * k : Nat) : Int) ∧ i = .int .i64 k ∧ Below w.heap.size w wr) (fun _ i _ => n - (intOf i).toNat)
  case atStart => exact ⟨0, Nat.zero_le _, rfl, rfl, Below.refl _ _⟩
  case round =>
    obtain ⟨k, hk, rfl, rfl, hb⟩ := hrel
    have HB : Hid (Below w.heap.size w wr) := hb
    by_cases hlt : k < n
    · obtain ⟨g, o, cap2, hv, _, hg, hc⟩ := HR.out.resolve_left (fun h => by have := congrArg List.length h.1; rw [mdK_len] at this; simp at this; omega)
      injection hv with hv1 hv2 hv3
      subst hv1 hv3
      have hlk : k < (mdK k0 n).length := by rw [mdK_len]; exact hlt
      have hz : (mdK k0 n)[k] = mdZ k0 k := by simp [mdK]
      obtain ⟨d0, d1, d2⟩ := hc k hlk
      rw [hz] at d0 d1 d2
      have hs0 : (mdZ k0 k).kind = ((k0 + 3 * k : Nat) : Int) := rfl
      rw [hs0] at d0
      have hs1 : (mdZ k0 k).port = ((k0 + 3 * k + 1 : Nat) : Int) := rfl
      rw [hs1] at d1
      have hs2 : (mdZ k0 k).line = ((k0 + 3 * k + 2 : Nat) : Int) := rfl
      rw [hs2] at d2
      obtain ⟨K, hK⟩ : ∃ K : Nat, k0 + 3 * k = K := ⟨_, rfl⟩
      have HK : Hid (k0 + 3 * k = K) := hK
      rw [show ((k0 + 3 * k : Nat) : Int) = (K : Int) by omega] at d0
      rw [show ((k0 + 3 * k + 1 : Nat) : Int) = (K : Int) + 1 by omega] at d1
      rw [show ((k0 + 3 * k + 2 : Nat) : Int) = (K : Int) + 1 + 1 by omega] at d2
      rw [hK]
      have hKb : K ≤ 281474976710656 := by omega
      have HD : Hid (∀ u, Below w.heap.size w u → u.cell? ⟨g, o + k * 3, none⟩ = some (.int .i64 ((K : Int))) ∧ u.cell? ⟨g, o + k * 3 + 1, none⟩ = some (.int .i64 ((K : Int) + 1)) ∧ u.cell? ⟨g, o + k * 3 + 2, none⟩ = some (.int .i64 ((K : Int) + 1 + 1)) ∧ g < u.heap.size) := (fun u hu => ⟨((bcell hu).1 g _ hg).trans d0, ((bcell hu).1 g _ hg).trans d1, ((bcell hu).1 g _ hg).trans d2, Nat.lt_of_lt_of_le hg hu.size⟩)
      have hk0 : (0 : Int) ≤ (k : Int) := by omega
      have hk1' : (k : Int) < (n : Int) := by omega
      have q0 : (((K : Int)) != ((K : Int))) = false := by simp
      have q1 : (((K : Int) + 1) != ((K : Int) + 1)) = false := by simp
      have q2 : (((K : Int) + 1 + 1) != ((K : Int) + 1 + 1)) = false := by simp
      clear hK hs0 hs1 hs2 hc d0 d1 d2 hz hb hlk hv2
      obtain ⟨p0, p1, p2, pl⟩ := HD.out _ HB.out
      go_wp2
      exact ⟨⟨k + 1, hlt, by have := HK.out; simp; omega, by go_num, HB.out⟩, by simp [intOf]; omega⟩
    · obtain rfl : k = n := by omega
      clear hb
      go_wp2
      go_ret
      exact ⟨rfl, HB.out⟩
end Go.Proofs.Ytlpkkclmcgnapaa
