import Derived.Test.YthncnffnjjclfabRowSG4
import Derived.Test.YthncnffnjjclfabCt1
import Derived.Test.YthncnffnjjclfabOrG
import Derived.Laws.OwnMore
import Derived.Deep.DeepCutAuto
namespace Go.Proofs.Ythncnffnjjclfab
open Go.ChangeShapes Go.WideShapes Go.ChangeAt Go.RowKit

set_option maxRecDepth 100000 in
set_option maxHeartbeats 4000000 in
theorem szSG_w (z : SG) (l : Int) (w : World) (h0 : 0 ≤ l) (h1 : l ≤ 1048576) (m1 : z.text.size ≤ maxLen) :
    Calls Try.prog 49 #[.agg #[.int .i64 z.reg, .string z.text], .int .i64 l] w fun e w' => ∃ q, e = .returned (.int .i64 q) ∧ -1 ≤ q ∧ q ≤ 1048576 ∧ Below w.heap.size w w' := by
  have q1 : z.text.size ≤ 9223372036854775807 := by unfold maxLen at m1; omega
  clear m1
  have HB : Hid (Below w.heap.size w (w.alloc (.cells #[.int .i64 z.reg, .string z.text] 84))) := (Below.refl _ _).alloc (Nat.le_refl _) _
  cases h3 : decide (l - (z.text.size : Int) < 0)
  · have g3 := of_decide_eq_false h3
    go_enter Try.func49, Try.ntmps49
    go_wp2
    go_ret
    exact ⟨_, rfl, by omega, by omega, HB.out⟩
  · go_enter Try.func49, Try.ntmps49
    go_wp2
    go_ret
    exact ⟨_, rfl, by omega, by omega, HB.out⟩
set_option maxRecDepth 100000 in
set_option maxHeartbeats 4000000 in
theorem szSGS_w {w : World} {v : Value} {zs : List SG} (h : SGrow w v zs) (hm : zs.length ≤ maxLen) (hz : ∀ z ∈ zs, z.text.size ≤ maxLen) :
    Calls Try.prog 16 #[v, .int .i64 1048576] w fun e w' => ∃ q, e = .returned (.int .i64 q) ∧ -1 ≤ q ∧ q ≤ 1048576 ∧ (0 ≤ q → zs.length ≤ 1048576) ∧ Below w.heap.size w w' := by
  obtain ⟨ao, cap, rfl⟩ := h.sl
  have HR : Hid (SGrow w (.slice ao zs.length cap) zs) := h
  have hm2 : zs.length ≤ 9223372036854775807 := by unfold maxLen at hm; omega
  have HZ : Hid (∀ z ∈ zs, z.text.size ≤ maxLen) := hz
  clear h hm hz
  cases h3 : decide (1048576 - (zs.length : Int) < 0)
  · have g3 := of_decide_eq_false h3
    have HL : Hid (zs.length ≤ 1048576) := (show zs.length ≤ 1048576 by omega)
    go_enter Try.func16, Try.ntmps16
    go_wp2
    go_loopw [1, 5] (fun y i wr => ∃ (k : Nat) (l : Int), k ≤ zs.length ∧ y = .int .i64 l ∧ 0 ≤ l ∧ l ≤ 1048576 ∧ i = .int .i64 k ∧ Below w.heap.size w wr) (fun _ i _ => zs.length - (intOf i).toNat)
    case atStart => exact ⟨0, _, Nat.zero_le _, rfl, by omega, by omega, rfl, Below.refl _ _⟩
    case round =>
      obtain ⟨k, l, hk, rfl, l0, l1, rfl, hb⟩ := hrel
      have HB : Hid (Below w.heap.size w wr) := hb
      by_cases hlt : k < zs.length
      · obtain ⟨g, o, cap2, hv, _, hg, hc⟩ := HR.out.resolve_left (fun h => by rw [h.1] at hlt; simp at hlt)
        injection hv with hv1 hv2 hv3
        subst hv1 hv3
        obtain ⟨d0, d1⟩ := hc.below hb hg k hlt
        have hgw : g < wr.heap.size := Nat.lt_of_lt_of_le hg hb.size
        have m1 := HZ.out _ (List.getElem_mem hlt)
        have HS : Hid _ := szSG_w zs[k] l wr l0 l1 m1
        generalize zs[k] = z at *
        have hk0 : (0 : Int) ≤ (k : Int) := by omega
        have hk1 : (k : Int) < (zs.length : Int) := by omega
        clear hc hb m1 h3 g3
        go_wp2_with fail
        refine Calls.mono HS.out ?_
        rintro e u1 ⟨q, rfl, q0, q1, hu⟩
        have HU : Hid (Below w.heap.size w u1) := HB.out.trans (hu.mono HB.out.size)
        clear hu HS
        cases h5 : decide (q < 0)
        · have g5 := of_decide_eq_false h5
          go_wp2
          exact ⟨⟨k + 1, q, hlt, rfl, by omega, q1, by go_num, HU.out⟩, by simp [intOf]; omega⟩
        · go_wp2
          go_ret
          exact ⟨-1, rfl, by omega, by omega, fun _ => HL.out, HU.out⟩
      · obtain rfl : k = zs.length := by omega
        clear h3 g3
        go_wp2
        go_ret
        exact ⟨l, rfl, by omega, l1, fun _ => HL.out, HB.out⟩
  · have g3 := of_decide_eq_true h3
    go_enter Try.func16, Try.ntmps16
    go_wp2
    go_ret
    exact ⟨-1, rfl, by omega, by omega, fun hh => absurd hh (by omega), Below.refl _ _⟩
theorem gsetM {lo hi g : Nat} {u w : World} (h : GI lo hi u w) (h0 : lo ≤ g) (h1 : g < hi) (i : Nat) (v : Value) : GI lo hi u (w.setCell ⟨g, i, none⟩ v) := h.trans (GI.set h0 h1)
theorem st_ownM {w : World} {B g cap n : Nat} {xs : List Value} (h : w.ownsRow B 86 2 (.slice (some ⟨g, 0, none⟩) n cap) n xs) (j : Nat) (u : Value) : (w.setCell ⟨g, j, none⟩ u).ownsRow B 86 2 (.slice (some ⟨g, 0, none⟩) n cap) n (xs.set j u) := (h.stored j u).1
set_option maxRecDepth 100000 in
set_option maxHeartbeats 4000000 in
theorem markSG_ok {w : World} {lo hi : Nat} {v : Value} {zs : List SG} (k0 : Nat) (h : w.ownsRow lo 86 2 v zs.length (sgR zs)) (hh : ∀ k, v.ownBlock = some k → k < hi) (hn : zs.length ≤ 1048576) (hk1 : 1 ≤ k0) (hk2 : k0 ≤ 140737488355328) :
    Calls Try.prog 24 #[v, .int .i64 (k0 : Nat)] w fun e w' => e = .returned (.int .i64 ((k0 + 2 * zs.length : Nat) : Int)) ∧ GI lo hi w w' := by
  rcases h.2 with ⟨hv, e⟩ | ⟨g, cap, cur, hv, hB, hg, hc, rest⟩
  · subst hv
    have hz : zs = [] := List.eq_nil_of_length_eq_zero e
    subst hz
    go_enter Try.func24, Try.ntmps24
    go_wp2
    go_loopw [1, 5] (fun y i wr => y = .int .i64 (k0 : Nat) ∧ i = .int .i64 0 ∧ wr = w) (fun _ _ _ => 0)
    case atStart => exact ⟨rfl, rfl, rfl⟩
    case round =>
      obtain ⟨rfl, rfl, rfl⟩ := hrel
      go_wp2
      go_ret
      exact ⟨by simp, GI.refl _ _ _⟩
  · subst hv
    have hgh : g < hi := hh g rfl
    have HOW : Hid (w.ownsRow lo 86 2 (.slice (some ⟨g, 0, none⟩) zs.length cap) zs.length (sgR zs)) := h
    have hgw : g < w.heap.size := (Array.getElem?_eq_some_iff.1 hg).1
    clear h rest hc hg hh
    go_enter Try.func24, Try.ntmps24
    go_wp2
    go_loopw [1, 5] (fun y i wr => ∃ k : Nat, k ≤ zs.length ∧ y = .int .i64 ((k0 + 2 * k : Nat) : Int) ∧ i = .int .i64 k ∧ (∃ ys : List Value, ys.length = zs.length * 2 ∧ wr.ownsRow lo 86 2 (.slice (some ⟨g, 0, none⟩) zs.length cap) zs.length ys) ∧ GI lo hi w wr) (fun _ i _ => zs.length - (intOf i).toNat)
    case atStart => exact ⟨0, Nat.zero_le _, rfl, rfl, ⟨_, sgR_len zs, HOW.out⟩, GI.refl _ _ _⟩
    case round =>
      obtain ⟨k, hk, rfl, rfl, ⟨ys, hys, hown⟩, hgr⟩ := hrel
      clear HOW
      have HO : Hid (wr.ownsRow lo 86 2 (.slice (some ⟨g, 0, none⟩) zs.length cap) zs.length ys) := hown
      have HG : Hid (GI lo hi w wr) := hgr
      have hgw2 : g < wr.heap.size := Nat.lt_of_lt_of_le hgw hgr.size
      clear hown hgr
      by_cases hlt : k < zs.length
      · have HC : Hid (∀ {x : World} {ys : List Value} (j : Nat), ys.length = zs.length * 2 → j < zs.length * 2 → x.ownsRow lo 86 2 (.slice (some ⟨g, 0, none⟩) zs.length cap) zs.length ys → (∃ y, x.cell? ⟨g, j, none⟩ = some y) ∧ x.frozen? ⟨g, j, none⟩ = false) := (fun {x ys} j hl hj ho => ⟨⟨ys[j]'(by omega), by rw [ho.cellAt j (by omega), List.getElem?_eq_getElem (by omega)]⟩, ho.frozenAt j⟩)
        obtain ⟨K, hK⟩ : ∃ K : Nat, k0 + 2 * k = K := ⟨_, rfl⟩
        have HK : Hid (k0 + 2 * k = K) := hK
        have HM1 : Hid (∀ (x : Int) u, x = ((K : Nat) : Int) + 1 → Calls Try.prog 64 #[.int .i64 x] u fun e w' => e = .returned (.string (mtx ((K + 1 : Nat) : Int))) ∧ Below u.heap.size u w') := (fun x u hx => by rw [show x = ((K + 1 : Nat) : Int) by omega]; exact markText_any (K + 1) (by omega) (by omega) u)
        generalize mtx ((K + 1 : Nat) : Int) = t1 at *
        rw [hK]
        have hKb : K ≤ 281474976710656 := by omega
        clear hK
        obtain ⟨⟨y0, c0⟩, f0⟩ := HC.out (k * 2) hys (by omega) HO.out
        have hk0 : (0 : Int) ≤ (k : Int) := by omega
        have hk1' : (k : Int) < (zs.length : Int) := by omega
        have hk9 : (k : Int) ≤ 1048576 := by omega
        have HO1 : Hid ((wr.setCell ⟨g, k * 2, none⟩ (.int .i64 (K : Nat))).ownsRow lo 86 2 (.slice (some ⟨g, 0, none⟩) zs.length cap) zs.length (ys.set (k * 2) (.int .i64 (K : Nat)))) := st_ownM HO.out _ _
        have HG1 : Hid (GI lo hi w (wr.setCell ⟨g, k * 2, none⟩ (.int .i64 (K : Nat)))) := gsetM HG.out hB hgh _ _
        go_upto_region 6 with fail
        generalize (wr.setCell ⟨g, k * 2, none⟩ (.int .i64 (K : Nat))) = x1 at *
        generalize hy1 : ys.set (k * 2) (.int .i64 (K : Nat)) = y1 at *
        have hL1 : y1.length = zs.length * 2 := by rw [← hy1, List.length_set]; exact hys
        clear HO HG c0 f0 hgw2 hy1 hys
        go_wp2_with fail
        refine Calls.mono (HM1.out _ _ (by omega)) ?_
        rintro e x2 ⟨rfl, hu⟩
        have HO2 : Hid (x2.ownsRow lo 86 2 (.slice (some ⟨g, 0, none⟩) zs.length cap) zs.length y1) := sg_below HO1.out hu
        have HG2 : Hid (GI lo hi w x2) := HG1.out.trans (GI.of_below hu)
        clear hu HO1 HG1
        obtain ⟨⟨z1, c1⟩, f1⟩ := HC.out (k * 2 + 1) hL1 (by omega) HO2.out
        have hgw3 : g < x2.heap.size := Nat.lt_of_lt_of_le hgw HG2.out.size
        have HO3 : Hid ((x2.setCell ⟨g, k * 2 + 1, none⟩ (.string t1)).ownsRow lo 86 2 (.slice (some ⟨g, 0, none⟩) zs.length cap) zs.length (y1.set (k * 2 + 1) (.string t1))) := st_ownM HO2.out _ _
        have HG3 : Hid (GI lo hi w (x2.setCell ⟨g, k * 2 + 1, none⟩ (.string t1))) := gsetM HG2.out hB hgh _ _
        have HL3 : Hid ((y1.set (k * 2 + 1) (.string t1)).length = zs.length * 2) := (show _ = _ by rw [List.length_set]; exact hL1)
        clear HO2 HG2
        go_wp2
        exact ⟨⟨k + 1, hlt, by have := HK.out; simp; omega, by go_num, ⟨_, HL3.out, HO3.out⟩, HG3.out⟩, by simp [intOf]; omega⟩
      · obtain rfl : k = zs.length := by omega
        go_wp2
        go_ret
        exact ⟨rfl, HG.out⟩
set_option maxRecDepth 100000 in
theorem open_rowSG {H : Type} {enc : TypeId × Value → H} {W : World} {base : Nat} {v : Value} {d : DataW H} {p : List MemPlace} (hv : Value.okWide Try.prog W .any base 39 v)
    (h : DataW.Trod enc Try.prog W 0 (fun _ => true) true 39 v d p) : ∃ zs : List SG, SGrow W v zs ∧ zs.length ≤ maxLen ∧ ∀ z ∈ zs, z.text.size ≤ maxLen := by
  obtain ⟨a, len, cap, rfl⟩ := okWide_slice Try.underlying39 hv
  obtain ⟨fuel, hf⟩ := h
  exact open_sgS hf
end Go.Proofs.Ythncnffnjjclfab
