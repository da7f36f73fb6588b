import Derived.Test.YtgpfjbopekkflaaLwP
namespace Go.Proofs.Ytgpfjbopekkflaa
open Go.ChangeShapes Go.WideShapes Go.ChangeAt Go.RowKit

theorem pmR_set (zs : List PM) (k : Nat) (m : PM) (hk : k < zs.length) : (((((pmR zs).set (k * 4) (.int .i64 m.va)).set (k * 4 + 1) (.int .i64 m.frame)).set (k * 4 + 2) (.int .i64 m.flags)).set (k * 4 + 3) (.bool m.large)) = pmR (zs.set k m) := by
  induction zs generalizing k with
  | nil => simp at hk
  | cons z zs ih =>
    have e : pmR (z :: zs) = pmC z ++ pmR zs := rfl
    have hl : (pmC z).length = 4 := rfl
    cases k with
    | zero =>
      rw [e, List.set_cons_zero]
      show _ = pmC m ++ pmR zs
      rfl
    | succ k =>
      rw [e, List.set_cons_succ]
      show _ = pmC z ++ pmR (zs.set k m)
      rw [List.set_append_right _ _ (by omega), List.set_append_right _ _ (by omega), List.set_append_right _ _ (by omega), List.set_append_right _ _ (by omega), hl,
        show (k + 1) * 4 - 4 = k * 4 by omega, show (k + 1) * 4 + 1 - 4 = k * 4 + 1 by omega, show (k + 1) * 4 + 2 - 4 = k * 4 + 2 by omega, show (k + 1) * 4 + 3 - 4 = k * 4 + 3 by omega, ih k (by simpa using hk)]
/-- The marks of row i. -/
def mkE (i : Nat) : PM := ⟨1 + 4 * (i : Int), 1 + 4 * (i : Int) + 1, 1 + 4 * (i : Int) + 1 + 1, ((1 + 4 * (i : Int)) % 3 == 0)⟩
def mkPL (n : Nat) : List PM := (List.range n).map mkE
theorem mkPL_len (n : Nat) : (mkPL n).length = n := by simp [mkPL]
def mkPJ (j : Nat) (zs : List PM) : List PM := mkPL j ++ zs.drop j
theorem mkPJ_len (j : Nat) (zs : List PM) (h : j ≤ zs.length) : (mkPJ j zs).length = zs.length := by simp [mkPJ, mkPL_len]; omega
theorem mkPJ_step (j : Nat) (zs : List PM) (h : j < zs.length) : (mkPJ j zs).set j (mkE j) = mkPJ (j + 1) zs := by
  have e : zs.drop j = zs[j] :: zs.drop (j + 1) := (List.getElem_cons_drop h).symm
  have e2 : mkPL (j + 1) = mkPL j ++ [mkE j] := by simp [mkPL, List.range_succ]
  unfold mkPJ
  rw [e, e2]
  have hl : (mkPL j).length = j := mkPL_len j
  rw [List.set_append_right _ _ (by omega), hl, Nat.sub_self, List.set_cons_zero, List.append_assoc]
  rfl
/-- Four stores into element k. -/
theorem own_set4 {w : World} {B g cap : Nat} {zs : List PM} (h : w.ownsRow B 53 4 (.slice (some ⟨g, 0, none⟩) zs.length cap) zs.length (pmR zs)) (k : Nat) (hk : k < zs.length) (m : PM) :
    ((((w.setCell ⟨g, k * 4, none⟩ (.int .i64 m.va)).setCell ⟨g, k * 4 + 1, none⟩ (.int .i64 m.frame)).setCell ⟨g, k * 4 + 2, none⟩ (.int .i64 m.flags)).setCell ⟨g, k * 4 + 3, none⟩ (.bool m.large)).ownsRow B 53 4 (.slice (some ⟨g, 0, none⟩) zs.length cap) zs.length (pmR (zs.set k m)) ∧
    w.grownBy ((((w.setCell ⟨g, k * 4, none⟩ (.int .i64 m.va)).setCell ⟨g, k * 4 + 1, none⟩ (.int .i64 m.frame)).setCell ⟨g, k * 4 + 2, none⟩ (.int .i64 m.flags)).setCell ⟨g, k * 4 + 3, none⟩ (.bool m.large)) (some g) := by
  have s1 := h.stored (k * 4) (.int .i64 m.va)
  have s2 := s1.1.stored (k * 4 + 1) (.int .i64 m.frame)
  have s3 := s2.1.stored (k * 4 + 2) (.int .i64 m.flags)
  have s4 := s3.1.stored (k * 4 + 3) (.bool m.large)
  rw [pmR_set zs k m hk] at s4
  exact ⟨s4.1, gb2 (gb2 (gb2 s1.2 s2.2) s3.2) s4.2⟩
set_option maxRecDepth 100000 in
set_option maxHeartbeats 4000000 in
theorem markPMS_ok {w : World} {B : Nat} {v : Value} {zs : List PM} (h : w.ownsRow B 53 4 v zs.length (pmR zs)) (hl : zs.length ≤ 2000) :
    Calls Try.prog 13 #[v, .int .i64 1] w fun e u => e = .returned (.int .i64 (1 + 4 * (zs.length : Int))) ∧ u.ownsRow B 53 4 v zs.length (pmR (mkPL zs.length)) ∧ w.grownBy u v.ownBlock := by
  obtain ⟨g, cap, hv, hc⟩ := pm_at h
  by_cases hz : zs = []
  · subst hz
    obtain ⟨a1, c1, rfl⟩ : ∃ a1 c1, v = .slice a1 0 c1 := by rcases hv with rfl | ⟨rfl, _⟩ <;> exact ⟨_, _, rfl⟩
    have HO : Hid (w.ownsRow B 53 4 (.slice a1 0 c1) 0 []) := h
    clear hc hv h
    go_enter Try.func13, Try.ntmps13
    go_wp2
    go_loopw [1, 5] (fun kv i w5 => kv = .int .i64 1 ∧ i = .int .i64 0 ∧ w5 = w) (fun _ _ _ => 0)
    case atStart => exact ⟨rfl, rfl, rfl⟩
    case round =>
      obtain ⟨rfl, rfl, rfl⟩ := hrel
      go_wp2
      go_ret
      exact ⟨rfl, HO.out, ⟨rfl, rfl, rfl, Nat.le_refl _, fun _ _ _ => rfl⟩⟩
  · obtain rfl := hv.resolve_right (fun h => hz h.2)
    clear hv
    have HO : Hid (w.ownsRow B 53 4 (.slice (some ⟨g, 0, none⟩) zs.length cap) zs.length (pmR (mkPJ 0 zs))) := h
    clear h hc
    go_enter Try.func13, Try.ntmps13
    go_wp2
    go_loopw [1, 5] (fun kv i wr => ∃ j : Nat, j ≤ zs.length ∧ i = .int .i64 j ∧ kv = .int .i64 (1 + 4 * (j : Int)) ∧ wr.ownsRow B 53 4 (.slice (some ⟨g, 0, none⟩) zs.length cap) zs.length (pmR (mkPJ j zs)) ∧ w.grownBy wr (some g)) (fun _ i _ => zs.length - (intOf i).toNat)
    case atStart => exact ⟨0, Nat.zero_le _, rfl, rfl, HO.out, ⟨rfl, rfl, rfl, Nat.le_refl _, fun _ _ _ => rfl⟩⟩
    case round =>
      obtain ⟨j, hj, rfl, rfl, hown, hgr⟩ := hrel
      by_cases hlt : j < zs.length
      · have hlen := mkPJ_len j zs hj
        have hown2 : wr.ownsRow B 53 4 (.slice (some ⟨g, 0, none⟩) (mkPJ j zs).length cap) (mkPJ j zs).length (pmR (mkPJ j zs)) := by rw [hlen]; exact hown
        have st := own_set4 hown2 j (by omega) (mkE j)
        rw [mkPJ_step j zs hlt, hlen] at st
        have hfz := hown.frozenAt
        obtain ⟨g2, cap2, hv2, hc2⟩ := pm_at hown2
        have hge : g2 = g := by
          rcases hv2 with e | ⟨e, _⟩
          · injection e with e1
            injection e1 with e2
            exact (congrArg Addr.block e2).symm
          · cases e
        subst hge
        obtain ⟨d0, d1, d2, d3⟩ := hc2 j (by omega)
        generalize (mkPJ j zs)[j] = z at d0 d1 d2 d3
        have ST : Hid _ := st
        have HG : Hid (w.grownBy wr (some g2)) := hgr
        clear st hown hown2 hgr hlen HO hc2 hv2
        have hj1 : (j : Int) < (zs.length : Int) := by omega
        have hrm : (1 + 4 * (j : Int) + 1 + 1 + 1).tmod 3 = (1 + 4 * (j : Int) + 3) % 3 := by
          rw [Int.tmod_eq_emod_of_nonneg (by omega)]
          omega
        go_wp2
        refine ⟨⟨j + 1, hlt, by simp, by simp; omega, ST.out.1, gb2 HG.out ST.out.2⟩, ?_⟩
        simp [intOf]
        omega
      · obtain rfl : j = zs.length := by omega
        have e : mkPJ zs.length zs = mkPL zs.length := by simp [mkPJ]
        rw [e] at hown
        have HO2 : Hid _ := hown
        have HG : Hid _ := hgr
        clear hown hgr HO e
        go_wp2
        go_ret
        exact ⟨rfl, HO2.out, HG.out⟩
set_option maxRecDepth 100000 in
set_option maxHeartbeats 4000000 in
theorem heldPMS_ok {w : World} {B : Nat} {v : Value} (n : Nat) (h : w.ownsRow B 53 4 v n (pmR (mkPL n))) (hl : n ≤ 2000) :
    Calls Try.prog 14 #[v, .int .i64 1] w fun e u => e = .returned (.int .i64 (1 + 4 * (n : Int))) ∧ Below w.heap.size w u := by
  have hn := mkPL_len n
  have h2 : w.ownsRow B 53 4 v (mkPL n).length (pmR (mkPL n)) := by rw [hn]; exact h
  obtain ⟨g, cap, hv, hc⟩ := pm_at h2
  clear h h2
  by_cases hz : n = 0
  · subst hz
    obtain ⟨a1, c1, rfl⟩ : ∃ a1 c1, v = .slice a1 0 c1 := by rcases hv with rfl | ⟨rfl, _⟩ <;> exact ⟨_, _, rfl⟩
    clear hc hv hn
    go_enter Try.func14, Try.ntmps14
    go_wp2
    go_loopw [1, 5] (fun kv i w5 => kv = .int .i64 1 ∧ i = .int .i64 0 ∧ w5 = w) (fun _ _ _ => 0)
    case atStart => exact ⟨rfl, rfl, rfl⟩
    case round =>
      obtain ⟨rfl, rfl, rfl⟩ := hrel
      go_wp2
      go_ret
      exact ⟨rfl, Below.refl _ _⟩
  · obtain rfl := hv.resolve_right (fun h => hz (by have := congrArg List.length h.2; rw [hn] at this; simpa using this))
    clear hv
    have hc2 : ∀ k : Nat, k < n → w.cell? ⟨g, k * 4, none⟩ = some (.int .i64 (1 + 4 * (k : Int))) ∧ w.cell? ⟨g, k * 4 + 1, none⟩ = some (.int .i64 (1 + 4 * (k : Int) + 1)) ∧ w.cell? ⟨g, k * 4 + 2, none⟩ = some (.int .i64 (1 + 4 * (k : Int) + 1 + 1)) ∧ w.cell? ⟨g, k * 4 + 3, none⟩ = some (.bool ((1 + 4 * (k : Int)) % 3 == 0)) := by
      intro k hk
      have h3 := hc k (by omega)
      have e : (mkPL n)[k]'(by omega) = mkE k := by simp [mkPL]
      rw [e] at h3
      exact h3
    clear hc
    rw [hn]
    clear hn
    go_enter Try.func14, Try.ntmps14
    go_wp2
    go_loopw [1, 5] (fun kv i wr => ∃ j : Nat, j ≤ n ∧ i = .int .i64 j ∧ kv = .int .i64 (1 + 4 * (j : Int)) ∧ wr.heap = w.heap ∧ Below w.heap.size w wr) (fun _ i _ => n - (intOf i).toNat)
    case atStart => exact ⟨0, Nat.zero_le _, rfl, rfl, rfl, Below.refl _ _⟩
    case round =>
      obtain ⟨j, hj, rfl, rfl, hh, hb⟩ := hrel
      by_cases hlt : j < n
      · obtain ⟨d0, d1, d2, d3⟩ := hc2 j hlt
        replace d0 : wr.cell? ⟨g, j * 4, none⟩ = _ := (World.cell?_of_block (by rw [hh])).trans d0
        replace d1 : wr.cell? ⟨g, j * 4 + 1, none⟩ = _ := (World.cell?_of_block (by rw [hh])).trans d1
        replace d2 : wr.cell? ⟨g, j * 4 + 2, none⟩ = _ := (World.cell?_of_block (by rw [hh])).trans d2
        replace d3 : wr.cell? ⟨g, j * 4 + 3, none⟩ = _ := (World.cell?_of_block (by rw [hh])).trans d3
        clear hc2
        have hj1 : (j : Int) < (n : Int) := by omega
        obtain ⟨bq, hq⟩ : ∃ b, ((1 + 4 * (j : Int)) % 3 == 0) = b := ⟨_, rfl⟩
        rw [hq] at d3
        cases bq
        · have hq1 : ¬ (1 + 4 * (j : Int)) % 3 = 0 := by simpa using hq
          have hq2 : decide ((1 + 4 * (j : Int)) % 3 = 0) = false := decide_eq_false hq1
          have hq3 : ((1 + 4 * (j : Int)) % 3 != 0) = true := by simpa using hq1
          go_wp2
          refine ⟨⟨j + 1, hlt, by simp, by simp; omega, hh, hb⟩, ?_⟩
          simp [intOf]
          omega
        · have hq1 : (1 + 4 * (j : Int)) % 3 = 0 := by simpa using hq
          have hq4 : ((1 + 4 * (j : Int) + 1 + 1 + 1) % 3 == 0) = true := by
            rw [show (1 + 4 * (j : Int) + 1 + 1 + 1) % 3 = 0 by omega]
            rfl
          go_wp2
          refine ⟨⟨j + 1, hlt, by simp, by simp; omega, hh, hb⟩, ?_⟩
          simp [intOf]
          omega
      · obtain rfl : j = n := by omega
        clear hc2
        go_wp2
        go_ret
        exact ⟨rfl, hb⟩
end Go.Proofs.Ytgpfjbopekkflaa
