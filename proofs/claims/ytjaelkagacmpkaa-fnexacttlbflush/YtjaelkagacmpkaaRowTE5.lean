import Derived.Test.YtjaelkagacmpkaaRowTE2
namespace Go.Proofs.Ytjaelkagacmpkaa
open Go.ChangeShapes Go.WideShapes Go.ChangeAt Go.RowKit

/-- The marks of row i. -/
def mkE (i : Nat) : TE := ⟨1 + 5 * (i : Int), 1 + 5 * (i : Int) + 1, 1 + 5 * (i : Int) + 1 + 1, 1 + 5 * (i : Int) + 1 + 1 + 1, ((1 + 5 * (i : Int) + 1 + 1 + 1 + 1) % 3 == 0)⟩
def mkPL (n : Nat) : List TE := (List.range n).map mkE
theorem mkPL_len (n : Nat) : (mkPL n).length = n := by simp [mkPL]
def mkPJ (j : Nat) (zs : List TE) : List TE := mkPL j ++ zs.drop j
theorem mkPJ_len (j : Nat) (zs : List TE) (h : j ≤ zs.length) : (mkPJ j zs).length = zs.length := by simp [mkPJ, mkPL_len]; omega
theorem mkPJ_step (j : Nat) (zs : List TE) (h : j < zs.length) : (mkPJ j zs).set j (mkE j) = mkPJ (j + 1) zs := by
  have e : zs.drop j = zs[j] :: zs.drop (j + 1) := (List.getElem_cons_drop h).symm
  have e2 : mkPL (j + 1) = mkPL j ++ [mkE j] := by simp [mkPL, List.range_succ]
  unfold mkPJ
  rw [e, e2]
  have hl : (mkPL j).length = j := mkPL_len j
  rw [List.set_append_right _ _ (by omega), hl, Nat.sub_self, List.set_cons_zero, List.append_assoc]
  rfl
set_option maxRecDepth 100000 in
set_option maxHeartbeats 4000000 in
theorem markTES_ok {w : World} {B : Nat} {ao : Option Addr} {cap : Nat} {zs : List TE} (h : w.ownsRow B 60 5 (.slice ao zs.length cap) zs.length (teR zs)) (hl : zs.length ≤ 1048576) :
    Calls Try.prog 84 #[.slice ao zs.length cap, .int .i64 1] w fun e u => e = .returned (.int .i64 (1 + 5 * (zs.length : Int))) ∧ u.ownsRow B 60 5 (.slice ao zs.length cap) zs.length (teR (mkPL zs.length)) ∧ w.grownBy u (Value.slice ao zs.length cap).ownBlock := by
  by_cases hz : zs = []
  · subst hz
    have HO : Hid (w.ownsRow B 60 5 (.slice ao 0 cap) 0 []) := h
    clear h hl
    simp only [List.length_nil]
    go_enter Try.func84, Try.ntmps84
    go_wp2
    go_loopw [1, 5] (fun kv i w5 => kv = .int .i64 1 ∧ i = .int .i64 0 ∧ w5 = w) (fun _ _ _ => 0)
    case atStart => exact ⟨rfl, rfl, rfl⟩
    case round =>
      obtain ⟨rfl, rfl, rfl⟩ := hrel
      go_wp2
      go_ret
      exact ⟨rfl, HO.out, ⟨rfl, rfl, rfl, Nat.le_refl _, fun _ _ _ => rfl⟩⟩
  · obtain ⟨g, rfl⟩ : ∃ g, ao = some ⟨g, 0, none⟩ := by
      rcases h.2 with ⟨e, e2⟩ | ⟨g, cap2, cur, hv, _⟩
      · exact absurd (List.length_eq_zero_iff.1 e2) hz
      · injection hv with e1
        exact ⟨g, e1⟩
    have HO : Hid (w.ownsRow B 60 5 (.slice (some ⟨g, 0, none⟩) zs.length cap) zs.length (teR (mkPJ 0 zs))) := h
    clear h hz
    go_enter Try.func84, Try.ntmps84
    go_wp2
    go_loopw [1, 5] (fun kv i wr => ∃ j : Nat, j ≤ zs.length ∧ i = .int .i64 j ∧ kv = .int .i64 (1 + 5 * (j : Int)) ∧ wr.ownsRow B 60 5 (.slice (some ⟨g, 0, none⟩) zs.length cap) zs.length (teR (mkPJ j zs)) ∧ w.grownBy wr (some g)) (fun _ i _ => zs.length - (intOf i).toNat)
    case atStart => exact ⟨0, Nat.zero_le _, rfl, rfl, HO.out, ⟨rfl, rfl, rfl, Nat.le_refl _, fun _ _ _ => rfl⟩⟩
    case round =>
      obtain ⟨j, hj, rfl, rfl, hown, hgr⟩ := hrel
      by_cases hlt : j < zs.length
      · have hlen := mkPJ_len j zs hj
        have hown2 : wr.ownsRow B 60 5 (.slice (some ⟨g, 0, none⟩) (mkPJ j zs).length cap) (mkPJ j zs).length (teR (mkPJ j zs)) := by rw [hlen]; exact hown
        have st := own_setTE hown2 j (by omega) (mkE j)
        rw [mkPJ_step j zs hlt, hlen] at st
        have hfz := hown.frozenAt
        obtain ⟨z, d0, d1, d2, d3, d4⟩ := te_cells hown hlen j (by omega)
        have ST : Hid _ := st
        have HG : Hid (w.grownBy wr (some g)) := hgr
        clear st hown hown2 hgr hlen HO
        have hj1 : (j : Int) < (zs.length : Int) := by omega
        have hrm : (1 + 5 * (j : Int) + 1 + 1 + 1 + 1).tmod 3 = (1 + 5 * (j : Int) + 1 + 1 + 1 + 1) % 3 := Int.tmod_eq_emod_of_nonneg (by omega)
        go_wp2
        refine ⟨⟨j + 1, hlt, by simp, by simp; omega, ST.out.1, gbTE HG.out ST.out.2⟩, ?_⟩
        simp [intOf]
        omega
      · obtain rfl : j = zs.length := by omega
        have e : mkPJ zs.length zs = mkPL zs.length := by simp [mkPJ]
        rw [e] at hown
        have HO2 : Hid (wr.ownsRow B 60 5 (.slice (some ⟨g, 0, none⟩) zs.length cap) zs.length (teR (mkPL zs.length))) := hown
        have HG : Hid (w.grownBy wr (some g)) := hgr
        clear hown hgr HO e
        go_wp2
        go_ret
        exact ⟨rfl, HO2.out, HG.out⟩
set_option maxRecDepth 100000 in
set_option maxHeartbeats 4000000 in
theorem heldTES_ok {w : World} {ao : Option Addr} {cap : Nat} (n : Nat) (h : TErow w (.slice ao n cap) (mkPL n)) (hl : n ≤ 1048576) :
    Calls Try.prog 85 #[.slice ao n cap, .int .i64 1] w fun e u => e = .returned (.int .i64 (1 + 5 * (n : Int))) ∧ Below w.heap.size w u := by
  have HR : Hid (TErow w (.slice ao n cap) (mkPL n)) := h
  clear h
  go_enter Try.func85, Try.ntmps85
  go_wp2
  go_loopw [1, 5] (fun kv i wr => ∃ j : Nat, j ≤ n ∧ i = .int .i64 j ∧ kv = .int .i64 (1 + 5 * (j : Int)) ∧ wr.heap = w.heap ∧ Below w.heap.size w wr) (fun _ i _ => n - (intOf i).toNat)
  case atStart => exact ⟨0, Nat.zero_le _, rfl, rfl, rfl, Below.refl _ _⟩
  case round =>
    obtain ⟨j, hj, rfl, rfl, hh, hb⟩ := hrel
    by_cases hlt : j < n
    · obtain ⟨g, o, cap2, hv, _, hg, hc⟩ := HR.out.resolve_left (fun h => by have := congrArg List.length h.1; rw [mkPL_len] at this; simp at this; omega)
      injection hv with hv1 hv2 hv3
      subst hv1 hv3
      clear hv2
      obtain ⟨d0, d1, d2, d3, d4⟩ := hc.below hb hg j (by rw [mkPL_len]; exact hlt)
      have e : (mkPL n)[j]'(by rw [mkPL_len]; exact hlt) = mkE j := by simp [mkPL]
      rw [e] at d0 d1 d2 d3 d4
      unfold mkE at d0 d1 d2 d3 d4
      simp only at d0 d1 d2 d3 d4
      clear hc e
      have hj1 : (j : Int) < (n : Int) := by omega
      obtain ⟨x, hx⟩ : ∃ x : Int, 1 + 5 * (j : Int) = x := ⟨_, rfl⟩
      have x0 : 0 ≤ x := by omega
      have x1 : x ≤ 10000000 := by omega
      have HXE : Hid (1 + 5 * (j : Int) = x) := hx
      rw [hx] at d0 d1 d2 d3 d4 ⊢
      obtain ⟨r, hr⟩ : ∃ r : Int, (x + 1 + 1 + 1 + 1) % 3 = r := ⟨_, rfl⟩
      rw [hr] at d4
      have hr2 : (x + 1 + 1 + 1 + 1).tmod 3 = r := (Int.tmod_eq_emod_of_nonneg (by omega)).trans hr
      obtain ⟨bq, hq⟩ : ∃ b, (r == 0) = b := ⟨_, rfl⟩
      rw [hq] at d4
      clear hx
      cases bq
      · go_wp2
        refine ⟨⟨j + 1, hlt, by simp, by have := HXE.out; simp; omega, hh, hb⟩, ?_⟩
        simp [intOf]
        omega
      · go_wp2
        refine ⟨⟨j + 1, hlt, by simp, by have := HXE.out; simp; omega, hh, hb⟩, ?_⟩
        simp [intOf]
        omega
    · obtain rfl : j = n := by omega
      go_wp2
      go_ret
      exact ⟨rfl, hb⟩
end Go.Proofs.Ytjaelkagacmpkaa
