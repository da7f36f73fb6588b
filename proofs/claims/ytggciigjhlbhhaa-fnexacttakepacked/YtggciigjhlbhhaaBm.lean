import Derived.Test.YtggciigjhlbhhaaRowBU2
import Derived.Test.YtggciigjhlbhhaaPk0
namespace Go.Proofs.Ytggciigjhlbhhaa
open Go.ChangeShapes Go.WideShapes Go.ChangeAt Go.RowKit

/-- The marks of row i. -/
def mkB (i : Nat) : BU := ⟨1 + 3 * (i : Int), 1 + 3 * (i : Int) + 1, true⟩
def mkBL (n : Nat) : List BU := (List.range n).map mkB
theorem mkBL_len (n : Nat) : (mkBL n).length = n := by simp [mkBL]
def mkBJ (j : Nat) (zs : List BU) : List BU := mkBL j ++ zs.drop j
theorem mkBJ_len (j : Nat) (zs : List BU) (h : j ≤ zs.length) : (mkBJ j zs).length = zs.length := by simp [mkBJ, mkBL_len]; omega
theorem mkBJ_step (j : Nat) (zs : List BU) (h : j < zs.length) : (mkBJ j zs).set j (mkB j) = mkBJ (j + 1) zs := by
  have e : zs.drop j = zs[j] :: zs.drop (j + 1) := (List.getElem_cons_drop h).symm
  have e2 : mkBL (j + 1) = mkBL j ++ [mkB j] := by simp [mkBL, List.range_succ]
  unfold mkBJ
  rw [e, e2]
  have hl : (mkBL j).length = j := mkBL_len j
  rw [List.set_append_right _ _ (by omega), hl, Nat.sub_self, List.set_cons_zero, List.append_assoc]
  rfl
set_option maxRecDepth 100000 in
set_option maxHeartbeats 4000000 in
theorem markBUS_ok {w : World} {B : Nat} {v : Value} {zs : List BU} (h : w.ownsRow B 60 3 v zs.length (buR zs)) (hl : zs.length ≤ 2000) :
    Calls Try.prog 35 #[v, .int .i64 1] w fun e u => e = .returned (.int .i64 (1 + 3 * (zs.length : Int))) ∧ u.ownsRow B 60 3 v zs.length (buR (mkBL zs.length)) ∧ w.grownBy u v.ownBlock := by
  rcases h.2 with ⟨hv, e0⟩ | ⟨g, cap, cur, hv, _⟩
  · subst hv
    have hz : zs = [] := List.eq_nil_of_length_eq_zero e0
    subst hz
    clear h e0 hl
    go_enter Try.func35, Try.ntmps35
    go_wp2
    go_loopw [1, 5] (fun kv i w5 => kv = .int .i64 1 ∧ i = .int .i64 0 ∧ w5 = w) (fun _ _ _ => 0)
    case atStart => exact ⟨rfl, rfl, rfl⟩
    case round =>
      obtain ⟨rfl, rfl, rfl⟩ := hrel
      go_wp2
      go_ret
      exact ⟨rfl, World.ownsRow_nil _ _ _ _, ⟨rfl, rfl, rfl, Nat.le_refl _, fun _ _ _ => rfl⟩⟩
  · subst hv
    have HO : Hid (w.ownsRow B 60 3 (.slice (some ⟨g, 0, none⟩) zs.length cap) zs.length (buR (mkBJ 0 zs))) := h
    clear h
    go_enter Try.func35, Try.ntmps35
    go_wp2
    go_loopw [1, 5] (fun kv i wr => ∃ j : Nat, j ≤ zs.length ∧ i = .int .i64 j ∧ kv = .int .i64 (1 + 3 * (j : Int)) ∧ wr.ownsRow B 60 3 (.slice (some ⟨g, 0, none⟩) zs.length cap) zs.length (buR (mkBJ j zs)) ∧ w.grownBy wr (some g)) (fun _ i _ => zs.length - (intOf i).toNat)
    case atStart => exact ⟨0, Nat.zero_le _, rfl, rfl, HO.out, ⟨rfl, rfl, rfl, Nat.le_refl _, fun _ _ _ => rfl⟩⟩
    case round =>
      obtain ⟨j, hj, rfl, rfl, hown, hgr⟩ := hrel
      by_cases hlt : j < zs.length
      · have hlen := mkBJ_len j zs hj
        have hown2 : wr.ownsRow B 60 3 (.slice (some ⟨g, 0, none⟩) (mkBJ j zs).length cap) (mkBJ j zs).length (buR (mkBJ j zs)) := by rw [hlen]; exact hown
        have st := own_setBU hown2 j (by omega) (mkB j)
        rw [mkBJ_step j zs hlt, hlen] at st
        have hfz := hown.frozenAt
        obtain ⟨y, d0, d1, d2⟩ := bu_cells hown2 rfl j (by omega)
        unfold mkB at st
        simp only at st
        have ST : Hid _ := st
        have HG : Hid (w.grownBy wr (some g)) := hgr
        clear st hown hown2 hgr hlen HO
        have hj1 : (j : Int) < (zs.length : Int) := by omega
        have hrm : (1 + 3 * (j : Int) + 1 + 1).tmod 3 = 0 := by
          rw [Int.tmod_eq_emod_of_nonneg (by omega)]
          omega
        go_wp2
        refine ⟨⟨j + 1, hlt, by simp, by simp; omega, ST.out.1, gbBU HG.out ST.out.2⟩, ?_⟩
        simp [intOf]
        omega
      · obtain rfl : j = zs.length := by omega
        have e : mkBJ zs.length zs = mkBL zs.length := by simp [mkBJ]
        rw [e] at hown
        have HO2 : Hid (wr.ownsRow B 60 3 (.slice (some ⟨g, 0, none⟩) zs.length cap) zs.length (buR (mkBL zs.length))) := hown
        have HG : Hid (w.grownBy wr (some g)) := hgr
        clear hown hgr HO e
        go_wp2
        go_ret
        exact ⟨rfl, HO2.out, HG.out⟩
set_option maxRecDepth 100000 in
set_option maxHeartbeats 4000000 in
theorem heldBUS_ok {w : World} {B : Nat} {v : Value} (n : Nat) (h : w.ownsRow B 60 3 v n (buR (mkBL n))) (hl : n ≤ 2000) :
    Calls Try.prog 36 #[v, .int .i64 1] w fun e u => e = .returned (.int .i64 (1 + 3 * (n : Int))) ∧ Below w.heap.size w u := by
  have hn := mkBL_len n
  have h2 : w.ownsRow B 60 3 v (mkBL n).length (buR (mkBL n)) := by rw [hn]; exact h
  have hr := BUrow.of h2
  obtain ⟨ao, cap, hv⟩ := bu_sl h
  subst hv
  by_cases hz : n = 0
  · subst hz
    clear h h2 hr hn hl
    go_enter Try.func36, Try.ntmps36
    go_wp2
    go_loopw [1, 5] (fun kv i w5 => kv = .int .i64 1 ∧ i = .int .i64 0 ∧ w5 = w) (fun _ _ _ => 0)
    case atStart => exact ⟨rfl, rfl, rfl⟩
    case round =>
      obtain ⟨rfl, rfl, rfl⟩ := hrel
      go_wp2
      go_ret
      exact ⟨rfl, Below.refl _ _⟩
  · obtain ⟨g, o, cap2, hv2, _, hg, ha⟩ := hr.resolve_left (fun e => hz (by rw [← hn, e.1]; rfl))
    injection hv2 with e1 e2 e3
    subst e1
    have hc2 : ∀ k : Nat, k < n → w.cell? ⟨g, o + k * 3, none⟩ = some (.int .i64 (1 + 3 * (k : Int))) ∧ w.cell? ⟨g, o + k * 3 + 1, none⟩ = some (.int .i64 (1 + 3 * (k : Int) + 1)) ∧ w.cell? ⟨g, o + k * 3 + 2, none⟩ = some (.bool true) := by
      intro k hk
      have h3 := ha k (by omega)
      have e : (mkBL n)[k]'(by omega) = mkB k := by simp [mkBL]
      rw [e] at h3
      exact h3
    clear ha h h2 hn e2 e3
    go_enter Try.func36, Try.ntmps36
    go_wp2
    go_loopw [1, 5] (fun kv i wr => ∃ j : Nat, j ≤ n ∧ i = .int .i64 j ∧ kv = .int .i64 (1 + 3 * (j : Int)) ∧ wr.heap = w.heap ∧ Below w.heap.size w wr) (fun _ i _ => n - (intOf i).toNat)
    case atStart => exact ⟨0, Nat.zero_le _, rfl, rfl, rfl, Below.refl _ _⟩
    case round =>
      obtain ⟨j, hj, rfl, rfl, hh, hb⟩ := hrel
      by_cases hlt : j < n
      · obtain ⟨d0, d1, d2⟩ := hc2 j hlt
        replace d0 : wr.cell? ⟨g, o + j * 3, none⟩ = _ := (World.cell?_of_block (by rw [hh])).trans d0
        replace d1 : wr.cell? ⟨g, o + j * 3 + 1, none⟩ = _ := (World.cell?_of_block (by rw [hh])).trans d1
        replace d2 : wr.cell? ⟨g, o + j * 3 + 2, none⟩ = _ := (World.cell?_of_block (by rw [hh])).trans d2
        clear hc2
        have hj1 : (j : Int) < (n : Int) := by omega
        have hrm : (1 + 3 * (j : Int) + 1 + 1).tmod 3 = 0 := by
          rw [Int.tmod_eq_emod_of_nonneg (by omega)]
          omega
        go_wp2
        refine ⟨⟨j + 1, hlt, by simp, by simp; omega, hh, hb⟩, ?_⟩
        simp [intOf]
        omega
      · obtain rfl : j = n := by omega
        clear hc2
        go_wp2
        go_ret
        exact ⟨rfl, hb⟩
end Go.Proofs.Ytggciigjhlbhhaa
