import Derived.Test.YtgjcddidfogkhaaSWalk
import Derived.Deep.QuietTactic
import Derived.BigRegion
namespace Go.Proofs.Ytgjcddidfogkhaa
open Go.ChangeShapes Go.WideShapes Go.ChangeAt Go.RowKit

/-- Where a row of numbers lies. -/
theorem own_at {w : World} {B : Nat} {v : Value} {zs : List Int} (h : w.ownsRow B 2 1 v zs.length (zs.map (Value.int .i64))) : ∃ g cap, (v = .slice (some ⟨g, 0, none⟩) zs.length cap ∨ (v = .slice none 0 0 ∧ zs = [])) ∧ ∀ (k : Nat) (hk : k < zs.length), w.cell? ⟨g, k, none⟩ = some (.int .i64 (zs[k]'hk)) := by
  rcases h.2 with ⟨rfl, e⟩ | ⟨g, cap, cur, rfl, hb, hg, h1, h2, h3, h4⟩
  · exact ⟨0, 0, .inr ⟨rfl, List.length_eq_zero_iff.1 e⟩, fun k hk => by omega⟩
  · refine ⟨g, cap, .inl rfl, fun k hk => ?_⟩
    have e1 : (cur.toList.take (zs.length * 1))[k]? = some (.int .i64 (zs[k]'hk)) := by
      rw [h4, List.getElem?_map, List.getElem?_eq_getElem hk]; rfl
    rw [List.getElem?_take, if_pos (by omega)] at e1
    simp only [World.cell?, hg]
    simpa using e1
theorem own_fz {w : World} {B g cap n : Nat} {xs : List Value} (h : w.ownsRow B 2 1 (.slice (some ⟨g, 0, none⟩) n cap) n xs) (k : Nat) : w.frozen? ⟨g, k, none⟩ = false := h.frozenAt k
set_option maxRecDepth 100000 in
set_option maxHeartbeats 1000000 in
theorem eqI_ok {w : World} {B B' : Nat} {v u : Value} {zs : List Int} (h : w.ownsRow B 2 1 v zs.length (zs.map (Value.int .i64))) (h' : w.ownsRow B' 2 1 u zs.length (zs.map (Value.int .i64))) (hl : zs.length ≤ 100) :
    Calls Try.prog 26 #[v, u] w fun e w' => e = .returned (.bool true) ∧ Below w.heap.size w w' := by
  obtain ⟨g, cap, hv, hc⟩ := own_at h
  obtain ⟨g', cap', hv', hc'⟩ := own_at h'
  clear h h'
  by_cases hz : zs = []
  · subst hz
    obtain ⟨a1, c1, rfl⟩ : ∃ a1 c1, v = .slice a1 0 c1 := by rcases hv with rfl | ⟨rfl, _⟩ <;> exact ⟨_, _, rfl⟩
    obtain ⟨a2, c2, rfl⟩ : ∃ a1 c1, u = .slice a1 0 c1 := by rcases hv' with rfl | ⟨rfl, _⟩ <;> exact ⟨_, _, rfl⟩
    clear hc hc' hv hv'
    go_enter Try.func26, Try.ntmps26
    go_wp2
    go_loopw [5] (fun i w5 => i = .int .i64 0 ∧ w5 = w) (fun _ _ => 0)
    case atStart => exact ⟨rfl, rfl⟩
    case round =>
      obtain ⟨rfl, rfl⟩ := hrel
      go_wp2
      go_ret
      exact ⟨rfl, Below.refl _ _⟩
  · obtain rfl := hv.resolve_right (fun h => hz h.2)
    obtain rfl := hv'.resolve_right (fun h => hz h.2)
    clear hv hv'
    go_enter Try.func26, Try.ntmps26
    go_wp2
    go_loopw [5] (fun i w5 => ∃ k : Nat, k ≤ zs.length ∧ i = .int .i64 k ∧ w5.heap = w.heap ∧ Below w.heap.size w w5) (fun i _ => zs.length - (intOf i).toNat)
    case atStart => exact ⟨0, Nat.zero_le _, rfl, rfl, Below.refl _ _⟩
    case round =>
      obtain ⟨k, hk, rfl, hh, hb⟩ := hrel
      by_cases hlt : k < zs.length
      · have d1 : wr.cell? ⟨g, k, none⟩ = some (.int .i64 zs[k]) := (World.cell?_of_block (by rw [hh])).trans (hc k hlt)
        have d2 : wr.cell? ⟨g', k, none⟩ = some (.int .i64 zs[k]) := (World.cell?_of_block (by rw [hh])).trans (hc' k hlt)
        generalize zs[k] = z at *
        clear hc hc'
        have hk0 : (0 : Int) ≤ (k : Int) := by omega
        have hk1 : (k : Int) < (zs.length : Int) := by omega
        go_wp2
        go_region
        all_goals go_wp2
        go_roundw
        case rel => exact ⟨k + 1, hlt, by go_num, hh, hb.trans ⟨rfl, rfl, rfl, Nat.le_refl _, fun _ _ => rfl⟩⟩
        case measure => simp [intOf]; omega
      · obtain rfl : k = zs.length := by omega
        clear hc hc'
        go_wp2
        go_ret
        exact ⟨rfl, hb⟩
theorem gb2 {w0 w u : World} {r : Option Nat} (h : w0.grownBy w r) (hg : w.grownBy u r) : w0.grownBy u r :=
  ⟨hg.os.trans h.os, hg.tape.trans h.tape, hg.output.trans h.output, Nat.le_trans h.size hg.size, fun k hk hn => (hg.block k (Nat.lt_of_lt_of_le hk h.size) hn).trans (h.block k hk hn)⟩
/-- 1, 2, 3 and so on. -/
def mkL (n : Nat) : List Int := (List.range n).map fun i : Nat => (1 + (i : Int))
theorem mkL_len (n : Nat) : (mkL n).length = n := by simp [mkL]
def mkJ (j : Nat) (zs : List Int) : List Int := mkL j ++ zs.drop j
theorem mkJ_len (j : Nat) (zs : List Int) (h : j ≤ zs.length) : (mkJ j zs).length = zs.length := by simp [mkJ, mkL_len]; omega
theorem mkJ_step (j : Nat) (zs : List Int) (h : j < zs.length) : ((mkJ j zs).map (Value.int .i64)).set j (.int .i64 (1 + (j : Int))) = (mkJ (j + 1) zs).map (Value.int .i64) := by
  have e : zs.drop j = zs[j] :: zs.drop (j + 1) := (List.getElem_cons_drop h).symm
  have e2 : mkL (j + 1) = mkL j ++ [1 + (j : Int)] := by simp [mkL, List.range_succ]
  unfold mkJ
  rw [e, e2, List.map_append, List.map_cons]
  have hl : ((mkL j).map (Value.int .i64)).length = j := by simp [mkL_len]
  rw [List.set_append_right _ _ (by omega), hl, Nat.sub_self]
  simp
set_option maxRecDepth 100000 in
set_option maxHeartbeats 1000000 in
theorem markI_ok {w : World} {B : Nat} {v : Value} {zs : List Int} (h : w.ownsRow B 2 1 v zs.length (zs.map (Value.int .i64))) (hl : zs.length ≤ 100) :
    Calls Try.prog 27 #[v, .int .i64 1] w fun e u => e = .returned (.int .i64 (1 + (zs.length : Int))) ∧ u.ownsRow B 2 1 v zs.length ((mkL zs.length).map (Value.int .i64)) ∧ w.grownBy u v.ownBlock := by
  obtain ⟨g, cap, hv, hc⟩ := own_at h
  by_cases hz : zs = []
  · subst hz
    obtain ⟨a1, c1, rfl⟩ : ∃ a1 c1, v = .slice a1 0 c1 := by rcases hv with rfl | ⟨rfl, _⟩ <;> exact ⟨_, _, rfl⟩
    have HO : Hid (w.ownsRow B 2 1 (.slice a1 0 c1) 0 []) := h
    clear hc hv h
    go_enter Try.func27, Try.ntmps27
    go_wp2
    go_loopw [1, 5] (fun kv i w5 => kv = .int .i64 1 ∧ i = .int .i64 0 ∧ w5 = w) (fun _ _ _ => 0)
    case atStart => exact ⟨rfl, rfl, rfl⟩
    case round =>
      obtain ⟨rfl, rfl, rfl⟩ := hrel
      go_wp2
      go_ret
      exact ⟨rfl, HO.out, ⟨rfl, rfl, rfl, Nat.le_refl _, fun _ _ _ => rfl⟩⟩
  · obtain rfl := hv.resolve_right (fun h => hz h.2)
    clear hv
    have HO : Hid (w.ownsRow B 2 1 (.slice (some ⟨g, 0, none⟩) zs.length cap) zs.length ((mkJ 0 zs).map (Value.int .i64))) := h
    clear h hc
    go_enter Try.func27, Try.ntmps27
    go_wp2
    go_loopw [1, 5] (fun kv i wr => ∃ j : Nat, j ≤ zs.length ∧ i = .int .i64 j ∧ kv = .int .i64 (1 + (j : Int)) ∧ wr.ownsRow B 2 1 (.slice (some ⟨g, 0, none⟩) zs.length cap) zs.length ((mkJ j zs).map (Value.int .i64)) ∧ w.grownBy wr (some g)) (fun _ i _ => zs.length - (intOf i).toNat)
    case atStart => exact ⟨0, Nat.zero_le _, rfl, rfl, HO.out, ⟨rfl, rfl, rfl, Nat.le_refl _, fun _ _ _ => rfl⟩⟩
    case round =>
      obtain ⟨j, hj, rfl, rfl, hown, hgr⟩ := hrel
      by_cases hlt : j < zs.length
      · have hlen := mkJ_len j zs hj
        obtain ⟨y, hy⟩ : ∃ y, wr.cell? ⟨g, j, none⟩ = some y := by
          have := hown.cellAt j (by omega)
          rw [List.getElem?_eq_getElem (by rw [List.length_map, hlen]; exact hlt)] at this
          exact ⟨_, this⟩
        have hfz := hown.frozenAt j
        have st := hown.stored j (.int .i64 (1 + (j : Int)))
        rw [mkJ_step j zs hlt] at st
        have ST : Hid _ := st
        have HG : Hid (w.grownBy wr (some g)) := hgr
        clear st hown hgr hlen HO
        have hj1 : (j : Int) < (zs.length : Int) := by omega
        go_wp2
        refine ⟨⟨j + 1, hlt, by simp, by simp; omega, ST.out.1, gb2 HG.out ST.out.2⟩, ?_⟩
        simp [intOf]
        omega
      · obtain rfl : j = zs.length := by omega
        have e : mkJ zs.length zs = mkL zs.length := by simp [mkJ]
        rw [e] at hown
        have HO2 : Hid _ := hown
        have HG : Hid _ := hgr
        clear hown hgr HO e
        go_wp2
        go_ret
        exact ⟨rfl, HO2.out, HG.out⟩
set_option maxRecDepth 100000 in
set_option maxHeartbeats 1000000 in
theorem heldI_ok {w : World} {B : Nat} {v : Value} (n : Nat) (h : w.ownsRow B 2 1 v n ((mkL n).map (Value.int .i64))) (hl : n ≤ 100) :
    Calls Try.prog 28 #[v, .int .i64 1] w fun e u => e = .returned (.int .i64 (1 + (n : Int))) ∧ u = w := by
  have hn := mkL_len n
  have h2 : w.ownsRow B 2 1 v (mkL n).length ((mkL n).map (Value.int .i64)) := by rw [hn]; exact h
  obtain ⟨g, cap, hv, hc⟩ := own_at h2
  clear h h2
  by_cases hz : n = 0
  · subst hz
    obtain ⟨a1, c1, rfl⟩ : ∃ a1 c1, v = .slice a1 0 c1 := by rcases hv with rfl | ⟨rfl, _⟩ <;> exact ⟨_, _, rfl⟩
    clear hc hv hn
    go_enter Try.func28, Try.ntmps28
    go_wp2
    go_loopw [1, 5] (fun kv i w5 => kv = .int .i64 1 ∧ i = .int .i64 0 ∧ w5 = w) (fun _ _ _ => 0)
    case atStart => exact ⟨rfl, rfl, rfl⟩
    case round =>
      obtain ⟨rfl, rfl, rfl⟩ := hrel
      go_wp2
      go_ret
      exact ⟨rfl, rfl⟩
  · obtain rfl := hv.resolve_right (fun h => hz (by have := congrArg List.length h.2; rw [hn] at this; simpa using this))
    clear hv
    have hc2 : ∀ k : Nat, k < n → w.cell? ⟨g, k, none⟩ = some (.int .i64 (1 + (k : Int))) := by
      intro k hk
      rw [hc k (by omega)]
      simp [mkL]
    clear hc
    rw [hn]
    clear hn
    go_enter Try.func28, Try.ntmps28
    go_wp2
    go_loopw [1, 5] (fun kv i wr => ∃ j : Nat, j ≤ n ∧ i = .int .i64 j ∧ kv = .int .i64 (1 + (j : Int)) ∧ wr = w) (fun _ i _ => n - (intOf i).toNat)
    case atStart => exact ⟨0, Nat.zero_le _, rfl, rfl, rfl⟩
    case round =>
      obtain ⟨j, hj, rfl, rfl, rfl⟩ := hrel
      by_cases hlt : j < n
      · have hcj := hc2 j hlt
        clear hc2
        have hj1 : (j : Int) < (n : Int) := by omega
        go_wp2
        refine ⟨⟨j + 1, hlt, by simp, by simp; omega, by simp⟩, ?_⟩
        simp [intOf]
        omega
      · obtain rfl : j = n := by omega
        clear hc2
        go_wp2
        go_ret
        exact ⟨rfl, rfl⟩
end Go.Proofs.Ytgjcddidfogkhaa
