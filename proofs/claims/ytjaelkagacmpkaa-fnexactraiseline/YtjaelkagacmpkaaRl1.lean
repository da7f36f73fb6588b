import Derived.Test.YtjaelkagacmpkaaOrG
import Derived.Test.YtjaelkagacmpkaaMTo2
namespace Go.Proofs.Ytjaelkagacmpkaa
open Go.ChangeShapes Go.WideShapes Go.ChangeAt Go.RowKit

theorem Orow2.weak {w : World} {lo lo' hi hi' : Nat} {v : Value} {zs : List Int} (h : Orow2 w lo hi v zs) (h1 : lo' ≤ lo) (h2 : hi ≤ hi') : Orow2 w lo' hi' v zs := by
  rcases h with h | ⟨g, o, cap, cur, a1, a2, a3, a4⟩
  · exact .inl h
  · exact .inr ⟨g, o, cap, cur, a1, by omega, by omega, a4⟩
/-- A row of ports that lies in an interval of blocks. -/
def Prow2 (w : World) (lo hi : Nat) (v : Value) (zs : List PV) : Prop := (zs = [] ∧ ∃ ao cap, v = .slice ao 0 cap) ∨ ∃ g o cap cur, v = .slice (some ⟨g, o, none⟩) zs.length cap ∧ lo ≤ g ∧ g < hi ∧ zs.length ≤ cap ∧ w.heap[g]? = some (.cells cur 155 (0, 0)) ∧ ∀ (k : Nat) (hk : k < zs.length), cur[o + k * 2]? = some (.int .i64 zs[k].port) ∧ cur[o + k * 2 + 1]? = some (.int .i64 zs[k].value)
theorem Prow2.weak {w : World} {lo lo' hi hi' : Nat} {v : Value} {zs : List PV} (h : Prow2 w lo hi v zs) (h1 : lo' ≤ lo) (h2 : hi ≤ hi') : Prow2 w lo' hi' v zs := by
  rcases h with h | ⟨g, o, cap, cur, a1, a2, a3, a4⟩
  · exact .inl h
  · exact .inr ⟨g, o, cap, cur, a1, by omega, by omega, a4⟩
theorem Prow2.gi {w u : World} {lo hi a b : Nat} {v : Value} {zs : List PV} (h : Prow2 w lo hi v zs) (g : GI a b w u) (hd : hi ≤ a ∨ b ≤ lo) : Prow2 u lo hi v zs := by
  rcases h with h | ⟨j, o, cap, cur, h1, h2, h3, h4, h5, h6⟩
  · exact .inl h
  · exact .inr ⟨j, o, cap, cur, h1, h2, h3, h4, (g.block j (Array.getElem?_eq_some_iff.1 h5).1 (by omega)).trans h5, h6⟩
theorem Prow2.prow {w : World} {lo hi : Nat} {v : Value} {zs : List PV} (h : Prow2 w lo hi v zs) : PVrow w v zs := by
  rcases h with h | ⟨g, o, cap, cur, h1, h2, h3, h4, h5, h6⟩
  · exact .inl h
  · exact .inr ⟨g, o, cap, h1, h4, (Array.getElem?_eq_some_iff.1 h5).1, fun k hk => ⟨by simp [World.cell?, h5, (h6 k hk).1], by simp [World.cell?, h5, (h6 k hk).2]⟩⟩
theorem Prow2.of {w : World} {lo hi : Nat} {v : Value} {zs : List PV} (h : w.ownsRow lo 155 2 v zs.length (pvR zs)) (hh : w.heap.size ≤ hi) : Prow2 w lo hi v zs := by
  rcases h.2 with ⟨rfl, e⟩ | ⟨g, cap, cur, rfl, hB, hg, hc, _, _, htk⟩
  · exact .inl ⟨List.length_eq_zero_iff.1 e, _, _, by rfl⟩
  · have hlt := (Array.getElem?_eq_some_iff.1 hg).1
    refine .inr ⟨g, 0, cap, cur, rfl, hB, by omega, hc, hg, fun k hk => ?_⟩
    have hz : ∀ j, j < 2 → cur[0 + k * 2 + j]? = (pvC zs[k])[j]? := fun j hj => by
      have h1 : (cur.toList.take (zs.length * 2))[k * 2 + j]? = (pvR zs)[k * 2 + j]? := by rw [htk]
      rw [List.getElem?_take, if_pos (by omega), Array.getElem?_toList, pvR_at zs k hk j hj] at h1
      rw [Nat.zero_add, h1]
    exact ⟨hz 0 (by omega), hz 1 (by omega)⟩
/-- A port put into the row. -/
theorem Prow2.put {w : World} {lo hi g o n cap : Nat} {zs : List PV} (h : Prow2 w lo hi (.slice (some ⟨g, o, none⟩) n cap) zs) (j : Nat) (hj : j < zs.length) (x : PV) : Prow2 ((w.setCell ⟨g, o + j * 2, none⟩ (.int .i64 x.port)).setCell ⟨g, o + j * 2 + 1, none⟩ (.int .i64 x.value)) lo hi (.slice (some ⟨g, o, none⟩) n cap) (zs.set j x) ∧ GI lo hi w ((w.setCell ⟨g, o + j * 2, none⟩ (.int .i64 x.port)).setCell ⟨g, o + j * 2 + 1, none⟩ (.int .i64 x.value)) ∧ w.cell? ⟨g, o + j * 2, none⟩ = some (.int .i64 zs[j].port) ∧ w.cell? ⟨g, o + j * 2 + 1, none⟩ = some (.int .i64 zs[j].value) ∧ ∀ k, w.frozen? ⟨g, k, none⟩ = false := by
  rcases h with ⟨e, _⟩ | ⟨g2, o2, cap2, cur, hv, h2, h3, h4, h5, h6⟩
  · rw [e] at hj
    simp at hj
  · injection hv with e1 e2 e3
    injection e1 with e4
    injection e4 with e5 e6
    subst e5 e6 e3
    obtain ⟨q0, q1⟩ := h6 j hj
    have hs0 := heap_setCell_same w g (o + j * 2) _ _ (.int .i64 x.port) h5
    have hs1 := heap_setCell_same _ g (o + j * 2 + 1) _ _ (.int .i64 x.value) hs0
    refine ⟨.inr ⟨g, o, cap, _, by rw [List.length_set, e2], h2, h3, by rw [List.length_set]; exact h4, hs1, fun k hk => ?_⟩, (GI.set h2 h3).trans (GI.set h2 h3), by simp [World.cell?, h5, q0], by simp [World.cell?, h5, q1], fun k => by simp [World.frozen?, h5]⟩
    rw [List.length_set] at hk
    obtain ⟨r0, r1⟩ := h6 k hk
    have z0 := (Array.getElem?_eq_some_iff.1 r0).1
    have z1 := (Array.getElem?_eq_some_iff.1 r1).1
    by_cases e : k = j
    · subst e
      constructor
      · rw [Array.getElem?_setIfInBounds_ne (by omega), Array.getElem?_setIfInBounds_self_of_lt z0]
        simp
      · rw [Array.getElem?_setIfInBounds_self_of_lt (by simpa using z1)]
        simp
    · rw [Array.getElem?_setIfInBounds_ne (by omega), Array.getElem?_setIfInBounds_ne (by omega), Array.getElem?_setIfInBounds_ne (by omega), Array.getElem?_setIfInBounds_ne (by omega), r0, r1, List.getElem_set_ne (fun q => e q.symm)]
      exact ⟨rfl, rfl⟩
/-- The marks of a row of ports, from k on. -/
def mkEV (k : Int) (i : Nat) : PV := ⟨k + 2 * (i : Int), k + 2 * (i : Int) + 1⟩
def mkV (k : Int) (n : Nat) : List PV := (List.range n).map (mkEV k)
theorem mkV_len (k : Int) (n : Nat) : (mkV k n).length = n := by simp [mkV]
def mkVJ (k : Int) (j : Nat) (zs : List PV) : List PV := mkV k j ++ zs.drop j
theorem mkVJ_len (k : Int) (j : Nat) (zs : List PV) (h : j ≤ zs.length) : (mkVJ k j zs).length = zs.length := by simp [mkVJ, mkV_len]; omega
theorem mkVJ_step (k : Int) (j : Nat) (zs : List PV) (h : j < zs.length) : (mkVJ k j zs).set j (mkEV k j) = mkVJ k (j + 1) zs := by
  have e : zs.drop j = zs[j] :: zs.drop (j + 1) := (List.getElem_cons_drop h).symm
  have e2 : mkV k (j + 1) = mkV k j ++ [mkEV k j] := by simp [mkV, List.range_succ]
  unfold mkVJ
  rw [e, e2]
  have hl : (mkV k j).length = j := mkV_len k j
  rw [List.set_append_right _ _ (by omega), hl, Nat.sub_self, List.set_cons_zero, List.append_assoc]
  rfl
theorem mkVJ_all (k : Int) (zs : List PV) : mkVJ k zs.length zs = mkV k zs.length := by simp [mkVJ]
set_option maxRecDepth 100000 in
set_option maxHeartbeats 4000000 in
theorem markV_ok {w : World} {lo hi : Nat} {v : Value} {zs : List PV} (k0 : Int) (h : Prow2 w lo hi v zs) (hl : zs.length ≤ 1048576) (hk0 : 0 ≤ k0) (hk1 : k0 ≤ 1099511627776) :
    Calls Try.prog 98 #[v, .int .i64 k0] w fun e u => e = .returned (.int .i64 (k0 + 2 * (zs.length : Int))) ∧ Prow2 u lo hi v (mkV k0 zs.length) ∧ GI lo hi w u := by
  by_cases hz : zs.length = 0
  · have hz2 := List.length_eq_zero_iff.1 hz
    subst hz2
    obtain ⟨a1, c1, rfl⟩ : ∃ a1 c1, v = .slice a1 0 c1 := by
      obtain ⟨ao, cap, q⟩ := h.prow.sl
      exact ⟨ao, cap, q⟩
    clear h hz hl
    go_enter Try.func98, Try.ntmps98
    go_wp2
    go_loopw [1, 5] (fun kv i w5 => kv = .int .i64 k0 ∧ i = .int .i64 0 ∧ w5 = w) (fun _ _ _ => 0)
    case atStart => exact ⟨rfl, rfl, rfl⟩
    case round =>
      obtain ⟨rfl, rfl, rfl⟩ := hrel
      go_wp2
      go_ret
      exact ⟨by simp, .inl ⟨rfl, _, _, rfl⟩, GI.refl _ _ _⟩
  · have HO : Hid (Prow2 w lo hi v (mkVJ k0 0 zs)) := (show Prow2 w lo hi v (mkVJ k0 0 zs) from h)
    obtain ⟨g, o, cap, cur, hv, _⟩ := h.resolve_left (fun q => hz (by rw [q.1]; rfl))
    subst hv
    clear h
    go_enter Try.func98, Try.ntmps98
    go_wp2
    go_loopw [1, 5] (fun kv i wr => ∃ j : Nat, j ≤ zs.length ∧ i = .int .i64 j ∧ kv = .int .i64 (k0 + 2 * (j : Int)) ∧ Prow2 wr lo hi (.slice (some ⟨g, o, none⟩) zs.length cap) (mkVJ k0 j zs) ∧ GI lo hi w wr) (fun _ i _ => zs.length - (intOf i).toNat)
    case atStart => exact ⟨0, Nat.zero_le _, rfl, by simp, HO.out, GI.refl _ _ _⟩
    case round =>
      obtain ⟨j, hj, rfl, rfl, hown, hgr⟩ := hrel
      by_cases hlt : j < zs.length
      · have hlen := mkVJ_len k0 j zs hj
        obtain ⟨s1, s2, s3, s4, s5⟩ := hown.put j (by omega) (mkEV k0 j)
        rw [mkVJ_step k0 j zs hlt] at s1
        generalize (mkVJ k0 j zs)[j]'(by omega) = y at s3 s4
        unfold mkEV at s1 s2
        simp only at s1 s2
        have ST : Hid (Prow2 ((wr.setCell ⟨g, o + j * 2, none⟩ (.int .i64 (k0 + 2 * (j : Int)))).setCell ⟨g, o + j * 2 + 1, none⟩ (.int .i64 (k0 + 2 * (j : Int) + 1))) lo hi (.slice (some ⟨g, o, none⟩) zs.length cap) (mkVJ k0 (j + 1) zs)) := s1
        have HG : Hid (GI lo hi w ((wr.setCell ⟨g, o + j * 2, none⟩ (.int .i64 (k0 + 2 * (j : Int)))).setCell ⟨g, o + j * 2 + 1, none⟩ (.int .i64 (k0 + 2 * (j : Int) + 1)))) := hgr.trans s2
        clear s1 s2 hown hgr hlen HO
        have hj1 : (j : Int) < (zs.length : Int) := by omega
        go_wp2
        refine ⟨⟨j + 1, hlt, by simp, by simp; omega, ST.out, HG.out⟩, ?_⟩
        simp [intOf]
        omega
      · obtain rfl : j = zs.length := by omega
        rw [mkVJ_all] at hown
        have HO2 : Hid (Prow2 wr lo hi (.slice (some ⟨g, o, none⟩) zs.length cap) (mkV k0 zs.length)) := hown
        have HG : Hid (GI lo hi w wr) := hgr
        clear hown hgr HO
        go_wp2
        go_ret
        exact ⟨rfl, HO2.out, HG.out⟩
set_option maxRecDepth 100000 in
set_option maxHeartbeats 4000000 in
theorem heldV_ok {w : World} {v : Value} (k0 : Int) (n : Nat) (h : PVrow w v (mkV k0 n)) (hl : n ≤ 1048576) (hk0 : 0 ≤ k0) (hk1 : k0 ≤ 1099511627776) :
    Calls Try.prog 99 #[v, .int .i64 k0] w fun e u => e = .returned (.int .i64 (k0 + 2 * (n : Int))) ∧ Below w.heap.size w u := by
  have hn := mkV_len k0 n
  obtain ⟨ao, cap, hv⟩ := h.sl
  rw [hn] at hv
  subst hv
  have HR : Hid (PVrow w (.slice ao n cap) (mkV k0 n)) := h
  clear h
  go_enter Try.func99, Try.ntmps99
  go_wp2
  go_loopw [1, 5] (fun kv i wr => ∃ j : Nat, j ≤ n ∧ i = .int .i64 j ∧ kv = .int .i64 (k0 + 2 * (j : Int)) ∧ wr.heap = w.heap ∧ Below w.heap.size w wr) (fun _ i _ => n - (intOf i).toNat)
  case atStart => exact ⟨0, Nat.zero_le _, rfl, by simp, rfl, Below.refl _ _⟩
  case round =>
    obtain ⟨j, hj, rfl, rfl, hh, hb⟩ := hrel
    by_cases hlt : j < n
    · obtain ⟨g, o, cap2, hv, _, hg, hc⟩ := HR.out.resolve_left (fun q => by have := congrArg List.length q.1; rw [hn] at this; simp at this; omega)
      injection hv with hv1 hv2 hv3
      subst hv1 hv3
      clear hv2
      obtain ⟨d0, d1⟩ := hc.below hb hg j (by omega)
      have e : (mkV k0 n)[j]'(by omega) = mkEV k0 j := by simp [mkV]
      rw [e] at d0 d1
      unfold mkEV at d0 d1
      simp only at d0 d1
      clear hc e
      have hj1 : (j : Int) < (n : Int) := by omega
      have HBB : Hid (Below w.heap.size w wr) := hb
      have HHH : Hid (wr.heap = w.heap) := hh
      clear hb hh
      go_wp2
      refine ⟨⟨j + 1, hlt, by simp, by simp; omega, HHH.out, HBB.out⟩, ?_⟩
      simp [intOf]
      omega
    · obtain rfl : j = n := by omega
      go_wp2
      go_ret
      exact ⟨rfl, hb⟩
set_option maxRecDepth 100000 in
set_option maxHeartbeats 4000000 in
theorem heldK_ok {w : World} {v : Value} (k0 : Int) (n : Nat) (h : Irow w v (mkK k0 n)) (hl : n ≤ 1048576) (hk0 : 0 ≤ k0) (hk1 : k0 ≤ 1099511627776) :
    Calls Try.prog 58 #[v, .int .i64 k0] w fun e u => e = .returned (.int .i64 (k0 + (n : Int))) ∧ Below w.heap.size w u := by
  have hn := mkK_len k0 n
  obtain ⟨ao, cap, hv⟩ := h.sl
  rw [hn] at hv
  subst hv
  have HR : Hid (Irow w (.slice ao n cap) (mkK k0 n)) := h
  clear h
  go_enter Try.func58, Try.ntmps58
  go_wp2
  go_loopw [1, 5] (fun kv i wr => ∃ j : Nat, j ≤ n ∧ i = .int .i64 j ∧ kv = .int .i64 (k0 + (j : Int)) ∧ wr = w) (fun _ i _ => n - (intOf i).toNat)
  case atStart => exact ⟨0, Nat.zero_le _, rfl, by simp, rfl⟩
  case round =>
    obtain ⟨j, hj, rfl, rfl, rfl⟩ := hrel
    by_cases hlt : j < n
    · obtain ⟨g, o, cap2, hv, _, hg, hc⟩ := HR.out.resolve_left (fun q => by have := congrArg List.length q.1; rw [hn] at this; simp at this; omega)
      injection hv with hv1 hv2 hv3
      subst hv1 hv3
      clear hv2
      have d0 := hc j (by omega)
      have e : (mkK k0 n)[j]'(by omega) = k0 + (j : Int) := by simp [mkK]
      rw [e] at d0
      clear hc e
      have hj1 : (j : Int) < (n : Int) := by omega
      go_wp2
      refine ⟨⟨j + 1, hlt, by simp, by simp; omega, by simp⟩, ?_⟩
      simp [intOf]
      omega
    · obtain rfl : j = n := by omega
      go_wp2
      go_ret
      exact ⟨rfl, Below.refl _ _⟩
end Go.Proofs.Ytjaelkagacmpkaa
