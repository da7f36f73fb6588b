import Derived.Test.YtfagohdmepnkkaaSMap7
import Derived.Test.YtfagohdmepnkkaaRowPM4
namespace Go.Proofs.Ytfagohdmepnkkaa
open Go.ChangeShapes Go.WideShapes Go.ChangeAt Go.RowKit

/-- Only blocks of one interval are others. -/
structure GI (lo hi : Nat) (w u : World) : Prop where
  os : u.os = w.os
  tape : u.tape = w.tape
  output : u.output = w.output
  size : w.heap.size ≤ u.heap.size
  block : ∀ k, k < w.heap.size → (k < lo ∨ hi ≤ k) → u.heap[k]? = w.heap[k]?
theorem GI.refl (lo hi : Nat) (w : World) : GI lo hi w w := ⟨rfl, rfl, rfl, Nat.le_refl _, fun _ _ _ => rfl⟩
theorem GI.trans {lo hi : Nat} {w u v : World} (h : GI lo hi w u) (h2 : GI lo hi u v) : GI lo hi w v := ⟨h2.os.trans h.os, h2.tape.trans h.tape, h2.output.trans h.output, Nat.le_trans h.size h2.size, fun k hk h3 => (h2.block k (Nat.lt_of_lt_of_le hk h.size) h3).trans (h.block k hk h3)⟩
theorem GI.of_below {lo hi : Nat} {w u : World} (h : Below w.heap.size w u) : GI lo hi w u := ⟨h.os, h.tape, h.output, h.size, fun k hk _ => h.block k hk⟩
theorem GI.set {lo hi g o : Nat} {w : World} {x : Value} (h0 : lo ≤ g) (h1 : g < hi) : GI lo hi w (w.setCell ⟨g, o, none⟩ x) := ⟨rfl, rfl, rfl, by simp [World.setCell], fun k _ h => Below.heap_setCell _ _ _ _ (by simp only; omega)⟩
/-- A row of numbers that lies in an interval of blocks. -/
def Orow2 (w : World) (lo hi : Nat) (v : Value) (zs : List Int) : Prop := (zs = [] ∧ ∃ ao cap, v = .slice ao 0 cap) ∨ ∃ g o cap cur, v = .slice (some ⟨g, o, none⟩) zs.length cap ∧ lo ≤ g ∧ g < hi ∧ zs.length ≤ cap ∧ w.heap[g]? = some (.cells cur 2 (0, 0)) ∧ ∀ (k : Nat) (hk : k < zs.length), cur[o + k]? = some (.int .i64 zs[k])
theorem Orow2.of {w : World} {lo hi : Nat} {v : Value} {zs : List Int} (h : Orow w lo v zs) (hh : w.heap.size ≤ hi) : Orow2 w lo hi v zs := by
  rcases h with h | ⟨g, o, cap, cur, h1, h2, h3, h4, h5⟩
  · exact .inl h
  · have := (Array.getElem?_eq_some_iff.1 h4).1
    exact .inr ⟨g, o, cap, cur, h1, h2, by omega, h3, h4, h5⟩
theorem Orow2.irow {w : World} {lo hi : Nat} {v : Value} {zs : List Int} (h : Orow2 w lo hi v zs) : Irow w v zs := by
  rcases h with h | ⟨g, o, cap, cur, h1, h2, h3, h4, h5, h6⟩
  · exact .inl h
  · exact Orow.irow (B := lo) (.inr ⟨g, o, cap, cur, h1, h2, h4, h5, h6⟩)
theorem Orow2.gi {w u : World} {lo hi a b : Nat} {v : Value} {zs : List Int} (h : Orow2 w lo hi v zs) (g : GI a b w u) (hd : hi ≤ a ∨ b ≤ lo) : Orow2 u lo hi v zs := by
  rcases h with h | ⟨j, o, cap, cur, h1, h2, h3, h4, h5, h6⟩
  · exact .inl h
  · exact .inr ⟨j, o, cap, cur, h1, h2, h3, h4, (g.block j (Array.getElem?_eq_some_iff.1 h5).1 (by omega)).trans h5, h6⟩
/-- k, k + 1, k + 2 and so on. -/
def mkK (k : Int) (n : Nat) : List Int := (List.range n).map fun i : Nat => (k + (i : Int))
theorem mkK_len (k : Int) (n : Nat) : (mkK k n).length = n := by simp [mkK]
def mkKJ (k : Int) (j : Nat) (zs : List Int) : List Int := mkK k j ++ zs.drop j
theorem mkKJ_len (k : Int) (j : Nat) (zs : List Int) (h : j ≤ zs.length) : (mkKJ k j zs).length = zs.length := by simp [mkKJ, mkK_len]; omega
theorem mkKJ_step (k : Int) (j : Nat) (zs : List Int) (h : j < zs.length) : (mkKJ k j zs).set j (k + (j : Int)) = mkKJ k (j + 1) zs := by
  have e : zs.drop j = zs[j] :: zs.drop (j + 1) := (List.getElem_cons_drop h).symm
  have e2 : mkK k (j + 1) = mkK k j ++ [k + (j : Int)] := by simp [mkK, List.range_succ]
  unfold mkKJ
  rw [e, e2]
  have hl : (mkK k j).length = j := mkK_len k j
  rw [List.set_append_right _ _ (by omega), hl, Nat.sub_self, List.set_cons_zero, List.append_assoc]
  rfl
theorem mkKJ_all (k : Int) (zs : List Int) : mkKJ k zs.length zs = mkK k zs.length := by simp [mkKJ]
/-- A number put into the row. -/
theorem Orow2.put {w : World} {lo hi g o n cap : Nat} {zs : List Int} (h : Orow2 w lo hi (.slice (some ⟨g, o, none⟩) n cap) zs) (j : Nat) (hj : j < zs.length) (x : Int) : Orow2 (w.setCell ⟨g, o + j, none⟩ (.int .i64 x)) lo hi (.slice (some ⟨g, o, none⟩) n cap) (zs.set j x) ∧ GI lo hi w (w.setCell ⟨g, o + j, none⟩ (.int .i64 x)) ∧ w.cell? ⟨g, o + j, none⟩ = some (.int .i64 zs[j]) ∧ w.frozen? ⟨g, o + j, none⟩ = false := by
  rcases h with ⟨e, _⟩ | ⟨g2, o2, cap2, cur, hv, h2, h3, h4, h5, h6⟩
  · rw [e] at hj
    simp at hj
  · injection hv with e1 e2 e3
    injection e1 with e4
    injection e4 with e5 e6
    subst e5 e6 e3
    refine ⟨.inr ⟨g, o, cap, cur.setIfInBounds (o + j) (.int .i64 x), by rw [List.length_set, e2], h2, h3, by rw [List.length_set]; exact h4, ?_, fun k hk => ?_⟩, GI.set h2 h3, by simp [World.cell?, h5, h6 j hj], by simp [World.frozen?, h5]⟩
    · exact heap_setCell_same w g (o + j) _ _ (.int .i64 x) h5
    · rw [List.length_set] at hk
      have hq := h6 k hk
      have hsz := (Array.getElem?_eq_some_iff.1 hq).1
      by_cases e : k = j
      · subst e
        rw [Array.getElem?_setIfInBounds_self_of_lt hsz]
        simp
      · rw [Array.getElem?_setIfInBounds_ne (by omega), hq, List.getElem_set_ne (fun q => e q.symm)]
set_option maxRecDepth 100000 in
set_option maxHeartbeats 4000000 in
theorem markO_ok {w : World} {lo hi : Nat} {v : Value} {zs : List Int} (k0 : Int) (h : Orow2 w lo hi v zs) (hl : zs.length ≤ 1048576) (hk0 : 0 ≤ k0) (hk1 : k0 ≤ 1099511627776) :
    Calls Try.prog 20 #[v, .int .i64 k0] w fun e u => e = .returned (.int .i64 (k0 + (zs.length : Int))) ∧ Orow2 u lo hi v (mkK k0 zs.length) ∧ GI lo hi w u := by
  by_cases hz : zs.length = 0
  · have hz2 := List.length_eq_zero_iff.1 hz
    subst hz2
    obtain ⟨a1, c1, rfl⟩ : ∃ a1 c1, v = .slice a1 0 c1 := by
      obtain ⟨ao, cap, q⟩ := h.irow.sl
      exact ⟨ao, cap, q⟩
    clear h hz hl
    go_enter Try.func20, Try.ntmps20
    go_wp2
    go_loopw [1, 5] (fun kv i w5 => kv = .int .i64 k0 ∧ i = .int .i64 0 ∧ w5 = w) (fun _ _ _ => 0)
    case atStart => exact ⟨rfl, rfl, rfl⟩
    case round =>
      obtain ⟨rfl, rfl, rfl⟩ := hrel
      go_wp2
      go_ret
      exact ⟨by simp, .inl ⟨rfl, _, _, rfl⟩, GI.refl _ _ _⟩
  · have HO : Hid (Orow2 w lo hi v (mkKJ k0 0 zs)) := (show Orow2 w lo hi v (mkKJ k0 0 zs) from h)
    obtain ⟨g, o, cap, cur, hv, _⟩ := h.resolve_left (fun q => hz (by rw [q.1]; rfl))
    subst hv
    clear h
    go_enter Try.func20, Try.ntmps20
    go_wp2
    go_loopw [1, 5] (fun kv i wr => ∃ j : Nat, j ≤ zs.length ∧ i = .int .i64 j ∧ kv = .int .i64 (k0 + (j : Int)) ∧ Orow2 wr lo hi (.slice (some ⟨g, o, none⟩) zs.length cap) (mkKJ k0 j zs) ∧ GI lo hi w wr) (fun _ i _ => zs.length - (intOf i).toNat)
    case atStart => exact ⟨0, Nat.zero_le _, rfl, by simp, HO.out, GI.refl _ _ _⟩
    case round =>
      obtain ⟨j, hj, rfl, rfl, hown, hgr⟩ := hrel
      by_cases hlt : j < zs.length
      · have hlen := mkKJ_len k0 j zs hj
        obtain ⟨s1, s2, s3, s4⟩ := hown.put j (by omega) (k0 + (j : Int))
        rw [mkKJ_step k0 j zs hlt] at s1
        generalize (mkKJ k0 j zs)[j]'(by omega) = y at s3
        have ST : Hid (Orow2 (wr.setCell ⟨g, o + j, none⟩ (.int .i64 (k0 + (j : Int)))) lo hi (.slice (some ⟨g, o, none⟩) zs.length cap) (mkKJ k0 (j + 1) zs)) := s1
        have HG : Hid (GI lo hi w (wr.setCell ⟨g, o + j, none⟩ (.int .i64 (k0 + (j : Int))))) := hgr.trans s2
        clear s1 s2 hown hgr hlen HO
        have hj1 : (j : Int) < (zs.length : Int) := by omega
        go_wp2
        refine ⟨⟨j + 1, hlt, by simp, by simp; omega, ST.out, HG.out⟩, ?_⟩
        simp [intOf]
        omega
      · obtain rfl : j = zs.length := by omega
        rw [mkKJ_all] at hown
        have HO2 : Hid (Orow2 wr lo hi (.slice (some ⟨g, o, none⟩) zs.length cap) (mkK k0 zs.length)) := hown
        have HG : Hid (GI lo hi w wr) := hgr
        clear hown hgr HO
        go_wp2
        go_ret
        exact ⟨rfl, HO2.out, HG.out⟩
set_option maxRecDepth 100000 in
set_option maxHeartbeats 4000000 in
theorem heldO_ok {w : World} {v : Value} (n : Nat) (h : Irow w v (mkK 1 n)) (hl : n ≤ 1048576) :
    Calls Try.prog 63 #[v, .int .i64 1] w fun e u => e = .returned (.int .i64 (1 + (n : Int))) ∧ Below w.heap.size w u := by
  have hn := mkK_len 1 n
  obtain ⟨ao, cap, hv⟩ := h.sl
  rw [hn] at hv
  subst hv
  by_cases hz : n = 0
  · subst hz
    clear h hn
    go_enter Try.func63, Try.ntmps63
    go_wp2
    go_loopw [1, 5] (fun kv i w5 => kv = .int .i64 1 ∧ i = .int .i64 0 ∧ w5 = w) (fun _ _ _ => 0)
    case atStart => exact ⟨rfl, rfl, rfl⟩
    case round =>
      obtain ⟨rfl, rfl, rfl⟩ := hrel
      go_wp2
      go_ret
      exact ⟨rfl, Below.refl _ _⟩
  · obtain ⟨g, o, cap2, hv, _, _, hat⟩ := h.resolve_left (fun q => hz (by rw [← hn, q.1]; rfl))
    injection hv with e1 e2 e3
    subst e1 e3
    have hc2 : ∀ k : Nat, k < n → w.cell? ⟨g, o + k, none⟩ = some (.int .i64 (1 + (k : Int))) := by
      intro k hk
      have q := hat k (by omega)
      rw [q]
      simp [mkK]
    clear hat h hn e2
    go_enter Try.func63, Try.ntmps63
    go_wp2
    go_loopw [1, 5] (fun kv i wr => ∃ j : Nat, j ≤ n ∧ i = .int .i64 j ∧ kv = .int .i64 (1 + (j : Int)) ∧ wr = w) (fun _ i _ => n - (intOf i).toNat)
    case atStart => exact ⟨0, Nat.zero_le _, rfl, rfl, rfl⟩
    case round =>
      obtain ⟨j, hj, rfl, rfl, rfl⟩ := hrel
      by_cases hlt : j < n
      · have hcj := hc2 j hlt
        clear hc2
        have hj1 : (j : Int) < (n : Int) := by omega
        go_wp2
        refine ⟨⟨j + 1, hlt, by simp, by simp; omega, by simp⟩, ?_⟩
        simp [intOf]
        omega
      · obtain rfl : j = n := by omega
        clear hc2
        go_wp2
        go_ret
        exact ⟨rfl, Below.refl _ _⟩
end Go.Proofs.Ytfagohdmepnkkaa
