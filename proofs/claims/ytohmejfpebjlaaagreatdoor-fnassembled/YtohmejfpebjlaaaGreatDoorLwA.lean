import Derived.Test.YtohmejfpebjlaaaGreatDoorAsm
namespace Go.Proofs.YtohmejfpebjlaaaGreatDoor
open Go.ChangeShapes Go.WideShapes Go.ChangeAt Go.WideMaps Go.WideElems Go.RowKit

set_option maxHeartbeats 1000000 in
theorem lwAt_any (a : Option Addr) (len cap : Nat) (w : World) (h : CodeAt w w.heap.size a len) (hl : len ≤ 1048576) :
    Calls Tryz.prog 14 #[.slice a len cap, .int .i64 0, .int .i64 200] w fun e w' => w' = w ∧ ∃ n, e = .returned (.int .i64 n) ∧ 0 ≤ n ∧ n ≤ 199 := by
  rcases h with rfl | ⟨b, off, rfl, hb, hc⟩
  · go_enter Tryz.func14, Tryz.ntmps14
    go_wp2
    go_ret
    exact ⟨rfl, 0, rfl, by omega, by omega⟩
  · by_cases h0 : len = 0
    · subst h0
      go_enter Tryz.func14, Tryz.ntmps14
      go_wp2
      go_ret
      exact ⟨rfl, 0, rfl, by omega, by omega⟩
    · obtain ⟨x, x0, x1, hx⟩ := hc 0 (by omega)
      have hlz : ¬ (len : Int) = 0 := by omega
      have hr : (0 : Int).tmod (len : Int) = 0 := Int.zero_tmod _
      have hq : 0 ≤ x % 200 ∧ x % 200 ≤ 199 := by omega
      rw [Nat.add_zero] at hx
      clear hc
      go_enter Tryz.func14, Tryz.ntmps14
      go_wp2
      go_ret
      exact ⟨rfl, _, rfl, hq.1, hq.2⟩
/-- Two rows of one content are alike. -/
theorem own_at {w : World} {B : Nat} {v : Value} {zs : List Int} (h : w.ownsRow B 2 1 v zs.length (zs.map (Value.int .i64))) : ∃ g cap, (v = .slice (some ⟨g, 0, none⟩) zs.length cap ∨ (v = .slice none 0 0 ∧ zs = [])) ∧ ∀ (k : Nat) (hk : k < zs.length), w.cell? ⟨g, k, none⟩ = some (.int .i64 (zs[k]'hk)) := by
  rcases h.2 with ⟨rfl, e⟩ | ⟨g, cap, cur, rfl, hb, hg, h1, h2, h3, h4⟩
  · exact ⟨0, 0, .inr ⟨rfl, List.length_eq_zero_iff.1 e⟩, fun k hk => by omega⟩
  · refine ⟨g, cap, .inl rfl, fun k hk => ?_⟩
    have e1 : (cur.toList.take (zs.length * 1))[k]? = some (.int .i64 (zs[k]'hk)) := by
      rw [h4, List.getElem?_map, List.getElem?_eq_getElem hk]; rfl
    rw [List.getElem?_take, if_pos (by omega)] at e1
    simp only [World.cell?, hg]
    simpa using e1
set_option maxRecDepth 100000 in
set_option maxHeartbeats 1000000 in
theorem lwInts_ok {w : World} {B B' : Nat} {v u : Value} {zs : List Int} (h : w.ownsRow B 2 1 v zs.length (zs.map (Value.int .i64))) (h' : w.ownsRow B' 2 1 u zs.length (zs.map (Value.int .i64))) (hl : zs.length ≤ 100) :
    Calls Tryz.prog 15 #[v, u] w fun e w' => e = .returned (.bool true) ∧ Below w.heap.size w w' := by
  obtain ⟨g, cap, hv, hc⟩ := own_at h
  obtain ⟨g', cap', hv', hc'⟩ := own_at h'
  clear h h'
  by_cases hz : zs = []
  · subst hz
    obtain ⟨a1, c1, rfl⟩ : ∃ a1 c1, v = .slice a1 0 c1 := by rcases hv with rfl | ⟨rfl, _⟩ <;> exact ⟨_, _, rfl⟩
    obtain ⟨a2, c2, rfl⟩ : ∃ a1 c1, u = .slice a1 0 c1 := by rcases hv' with rfl | ⟨rfl, _⟩ <;> exact ⟨_, _, rfl⟩
    clear hc hc' hv hv'
    go_enter Tryz.func15, Tryz.ntmps15
    go_wp2
    go_loopw [5] (fun i w5 => i = .int .i64 0 ∧ w5 = w) (fun _ _ => 0)
    case atStart => exact ⟨rfl, rfl⟩
    case round =>
      obtain ⟨rfl, rfl⟩ := hrel
      go_wp2
      go_ret
      exact ⟨rfl, Below.refl _ _⟩
  · obtain rfl := hv.resolve_right (fun h => hz h.2)
    obtain rfl := hv'.resolve_right (fun h => hz h.2)
    clear hv hv'
    go_enter Tryz.func15, Tryz.ntmps15
    go_wp2
    go_loopw [5] (fun i w5 => ∃ k : Nat, k ≤ zs.length ∧ i = .int .i64 k ∧ w5.heap = w.heap ∧ Below w.heap.size w w5) (fun i _ => zs.length - (intOf i).toNat)
    case atStart => exact ⟨0, Nat.zero_le _, rfl, rfl, Below.refl _ _⟩
    case round =>
      obtain ⟨k, hk, rfl, hh, hb⟩ := hrel
      by_cases hlt : k < zs.length
      · have d1 : wr.cell? ⟨g, k, none⟩ = some (.int .i64 zs[k]) := (World.cell?_of_block (by rw [hh])).trans (hc k hlt)
        have d2 : wr.cell? ⟨g', k, none⟩ = some (.int .i64 zs[k]) := (World.cell?_of_block (by rw [hh])).trans (hc' k hlt)
        generalize zs[k] = z at *
        clear hc hc'
        have hk0 : (0 : Int) ≤ (k : Int) := by omega
        have hk1 : (k : Int) < (zs.length : Int) := by omega
        go_wp2
        go_region
        all_goals go_wp2
        go_roundw
        case rel => exact ⟨k + 1, hlt, by go_num, hh, hb.trans ⟨rfl, rfl, rfl, Nat.le_refl _, fun _ _ => rfl⟩⟩
        case measure => simp [intOf]; omega
      · obtain rfl : k = zs.length := by omega
        clear hc hc'
        go_wp2
        go_ret
        exact ⟨rfl, hb⟩
end Go.Proofs.YtohmejfpebjlaaaGreatDoor
