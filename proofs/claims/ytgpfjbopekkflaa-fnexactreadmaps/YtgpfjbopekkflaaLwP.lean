import Derived.Test.YtgpfjbopekkflaaLwI
import Derived.Deep.RegionHeld3
namespace Go.Proofs.Ytgpfjbopekkflaa
open Go.ChangeShapes Go.WideShapes Go.ChangeAt Go.RowKit

/-- A page's map. -/
structure PM where
  va : Int
  frame : Int
  flags : Int
  large : Bool
def pmA (m : PM) : Value := .agg #[.int .i64 m.va, .int .i64 m.frame, .int .i64 m.flags, .bool m.large]
def pmC (m : PM) : List Value := [.int .i64 m.va, .int .i64 m.frame, .int .i64 m.flags, .bool m.large]
def pmR (zs : List PM) : List Value := zs.flatMap pmC
theorem pmR_len (zs : List PM) : (pmR zs).length = zs.length * 4 := by
  induction zs with
  | nil => rfl
  | cons z zs ih =>
    have e : pmR (z :: zs) = pmC z ++ pmR zs := rfl
    rw [e, List.length_append, ih]
    simp [pmC]
    omega
theorem pmR_at (zs : List PM) (k : Nat) (hk : k < zs.length) (j : Nat) (hj : j < 4) : (pmR zs)[k * 4 + j]? = (pmC zs[k])[j]? := by
  induction zs generalizing k with
  | nil => simp at hk
  | cons z zs ih =>
    have e : pmR (z :: zs) = pmC z ++ pmR zs := rfl
    have hl : (pmC z).length = 4 := rfl
    rw [e]
    cases k with
    | zero =>
      rw [List.getElem?_append_left (by omega)]
      simp
    | succ k =>
      rw [List.getElem?_append_right (by omega), hl, show (k + 1) * 4 + j - 4 = k * 4 + j by omega, ih k (by simpa using hk)]
      simp
/-- Where a row of maps lies. -/
theorem pm_at {w : World} {B : Nat} {v : Value} {zs : List PM} (h : w.ownsRow B 53 4 v zs.length (pmR zs)) : ∃ g cap, (v = .slice (some ⟨g, 0, none⟩) zs.length cap ∨ (v = .slice none 0 0 ∧ zs = [])) ∧
    ∀ (k : Nat) (hk : k < zs.length), w.cell? ⟨g, k * 4, none⟩ = some (.int .i64 zs[k].va) ∧ w.cell? ⟨g, k * 4 + 1, none⟩ = some (.int .i64 zs[k].frame) ∧ w.cell? ⟨g, k * 4 + 2, none⟩ = some (.int .i64 zs[k].flags) ∧ w.cell? ⟨g, k * 4 + 3, none⟩ = some (.bool zs[k].large) := by
  rcases h.2 with ⟨rfl, e⟩ | ⟨g, cap, cur, rfl, rest⟩
  · exact ⟨0, 0, .inr ⟨rfl, List.length_eq_zero_iff.1 e⟩, fun k hk => by omega⟩
  · have h2 : w.ownsRow B 53 4 (.slice (some ⟨g, 0, none⟩) zs.length cap) zs.length (pmR zs) := h
    refine ⟨g, cap, .inl rfl, fun k hk => ?_⟩
    have a0 := h2.cellAt (k * 4 + 0) (by omega)
    have a1 := h2.cellAt (k * 4 + 1) (by omega)
    have a2 := h2.cellAt (k * 4 + 2) (by omega)
    have a3 := h2.cellAt (k * 4 + 3) (by omega)
    rw [pmR_at zs k hk _ (by omega)] at a0 a1 a2 a3
    exact ⟨a0, a1, a2, a3⟩
set_option maxRecDepth 100000 in
set_option maxHeartbeats 4000000 in
theorem eqPM_ok (m : PM) (w : World) : Calls Try.prog 38 #[pmA m, pmA m] w fun e w' => e = .returned (.bool true) ∧ Below w.heap.size w w' := by
  unfold pmA
  go_enter Try.func38, Try.ntmps38
  go_wp2
  go_ret
  exact ⟨rfl, ((Below.refl _ _).alloc (Nat.le_refl _) _).alloc (by simp) _⟩
set_option maxRecDepth 100000 in
set_option maxHeartbeats 4000000 in
theorem eqPMS_ok {w : World} {B B' : Nat} {v u : Value} {zs : List PM} (h : w.ownsRow B 53 4 v zs.length (pmR zs)) (h' : w.ownsRow B' 53 4 u zs.length (pmR zs)) (hl : zs.length ≤ 2000) :
    Calls Try.prog 12 #[v, u] w fun e w' => e = .returned (.bool true) ∧ Below w.heap.size w w' := by
  obtain ⟨g, cap, hv, hc⟩ := pm_at h
  obtain ⟨g', cap', hv', hc'⟩ := pm_at h'
  by_cases hz : zs = []
  · subst hz
    obtain ⟨a1, c1, rfl⟩ : ∃ a1 c1, v = .slice a1 0 c1 := by rcases hv with rfl | ⟨rfl, _⟩ <;> exact ⟨_, _, rfl⟩
    obtain ⟨a2, c2, rfl⟩ : ∃ a1 c1, u = .slice a1 0 c1 := by rcases hv' with rfl | ⟨rfl, _⟩ <;> exact ⟨_, _, rfl⟩
    clear hc hc' hv hv' h h'
    go_enter Try.func12, Try.ntmps12
    go_wp2
    go_loopw [5] (fun i w5 => i = .int .i64 0 ∧ w5 = w) (fun _ _ => 0)
    case atStart => exact ⟨rfl, rfl⟩
    case round =>
      obtain ⟨rfl, rfl⟩ := hrel
      go_wp2
      go_ret
      exact ⟨rfl, Below.refl _ _⟩
  · obtain rfl := hv.resolve_right (fun h => hz h.2)
    obtain rfl := hv'.resolve_right (fun h => hz h.2)
    have hg : g < w.heap.size := (h.lt g rfl).2
    have hg' : g' < w.heap.size := (h'.lt g' rfl).2
    clear hv hv' h h'
    go_enter Try.func12, Try.ntmps12
    go_wp2
    go_loopw [5] (fun i w5 => ∃ k : Nat, k ≤ zs.length ∧ i = .int .i64 k ∧ Below w.heap.size w w5) (fun i _ => zs.length - (intOf i).toNat)
    case atStart => exact ⟨0, Nat.zero_le _, rfl, Below.refl _ _⟩
    case round =>
      obtain ⟨k, hk, rfl, hb⟩ := hrel
      by_cases hlt : k < zs.length
      · obtain ⟨d0, d1, d2, d3⟩ := hc k hlt
        obtain ⟨e0, e1, e2, e3⟩ := hc' k hlt
        rw [← World.cell?_of_block (hb.block g hg)] at d0 d1 d2 d3
        rw [← World.cell?_of_block (hb.block g' hg')] at e0 e1 e2 e3
        generalize zs[k] = z at *
        clear hc hc'
        have hk0 : (0 : Int) ≤ (k : Int) := by omega
        have hk1 : (k : Int) < (zs.length : Int) := by omega
        have hgw : g < wr.heap.size := Nat.lt_of_lt_of_le hg hb.size
        have hgw' : g' < wr.heap.size := Nat.lt_of_lt_of_le hg' hb.size
        have HE : Hid _ := fun w' => eqPM_ok z w'
        have HB : Hid _ := hb
        unfold pmA at HE
        clear hb
        go_wp2
        go_region_held3 (fun w' => w'.cell? ⟨g, k * 4, none⟩ = some (.int .i64 z.va) ∧ w'.cell? ⟨g, k * 4 + 1, none⟩ = some (.int .i64 z.frame) ∧ w'.cell? ⟨g, k * 4 + 2, none⟩ = some (.int .i64 z.flags) ∧ w'.cell? ⟨g, k * 4 + 3, none⟩ = some (.bool z.large) ∧ w'.cell? ⟨g', k * 4, none⟩ = some (.int .i64 z.va) ∧ w'.cell? ⟨g', k * 4 + 1, none⟩ = some (.int .i64 z.frame) ∧ w'.cell? ⟨g', k * 4 + 2, none⟩ = some (.int .i64 z.flags) ∧ w'.cell? ⟨g', k * 4 + 3, none⟩ = some (.bool z.large)) (go_keep) ((go_at_call 38; refine Calls.mono (HE.out wr.drew) ?_; rintro e u5 ⟨rfl, hu5⟩; have hb5 : Below wr.heap.size wr u5 := ⟨hu5.os, hu5.tape, hu5.output, hu5.size, hu5.block⟩; have HB5 : Hid (Below wr.heap.size wr u5) := hb5; have f0 := (World.cell?_of_block (hb5.block g hgw)).trans d0; have f1 := (World.cell?_of_block (hb5.block g hgw)).trans d1; have f2 := (World.cell?_of_block (hb5.block g hgw)).trans d2; have f3 := (World.cell?_of_block (hb5.block g hgw)).trans d3; have x0 := (World.cell?_of_block (hb5.block g' hgw')).trans e0; have x1 := (World.cell?_of_block (hb5.block g' hgw')).trans e1; have x2 := (World.cell?_of_block (hb5.block g' hgw')).trans e2; have x3 := (World.cell?_of_block (hb5.block g' hgw')).trans e3; clear hu5 hb5))
        all_goals go_wp2
        all_goals go_roundw
        case rel => exact ⟨k + 1, hlt, by go_num, HB.out.trans (HB5.out.mono HB.out.size)⟩
        case measure => simp [intOf]; omega
      · obtain rfl : k = zs.length := by omega
        clear hc hc'
        go_wp2
        go_ret
        exact ⟨rfl, hb⟩
end Go.Proofs.Ytgpfjbopekkflaa
