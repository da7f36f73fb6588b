import Derived.Test.YtkmbhhkgfofcoaaOwnB
import Derived.Deep.QuietTactic
import Derived.BigRegion
import Derived.Deep.RegionHeld3
import Derived.Laws.MakeOwn
namespace Go.Proofs.Ytkmbhhkgfofcoaa
open Go.ChangeShapes Go.WideShapes Go.ChangeAt Go.RowKit

structure TNT where
  cpu : Int
  mem : Int
  bill : Int
def tntA (m : TNT) : Value := .agg #[.int .i64 m.cpu, .int .i64 m.mem, .int .i64 m.bill]
def tntC (m : TNT) : List Value := [.int .i64 m.cpu, .int .i64 m.mem, .int .i64 m.bill]
def tntR (zs : List TNT) : List Value := zs.flatMap tntC
theorem tntR_app (xs ys : List TNT) : tntR (xs ++ ys) = tntR xs ++ tntR ys := by simp [tntR]
theorem tntR_len (zs : List TNT) : (tntR zs).length = zs.length * 3 := by
  induction zs with
  | nil => rfl
  | cons z zs ih =>
    have e : tntR (z :: zs) = tntC z ++ tntR zs := rfl
    rw [e, List.length_append, ih]
    simp [tntC]
    omega
theorem tntR_at (zs : List TNT) (k : Nat) (hk : k < zs.length) (j : Nat) (hj : j < 3) : (tntR zs)[k * 3 + j]? = (tntC zs[k])[j]? := by
  induction zs generalizing k with
  | nil => simp at hk
  | cons z zs ih =>
    have e : tntR (z :: zs) = tntC z ++ tntR zs := rfl
    have hl : (tntC z).length = 3 := rfl
    rw [e]
    cases k with
    | zero =>
      rw [List.getElem?_append_left (by omega)]
      simp
    | succ k =>
      rw [List.getElem?_append_right (by omega), hl, show (k + 1) * 3 + j - 3 = k * 3 + j by omega, ih k (by simpa using hk)]
      simp
theorem tnt_sl {w : World} {B n : Nat} {v : Value} {xs : List Value} (h : w.ownsRow B 54 3 v n xs) : ∃ ao cap, v = .slice ao n cap := by
  rcases h.2 with ⟨rfl, e⟩ | ⟨g, cap, cur, rfl, _⟩
  · exact ⟨none, 0, by rw [e]⟩
  · exact ⟨_, cap, rfl⟩
theorem tnt_below {w w' : World} {B n : Nat} {v : Value} {xs : List Value} (h : w.ownsRow B 54 3 v n xs) (hb : Below w.heap.size w w') : w'.ownsRow B 54 3 v n xs :=
  h.kept (row := none) ⟨hb.os, hb.tape, hb.output, hb.size, fun k hk _ => hb.block k hk⟩ (by cases v.ownBlock <;> simp)
theorem tnt_weak {w : World} {B B' : Nat} {v : Value} {n : Nat} {xs : List Value} (h : w.ownsRow B 54 3 v n xs) (hb : B' ≤ B) : w.ownsRow B' 54 3 v n xs := by
  obtain ⟨hl, h | ⟨g, cap, cur, hv, hg, h1, h2, h3, h4, h5⟩⟩ := h
  · exact ⟨hl, .inl h⟩
  · exact ⟨hl, .inr ⟨g, cap, cur, hv, Nat.le_trans hb hg, h1, h2, h3, h4, h5⟩⟩
theorem tnt_cast {w : World} {B n n' : Nat} {v : Value} {xs xs' : List Value} (h : w.ownsRow B 54 3 v n xs) (hn : n = n') (hx : xs = xs') : w.ownsRow B 54 3 v n' xs' := by
  subst hn
  subst hx
  exact h
/-- Where a row lies. -/
def TNTat (w : World) (g o : Nat) (zs : List TNT) : Prop := ∀ (k : Nat) (hk : k < zs.length), w.cell? ⟨g, o + k * 3, none⟩ = some (.int .i64 zs[k].cpu) ∧ w.cell? ⟨g, o + k * 3 + 1, none⟩ = some (.int .i64 zs[k].mem) ∧ w.cell? ⟨g, o + k * 3 + 2, none⟩ = some (.int .i64 zs[k].bill)
/-- A row that may be read. -/
def TNTrow (w : World) (v : Value) (zs : List TNT) : Prop := (zs = [] ∧ ∃ ao cap, v = .slice ao 0 cap) ∨ ∃ g o cap, v = .slice (some ⟨g, o, none⟩) zs.length cap ∧ zs.length ≤ cap ∧ g < w.heap.size ∧ TNTat w g o zs
theorem TNTat.below {w w' : World} {g o : Nat} {zs : List TNT} (h : TNTat w g o zs) {B : Nat} (hb : Below B w w') (hg : g < B) : TNTat w' g o zs := by
  intro k hk
  have h2 := h k hk
  have e : ∀ x, w'.cell? ⟨g, x, none⟩ = w.cell? ⟨g, x, none⟩ := fun x => World.cell?_of_block (hb.block g hg)
  simp only [e]
  exact h2
theorem TNTrow.below {w w' : World} {v : Value} {zs : List TNT} (h : TNTrow w v zs) (hb : Below w.heap.size w w') : TNTrow w' v zs := by
  rcases h with h | ⟨g, o, cap, hv, hc, hg, ha⟩
  · exact .inl h
  · exact .inr ⟨g, o, cap, hv, hc, Nat.lt_of_lt_of_le hg hb.size, ha.below hb hg⟩
theorem TNTrow.sl {w : World} {v : Value} {zs : List TNT} (h : TNTrow w v zs) : ∃ ao cap, v = .slice ao zs.length cap := by
  rcases h with ⟨rfl, ao, cap, rfl⟩ | ⟨g, o, cap, rfl, _⟩
  · exact ⟨_, _, rfl⟩
  · exact ⟨_, _, rfl⟩
theorem TNTrow.of {w : World} {B : Nat} {v : Value} {zs : List TNT} (h : w.ownsRow B 54 3 v zs.length (tntR zs)) : TNTrow w v zs := by
  rcases h.2 with ⟨rfl, e⟩ | ⟨g, cap, cur, rfl, hB, hg, hc, rest⟩
  · exact .inl ⟨List.length_eq_zero_iff.1 e, _, _, by rfl⟩
  · have h2 : w.ownsRow B 54 3 (.slice (some ⟨g, 0, none⟩) zs.length cap) zs.length (tntR zs) := h
    refine .inr ⟨g, 0, cap, rfl, hc, (Array.getElem?_eq_some_iff.1 hg).1, fun k hk => ?_⟩
    simp only [Nat.zero_add]
    have a0 := h2.cellAt (k * 3 + 0) (by omega)
    have a1 := h2.cellAt (k * 3 + 1) (by omega)
    have a2 := h2.cellAt (k * 3 + 2) (by omega)
    rw [tntR_at zs k hk _ (by omega)] at a0 a1 a2
    exact ⟨a0, a1, a2⟩
set_option maxRecDepth 100000 in
set_option maxHeartbeats 4000000 in
theorem eqTNT_ok (m : TNT) (w : World) : Calls Try.prog 52 #[tntA m, tntA m] w fun e w' => e = .returned (.bool true) ∧ Below w.heap.size w w' := by
  unfold tntA
  go_enter Try.func52, Try.ntmps52
  go_wp2
  go_ret
  exact ⟨rfl, ((Below.refl _ _).alloc (Nat.le_refl _) _).alloc (by simp) _⟩
set_option maxRecDepth 100000 in
set_option maxHeartbeats 4000000 in
theorem eqTNTS_ok {w : World} {v u : Value} {zs : List TNT} (h : TNTrow w v zs) (h' : TNTrow w u zs) (hl : zs.length ≤ 1048576) :
    Calls Try.prog 31 #[v, u] w fun e w' => e = .returned (.bool true) ∧ Below w.heap.size w w' := by
  by_cases hz : zs = []
  · subst hz
    obtain ⟨a1, c1, rfl⟩ := h.sl
    obtain ⟨a2, c2, rfl⟩ := h'.sl
    clear h h' hl
    simp only [List.length_nil]
    go_enter Try.func31, Try.ntmps31
    go_wp2
    go_loopw [5] (fun i w5 => i = .int .i64 0 ∧ w5 = w) (fun _ _ => 0)
    case atStart => exact ⟨rfl, rfl⟩
    case round =>
      obtain ⟨rfl, rfl⟩ := hrel
      go_wp2
      go_ret
      exact ⟨rfl, Below.refl _ _⟩
  · obtain ⟨g, o, cap, rfl, _, hg, hc⟩ := h.resolve_left (fun h => hz h.1)
    obtain ⟨g', o', cap', rfl, _, hg', hc'⟩ := h'.resolve_left (fun h => hz h.1)
    clear h h' hz
    go_enter Try.func31, Try.ntmps31
    go_wp2
    go_loopw [5] (fun i w5 => ∃ k : Nat, k ≤ zs.length ∧ i = .int .i64 k ∧ Below w.heap.size w w5) (fun i _ => zs.length - (intOf i).toNat)
    case atStart => exact ⟨0, Nat.zero_le _, rfl, Below.refl _ _⟩
    case round =>
      obtain ⟨k, hk, rfl, hb⟩ := hrel
      by_cases hlt : k < zs.length
      · obtain ⟨d0, d1, d2⟩ := hc.below hb hg k hlt
        obtain ⟨e0, e1, e2⟩ := hc'.below hb hg' k hlt
        generalize zs[k] = z at *
        clear hc hc'
        have hk0 : (0 : Int) ≤ (k : Int) := by omega
        have hk1 : (k : Int) < (zs.length : Int) := by omega
        have hgw : g < wr.heap.size := Nat.lt_of_lt_of_le hg hb.size
        have hgw' : g' < wr.heap.size := Nat.lt_of_lt_of_le hg' hb.size
        have HE : Hid _ := fun w' => eqTNT_ok z w'
        have HB : Hid _ := hb
        unfold tntA at HE
        clear hb
        go_wp2
        go_region_held3 (fun w' => w'.cell? ⟨g, o + k * 3, none⟩ = some (.int .i64 z.cpu) ∧ w'.cell? ⟨g, o + k * 3 + 1, none⟩ = some (.int .i64 z.mem) ∧ w'.cell? ⟨g, o + k * 3 + 2, none⟩ = some (.int .i64 z.bill) ∧ w'.cell? ⟨g', o' + k * 3, none⟩ = some (.int .i64 z.cpu) ∧ w'.cell? ⟨g', o' + k * 3 + 1, none⟩ = some (.int .i64 z.mem) ∧ w'.cell? ⟨g', o' + k * 3 + 2, none⟩ = some (.int .i64 z.bill)) (go_keep) ((go_at_call 52; refine Calls.mono (HE.out wr.drew) ?_; rintro e u5 ⟨rfl, hu5⟩; have hb5 : Below wr.heap.size wr u5 := ⟨hu5.os, hu5.tape, hu5.output, hu5.size, hu5.block⟩; have HB5 : Hid (Below wr.heap.size wr u5) := hb5; have f0 := (World.cell?_of_block (hb5.block g hgw)).trans d0; have x0 := (World.cell?_of_block (hb5.block g' hgw')).trans e0; have f1 := (World.cell?_of_block (hb5.block g hgw)).trans d1; have x1 := (World.cell?_of_block (hb5.block g' hgw')).trans e1; have f2 := (World.cell?_of_block (hb5.block g hgw)).trans d2; have x2 := (World.cell?_of_block (hb5.block g' hgw')).trans e2; clear hu5 hb5))
        all_goals go_wp2
        all_goals go_roundw
        case rel => exact ⟨k + 1, hlt, by go_num, HB.out.trans (HB5.out.mono HB.out.size)⟩
        case measure => simp [intOf]; omega
      · obtain rfl : k = zs.length := by omega
        clear hc hc'
        go_wp2
        go_ret
        exact ⟨rfl, hb⟩
end Go.Proofs.Ytkmbhhkgfofcoaa
