import Derived.Test.YtkmbhhkgfofcoaaOwnB
import Derived.Deep.QuietTactic
import Derived.BigRegion
import Derived.Deep.RegionHeld3
import Derived.Laws.MakeOwn
namespace Go.Proofs.Ytkmbhhkgfofcoaa
open Go.ChangeShapes Go.WideShapes Go.ChangeAt Go.RowKit

structure VMC where
  name : ByteArray
  tenant : Int
  cpu : Int
  mem : Int
  zone : Int
  apart : Int
  node : ByteArray
  epoch : Int
def vmcA (m : VMC) : Value := .agg #[.string m.name, .int .i64 m.tenant, .int .i64 m.cpu, .int .i64 m.mem, .int .i64 m.zone, .int .i64 m.apart, .string m.node, .int .i64 m.epoch]
def vmcC (m : VMC) : List Value := [.string m.name, .int .i64 m.tenant, .int .i64 m.cpu, .int .i64 m.mem, .int .i64 m.zone, .int .i64 m.apart, .string m.node, .int .i64 m.epoch]
def vmcR (zs : List VMC) : List Value := zs.flatMap vmcC
theorem vmcR_app (xs ys : List VMC) : vmcR (xs ++ ys) = vmcR xs ++ vmcR ys := by simp [vmcR]
theorem vmcR_len (zs : List VMC) : (vmcR zs).length = zs.length * 8 := by
  induction zs with
  | nil => rfl
  | cons z zs ih =>
    have e : vmcR (z :: zs) = vmcC z ++ vmcR zs := rfl
    rw [e, List.length_append, ih]
    simp [vmcC]
    omega
theorem vmcR_at (zs : List VMC) (k : Nat) (hk : k < zs.length) (j : Nat) (hj : j < 8) : (vmcR zs)[k * 8 + j]? = (vmcC zs[k])[j]? := by
  induction zs generalizing k with
  | nil => simp at hk
  | cons z zs ih =>
    have e : vmcR (z :: zs) = vmcC z ++ vmcR zs := rfl
    have hl : (vmcC z).length = 8 := rfl
    rw [e]
    cases k with
    | zero =>
      rw [List.getElem?_append_left (by omega)]
      simp
    | succ k =>
      rw [List.getElem?_append_right (by omega), hl, show (k + 1) * 8 + j - 8 = k * 8 + j by omega, ih k (by simpa using hk)]
      simp
theorem vmc_sl {w : World} {B n : Nat} {v : Value} {xs : List Value} (h : w.ownsRow B 41 8 v n xs) : ∃ ao cap, v = .slice ao n cap := by
  rcases h.2 with ⟨rfl, e⟩ | ⟨g, cap, cur, rfl, _⟩
  · exact ⟨none, 0, by rw [e]⟩
  · exact ⟨_, cap, rfl⟩
theorem vmc_below {w w' : World} {B n : Nat} {v : Value} {xs : List Value} (h : w.ownsRow B 41 8 v n xs) (hb : Below w.heap.size w w') : w'.ownsRow B 41 8 v n xs :=
  h.kept (row := none) ⟨hb.os, hb.tape, hb.output, hb.size, fun k hk _ => hb.block k hk⟩ (by cases v.ownBlock <;> simp)
theorem vmc_weak {w : World} {B B' : Nat} {v : Value} {n : Nat} {xs : List Value} (h : w.ownsRow B 41 8 v n xs) (hb : B' ≤ B) : w.ownsRow B' 41 8 v n xs := by
  obtain ⟨hl, h | ⟨g, cap, cur, hv, hg, h1, h2, h3, h4, h5⟩⟩ := h
  · exact ⟨hl, .inl h⟩
  · exact ⟨hl, .inr ⟨g, cap, cur, hv, Nat.le_trans hb hg, h1, h2, h3, h4, h5⟩⟩
theorem vmc_cast {w : World} {B n n' : Nat} {v : Value} {xs xs' : List Value} (h : w.ownsRow B 41 8 v n xs) (hn : n = n') (hx : xs = xs') : w.ownsRow B 41 8 v n' xs' := by
  subst hn
  subst hx
  exact h
/-- Where a row lies. -/
def VMCat (w : World) (g o : Nat) (zs : List VMC) : Prop := ∀ (k : Nat) (hk : k < zs.length), w.cell? ⟨g, o + k * 8, none⟩ = some (.string zs[k].name) ∧ w.cell? ⟨g, o + k * 8 + 1, none⟩ = some (.int .i64 zs[k].tenant) ∧ w.cell? ⟨g, o + k * 8 + 2, none⟩ = some (.int .i64 zs[k].cpu) ∧ w.cell? ⟨g, o + k * 8 + 3, none⟩ = some (.int .i64 zs[k].mem) ∧ w.cell? ⟨g, o + k * 8 + 4, none⟩ = some (.int .i64 zs[k].zone) ∧ w.cell? ⟨g, o + k * 8 + 5, none⟩ = some (.int .i64 zs[k].apart) ∧ w.cell? ⟨g, o + k * 8 + 6, none⟩ = some (.string zs[k].node) ∧ w.cell? ⟨g, o + k * 8 + 7, none⟩ = some (.int .i64 zs[k].epoch)
/-- A row that may be read. -/
def VMCrow (w : World) (v : Value) (zs : List VMC) : Prop := (zs = [] ∧ ∃ ao cap, v = .slice ao 0 cap) ∨ ∃ g o cap, v = .slice (some ⟨g, o, none⟩) zs.length cap ∧ zs.length ≤ cap ∧ g < w.heap.size ∧ VMCat w g o zs
theorem VMCat.below {w w' : World} {g o : Nat} {zs : List VMC} (h : VMCat w g o zs) {B : Nat} (hb : Below B w w') (hg : g < B) : VMCat w' g o zs := by
  intro k hk
  have h2 := h k hk
  have e : ∀ x, w'.cell? ⟨g, x, none⟩ = w.cell? ⟨g, x, none⟩ := fun x => World.cell?_of_block (hb.block g hg)
  simp only [e]
  exact h2
theorem VMCrow.below {w w' : World} {v : Value} {zs : List VMC} (h : VMCrow w v zs) (hb : Below w.heap.size w w') : VMCrow w' v zs := by
  rcases h with h | ⟨g, o, cap, hv, hc, hg, ha⟩
  · exact .inl h
  · exact .inr ⟨g, o, cap, hv, hc, Nat.lt_of_lt_of_le hg hb.size, ha.below hb hg⟩
theorem VMCrow.sl {w : World} {v : Value} {zs : List VMC} (h : VMCrow w v zs) : ∃ ao cap, v = .slice ao zs.length cap := by
  rcases h with ⟨rfl, ao, cap, rfl⟩ | ⟨g, o, cap, rfl, _⟩
  · exact ⟨_, _, rfl⟩
  · exact ⟨_, _, rfl⟩
theorem VMCrow.of {w : World} {B : Nat} {v : Value} {zs : List VMC} (h : w.ownsRow B 41 8 v zs.length (vmcR zs)) : VMCrow w v zs := by
  rcases h.2 with ⟨rfl, e⟩ | ⟨g, cap, cur, rfl, hB, hg, hc, rest⟩
  · exact .inl ⟨List.length_eq_zero_iff.1 e, _, _, by rfl⟩
  · have h2 : w.ownsRow B 41 8 (.slice (some ⟨g, 0, none⟩) zs.length cap) zs.length (vmcR zs) := h
    refine .inr ⟨g, 0, cap, rfl, hc, (Array.getElem?_eq_some_iff.1 hg).1, fun k hk => ?_⟩
    simp only [Nat.zero_add]
    have a0 := h2.cellAt (k * 8 + 0) (by omega)
    have a1 := h2.cellAt (k * 8 + 1) (by omega)
    have a2 := h2.cellAt (k * 8 + 2) (by omega)
    have a3 := h2.cellAt (k * 8 + 3) (by omega)
    have a4 := h2.cellAt (k * 8 + 4) (by omega)
    have a5 := h2.cellAt (k * 8 + 5) (by omega)
    have a6 := h2.cellAt (k * 8 + 6) (by omega)
    have a7 := h2.cellAt (k * 8 + 7) (by omega)
    rw [vmcR_at zs k hk _ (by omega)] at a0 a1 a2 a3 a4 a5 a6 a7
    exact ⟨a0, a1, a2, a3, a4, a5, a6, a7⟩
set_option maxRecDepth 100000 in
set_option maxHeartbeats 4000000 in
theorem eqVMC_ok (m : VMC) (w : World) : Calls Try.prog 51 #[vmcA m, vmcA m] w fun e w' => e = .returned (.bool true) ∧ Below w.heap.size w w' := by
  unfold vmcA
  go_enter Try.func51, Try.ntmps51
  go_wp2
  go_ret
  exact ⟨rfl, ((Below.refl _ _).alloc (Nat.le_refl _) _).alloc (by simp) _⟩
set_option maxRecDepth 100000 in
set_option maxHeartbeats 4000000 in
theorem eqVMCS_ok {w : World} {v u : Value} {zs : List VMC} (h : VMCrow w v zs) (h' : VMCrow w u zs) (hl : zs.length ≤ 1048576) :
    Calls Try.prog 30 #[v, u] w fun e w' => e = .returned (.bool true) ∧ Below w.heap.size w w' := by
  by_cases hz : zs = []
  · subst hz
    obtain ⟨a1, c1, rfl⟩ := h.sl
    obtain ⟨a2, c2, rfl⟩ := h'.sl
    clear h h' hl
    simp only [List.length_nil]
    go_enter Try.func30, Try.ntmps30
    go_wp2
    go_loopw [5] (fun i w5 => i = .int .i64 0 ∧ w5 = w) (fun _ _ => 0)
    case atStart => exact ⟨rfl, rfl⟩
    case round =>
      obtain ⟨rfl, rfl⟩ := hrel
      go_wp2
      go_ret
      exact ⟨rfl, Below.refl _ _⟩
  · obtain ⟨g, o, cap, rfl, _, hg, hc⟩ := h.resolve_left (fun h => hz h.1)
    obtain ⟨g', o', cap', rfl, _, hg', hc'⟩ := h'.resolve_left (fun h => hz h.1)
    clear h h' hz
    go_enter Try.func30, Try.ntmps30
    go_wp2
    go_loopw [5] (fun i w5 => ∃ k : Nat, k ≤ zs.length ∧ i = .int .i64 k ∧ Below w.heap.size w w5) (fun i _ => zs.length - (intOf i).toNat)
    case atStart => exact ⟨0, Nat.zero_le _, rfl, Below.refl _ _⟩
    case round =>
      obtain ⟨k, hk, rfl, hb⟩ := hrel
      by_cases hlt : k < zs.length
      · obtain ⟨d0, d1, d2, d3, d4, d5, d6, d7⟩ := hc.below hb hg k hlt
        obtain ⟨e0, e1, e2, e3, e4, e5, e6, e7⟩ := hc'.below hb hg' k hlt
        generalize zs[k] = z at *
        clear hc hc'
        have hk0 : (0 : Int) ≤ (k : Int) := by omega
        have hk1 : (k : Int) < (zs.length : Int) := by omega
        have hgw : g < wr.heap.size := Nat.lt_of_lt_of_le hg hb.size
        have hgw' : g' < wr.heap.size := Nat.lt_of_lt_of_le hg' hb.size
        have HE : Hid _ := fun w' => eqVMC_ok z w'
        have HB : Hid _ := hb
        unfold vmcA at HE
        clear hb
        go_wp2
        go_region_held3 (fun w' => w'.cell? ⟨g, o + k * 8, none⟩ = some (.string z.name) ∧ w'.cell? ⟨g, o + k * 8 + 1, none⟩ = some (.int .i64 z.tenant) ∧ w'.cell? ⟨g, o + k * 8 + 2, none⟩ = some (.int .i64 z.cpu) ∧ w'.cell? ⟨g, o + k * 8 + 3, none⟩ = some (.int .i64 z.mem) ∧ w'.cell? ⟨g, o + k * 8 + 4, none⟩ = some (.int .i64 z.zone) ∧ w'.cell? ⟨g, o + k * 8 + 5, none⟩ = some (.int .i64 z.apart) ∧ w'.cell? ⟨g, o + k * 8 + 6, none⟩ = some (.string z.node) ∧ w'.cell? ⟨g, o + k * 8 + 7, none⟩ = some (.int .i64 z.epoch) ∧ w'.cell? ⟨g', o' + k * 8, none⟩ = some (.string z.name) ∧ w'.cell? ⟨g', o' + k * 8 + 1, none⟩ = some (.int .i64 z.tenant) ∧ w'.cell? ⟨g', o' + k * 8 + 2, none⟩ = some (.int .i64 z.cpu) ∧ w'.cell? ⟨g', o' + k * 8 + 3, none⟩ = some (.int .i64 z.mem) ∧ w'.cell? ⟨g', o' + k * 8 + 4, none⟩ = some (.int .i64 z.zone) ∧ w'.cell? ⟨g', o' + k * 8 + 5, none⟩ = some (.int .i64 z.apart) ∧ w'.cell? ⟨g', o' + k * 8 + 6, none⟩ = some (.string z.node) ∧ w'.cell? ⟨g', o' + k * 8 + 7, none⟩ = some (.int .i64 z.epoch)) (go_keep) ((go_at_call 51; refine Calls.mono (HE.out wr.drew) ?_; rintro e u5 ⟨rfl, hu5⟩; have hb5 : Below wr.heap.size wr u5 := ⟨hu5.os, hu5.tape, hu5.output, hu5.size, hu5.block⟩; have HB5 : Hid (Below wr.heap.size wr u5) := hb5; have f0 := (World.cell?_of_block (hb5.block g hgw)).trans d0; have x0 := (World.cell?_of_block (hb5.block g' hgw')).trans e0; have f1 := (World.cell?_of_block (hb5.block g hgw)).trans d1; have x1 := (World.cell?_of_block (hb5.block g' hgw')).trans e1; have f2 := (World.cell?_of_block (hb5.block g hgw)).trans d2; have x2 := (World.cell?_of_block (hb5.block g' hgw')).trans e2; have f3 := (World.cell?_of_block (hb5.block g hgw)).trans d3; have x3 := (World.cell?_of_block (hb5.block g' hgw')).trans e3; have f4 := (World.cell?_of_block (hb5.block g hgw)).trans d4; have x4 := (World.cell?_of_block (hb5.block g' hgw')).trans e4; have f5 := (World.cell?_of_block (hb5.block g hgw)).trans d5; have x5 := (World.cell?_of_block (hb5.block g' hgw')).trans e5; have f6 := (World.cell?_of_block (hb5.block g hgw)).trans d6; have x6 := (World.cell?_of_block (hb5.block g' hgw')).trans e6; have f7 := (World.cell?_of_block (hb5.block g hgw)).trans d7; have x7 := (World.cell?_of_block (hb5.block g' hgw')).trans e7; clear hu5 hb5))
        all_goals go_wp2
        all_goals go_roundw
        case rel => exact ⟨k + 1, hlt, by go_num, HB.out.trans (HB5.out.mono HB.out.size)⟩
        case measure => simp [intOf]; omega
      · obtain rfl : k = zs.length := by omega
        clear hc hc'
        go_wp2
        go_ret
        exact ⟨rfl, hb⟩
end Go.Proofs.Ytkmbhhkgfofcoaa
