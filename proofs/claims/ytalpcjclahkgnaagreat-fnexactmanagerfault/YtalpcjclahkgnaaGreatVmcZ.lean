import Derived.Test.YtalpcjclahkgnaaGreatOwnB
import Derived.Deep.QuietTactic
import Derived.BigRegion
import Derived.Deep.RegionHeld3
import Derived.Laws.MakeOwn
import Derived.Deep.Slices
namespace Go.Proofs.YtalpcjclahkgnaaGreat
open Go.ChangeShapes Go.WideShapes Go.ChangeAt Go.RowKit

structure VMC where
  name : ByteArray
  tenant : Int
  cpu : Int
  mem : Int
  zone : Int
  apart : Int
  node : ByteArray
  epoch : Int
def vmcA (m : VMC) : Value := .agg #[.string m.name, .int .i64 m.tenant, .int .i64 m.cpu, .int .i64 m.mem, .int .i64 m.zone, .int .i64 m.apart, .string m.node, .int .i64 m.epoch]
def vmcC (m : VMC) : List Value := [.string m.name, .int .i64 m.tenant, .int .i64 m.cpu, .int .i64 m.mem, .int .i64 m.zone, .int .i64 m.apart, .string m.node, .int .i64 m.epoch]
def vmcR (zs : List VMC) : List Value := zs.flatMap vmcC
theorem vmcR_app (xs ys : List VMC) : vmcR (xs ++ ys) = vmcR xs ++ vmcR ys := by simp [vmcR]
theorem vmcR_len (zs : List VMC) : (vmcR zs).length = zs.length * 8 := by
  induction zs with
  | nil => rfl
  | cons z zs ih =>
    have e : vmcR (z :: zs) = vmcC z ++ vmcR zs := rfl
    rw [e, List.length_append, ih]
    simp [vmcC]
    omega
theorem vmcR_at (zs : List VMC) (k : Nat) (hk : k < zs.length) (j : Nat) (hj : j < 8) : (vmcR zs)[k * 8 + j]? = (vmcC zs[k])[j]? := by
  induction zs generalizing k with
  | nil => simp at hk
  | cons z zs ih =>
    have e : vmcR (z :: zs) = vmcC z ++ vmcR zs := rfl
    have hl : (vmcC z).length = 8 := rfl
    rw [e]
    cases k with
    | zero =>
      rw [List.getElem?_append_left (by omega)]
      simp
    | succ k =>
      rw [List.getElem?_append_right (by omega), hl, show (k + 1) * 8 + j - 8 = k * 8 + j by omega, ih k (by simpa using hk)]
      simp
theorem vmc_sl {w : World} {B n : Nat} {v : Value} {xs : List Value} (h : w.ownsRow B 71 8 v n xs) : ∃ ao cap, v = .slice ao n cap := by
  rcases h.2 with ⟨rfl, e⟩ | ⟨g, cap, cur, rfl, _⟩
  · exact ⟨none, 0, by rw [e]⟩
  · exact ⟨_, cap, rfl⟩
theorem vmc_below {w w' : World} {B n : Nat} {v : Value} {xs : List Value} (h : w.ownsRow B 71 8 v n xs) (hb : Below w.heap.size w w') : w'.ownsRow B 71 8 v n xs :=
  h.kept (row := none) ⟨hb.os, hb.tape, hb.output, hb.size, fun k hk _ => hb.block k hk⟩ (by cases v.ownBlock <;> simp)
theorem vmc_weak {w : World} {B B' : Nat} {v : Value} {n : Nat} {xs : List Value} (h : w.ownsRow B 71 8 v n xs) (hb : B' ≤ B) : w.ownsRow B' 71 8 v n xs := by
  obtain ⟨hl, h | ⟨g, cap, cur, hv, hg, h1, h2, h3, h4, h5⟩⟩ := h
  · exact ⟨hl, .inl h⟩
  · exact ⟨hl, .inr ⟨g, cap, cur, hv, Nat.le_trans hb hg, h1, h2, h3, h4, h5⟩⟩
theorem vmc_cast {w : World} {B n n' : Nat} {v : Value} {xs xs' : List Value} (h : w.ownsRow B 71 8 v n xs) (hn : n = n') (hx : xs = xs') : w.ownsRow B 71 8 v n' xs' := by
  subst hn
  subst hx
  exact h
/-- Where a row lies. -/
def VMCat (w : World) (g o : Nat) (zs : List VMC) : Prop := ∀ (k : Nat) (hk : k < zs.length), w.cell? ⟨g, o + k * 8, none⟩ = some (.string zs[k].name) ∧ w.cell? ⟨g, o + k * 8 + 1, none⟩ = some (.int .i64 zs[k].tenant) ∧ w.cell? ⟨g, o + k * 8 + 2, none⟩ = some (.int .i64 zs[k].cpu) ∧ w.cell? ⟨g, o + k * 8 + 3, none⟩ = some (.int .i64 zs[k].mem) ∧ w.cell? ⟨g, o + k * 8 + 4, none⟩ = some (.int .i64 zs[k].zone) ∧ w.cell? ⟨g, o + k * 8 + 5, none⟩ = some (.int .i64 zs[k].apart) ∧ w.cell? ⟨g, o + k * 8 + 6, none⟩ = some (.string zs[k].node) ∧ w.cell? ⟨g, o + k * 8 + 7, none⟩ = some (.int .i64 zs[k].epoch)
/-- A row that may be read. -/
def VMCrow (w : World) (v : Value) (zs : List VMC) : Prop := (zs = [] ∧ ∃ ao cap, v = .slice ao 0 cap) ∨ ∃ g o cap, v = .slice (some ⟨g, o, none⟩) zs.length cap ∧ zs.length ≤ cap ∧ g < w.heap.size ∧ VMCat w g o zs
theorem VMCat.below {w w' : World} {g o : Nat} {zs : List VMC} (h : VMCat w g o zs) {B : Nat} (hb : Below B w w') (hg : g < B) : VMCat w' g o zs := by
  intro k hk
  have h2 := h k hk
  have e : ∀ x, w'.cell? ⟨g, x, none⟩ = w.cell? ⟨g, x, none⟩ := fun x => World.cell?_of_block (hb.block g hg)
  simp only [e]
  exact h2
theorem VMCrow.below {w w' : World} {v : Value} {zs : List VMC} (h : VMCrow w v zs) (hb : Below w.heap.size w w') : VMCrow w' v zs := by
  rcases h with h | ⟨g, o, cap, hv, hc, hg, ha⟩
  · exact .inl h
  · exact .inr ⟨g, o, cap, hv, hc, Nat.lt_of_lt_of_le hg hb.size, ha.below hb hg⟩
theorem VMCrow.sl {w : World} {v : Value} {zs : List VMC} (h : VMCrow w v zs) : ∃ ao cap, v = .slice ao zs.length cap := by
  rcases h with ⟨rfl, ao, cap, rfl⟩ | ⟨g, o, cap, rfl, _⟩
  · exact ⟨_, _, rfl⟩
  · exact ⟨_, _, rfl⟩
theorem VMCrow.of {w : World} {B : Nat} {v : Value} {zs : List VMC} (h : w.ownsRow B 71 8 v zs.length (vmcR zs)) : VMCrow w v zs := by
  rcases h.2 with ⟨rfl, e⟩ | ⟨g, cap, cur, rfl, hB, hg, hc, rest⟩
  · exact .inl ⟨List.length_eq_zero_iff.1 e, _, _, by rfl⟩
  · have h2 : w.ownsRow B 71 8 (.slice (some ⟨g, 0, none⟩) zs.length cap) zs.length (vmcR zs) := h
    refine .inr ⟨g, 0, cap, rfl, hc, (Array.getElem?_eq_some_iff.1 hg).1, fun k hk => ?_⟩
    simp only [Nat.zero_add]
    have a0 := h2.cellAt (k * 8 + 0) (by omega)
    have a1 := h2.cellAt (k * 8 + 1) (by omega)
    have a2 := h2.cellAt (k * 8 + 2) (by omega)
    have a3 := h2.cellAt (k * 8 + 3) (by omega)
    have a4 := h2.cellAt (k * 8 + 4) (by omega)
    have a5 := h2.cellAt (k * 8 + 5) (by omega)
    have a6 := h2.cellAt (k * 8 + 6) (by omega)
    have a7 := h2.cellAt (k * 8 + 7) (by omega)
    rw [vmcR_at zs k hk _ (by omega)] at a0 a1 a2 a3 a4 a5 a6 a7
    exact ⟨a0, a1, a2, a3, a4, a5, a6, a7⟩
set_option maxRecDepth 100000 in
set_option maxHeartbeats 4000000 in
theorem eqVMC_ok (m : VMC) (w : World) : Calls Tryz.prog 67 #[vmcA m, vmcA m] w fun e w' => e = .returned (.bool true) ∧ Below w.heap.size w w' := by
  unfold vmcA
  go_enter Tryz.func67, Tryz.ntmps67
  go_wp2
  go_ret
  exact ⟨rfl, ((Below.refl _ _).alloc (Nat.le_refl _) _).alloc (by simp) _⟩
set_option maxRecDepth 100000 in
set_option maxHeartbeats 4000000 in
theorem eqVMCS_ok {w : World} {v u : Value} {zs : List VMC} (h : VMCrow w v zs) (h' : VMCrow w u zs) (hl : zs.length ≤ 1048576) :
    Calls Tryz.prog 42 #[v, u] w fun e w' => e = .returned (.bool true) ∧ Below w.heap.size w w' := by
  by_cases hz : zs = []
  · subst hz
    obtain ⟨a1, c1, rfl⟩ := h.sl
    obtain ⟨a2, c2, rfl⟩ := h'.sl
    clear h h' hl
    simp only [List.length_nil]
    go_enter Tryz.func42, Tryz.ntmps42
    go_wp2
    go_loopw [5] (fun i w5 => i = .int .i64 0 ∧ w5 = w) (fun _ _ => 0)
    case atStart => exact ⟨rfl, rfl⟩
    case round =>
      obtain ⟨rfl, rfl⟩ := hrel
      go_wp2
      go_ret
      exact ⟨rfl, Below.refl _ _⟩
  · obtain ⟨g, o, cap, rfl, _, hg, hc⟩ := h.resolve_left (fun h => hz h.1)
    obtain ⟨g', o', cap', rfl, _, hg', hc'⟩ := h'.resolve_left (fun h => hz h.1)
    clear h h' hz
    go_enter Tryz.func42, Tryz.ntmps42
    go_wp2
    go_loopw [5] (fun i w5 => ∃ k : Nat, k ≤ zs.length ∧ i = .int .i64 k ∧ Below w.heap.size w w5) (fun i _ => zs.length - (intOf i).toNat)
    case atStart => exact ⟨0, Nat.zero_le _, rfl, Below.refl _ _⟩
    case round =>
      obtain ⟨k, hk, rfl, hb⟩ := hrel
      by_cases hlt : k < zs.length
      · obtain ⟨d0, d1, d2, d3, d4, d5, d6, d7⟩ := hc.below hb hg k hlt
        obtain ⟨e0, e1, e2, e3, e4, e5, e6, e7⟩ := hc'.below hb hg' k hlt
        generalize zs[k] = z at *
        clear hc hc'
        have hk0 : (0 : Int) ≤ (k : Int) := by omega
        have hk1 : (k : Int) < (zs.length : Int) := by omega
        have hgw : g < wr.heap.size := Nat.lt_of_lt_of_le hg hb.size
        have hgw' : g' < wr.heap.size := Nat.lt_of_lt_of_le hg' hb.size
        have HE : Hid _ := fun w' => eqVMC_ok z w'
        have HB : Hid _ := hb
        unfold vmcA at HE
        clear hb
        go_wp2
        go_region_held3 (fun w' => w'.cell? ⟨g, o + k * 8, none⟩ = some (.string z.name) ∧ w'.cell? ⟨g, o + k * 8 + 1, none⟩ = some (.int .i64 z.tenant) ∧ w'.cell? ⟨g, o + k * 8 + 2, none⟩ = some (.int .i64 z.cpu) ∧ w'.cell? ⟨g, o + k * 8 + 3, none⟩ = some (.int .i64 z.mem) ∧ w'.cell? ⟨g, o + k * 8 + 4, none⟩ = some (.int .i64 z.zone) ∧ w'.cell? ⟨g, o + k * 8 + 5, none⟩ = some (.int .i64 z.apart) ∧ w'.cell? ⟨g, o + k * 8 + 6, none⟩ = some (.string z.node) ∧ w'.cell? ⟨g, o + k * 8 + 7, none⟩ = some (.int .i64 z.epoch) ∧ w'.cell? ⟨g', o' + k * 8, none⟩ = some (.string z.name) ∧ w'.cell? ⟨g', o' + k * 8 + 1, none⟩ = some (.int .i64 z.tenant) ∧ w'.cell? ⟨g', o' + k * 8 + 2, none⟩ = some (.int .i64 z.cpu) ∧ w'.cell? ⟨g', o' + k * 8 + 3, none⟩ = some (.int .i64 z.mem) ∧ w'.cell? ⟨g', o' + k * 8 + 4, none⟩ = some (.int .i64 z.zone) ∧ w'.cell? ⟨g', o' + k * 8 + 5, none⟩ = some (.int .i64 z.apart) ∧ w'.cell? ⟨g', o' + k * 8 + 6, none⟩ = some (.string z.node) ∧ w'.cell? ⟨g', o' + k * 8 + 7, none⟩ = some (.int .i64 z.epoch)) (go_keep) ((go_at_call 67; refine Calls.mono (HE.out wr.drew) ?_; rintro e u5 ⟨rfl, hu5⟩; have hb5 : Below wr.heap.size wr u5 := ⟨hu5.os, hu5.tape, hu5.output, hu5.size, hu5.block⟩; have HB5 : Hid (Below wr.heap.size wr u5) := hb5; have f0 := (World.cell?_of_block (hb5.block g hgw)).trans d0; have x0 := (World.cell?_of_block (hb5.block g' hgw')).trans e0; have f1 := (World.cell?_of_block (hb5.block g hgw)).trans d1; have x1 := (World.cell?_of_block (hb5.block g' hgw')).trans e1; have f2 := (World.cell?_of_block (hb5.block g hgw)).trans d2; have x2 := (World.cell?_of_block (hb5.block g' hgw')).trans e2; have f3 := (World.cell?_of_block (hb5.block g hgw)).trans d3; have x3 := (World.cell?_of_block (hb5.block g' hgw')).trans e3; have f4 := (World.cell?_of_block (hb5.block g hgw)).trans d4; have x4 := (World.cell?_of_block (hb5.block g' hgw')).trans e4; have f5 := (World.cell?_of_block (hb5.block g hgw)).trans d5; have x5 := (World.cell?_of_block (hb5.block g' hgw')).trans e5; have f6 := (World.cell?_of_block (hb5.block g hgw)).trans d6; have x6 := (World.cell?_of_block (hb5.block g' hgw')).trans e6; have f7 := (World.cell?_of_block (hb5.block g hgw)).trans d7; have x7 := (World.cell?_of_block (hb5.block g' hgw')).trans e7; clear hu5 hb5))
        all_goals go_wp2
        all_goals go_roundw
        case rel => exact ⟨k + 1, hlt, by go_num, HB.out.trans (HB5.out.mono HB.out.size)⟩
        case measure => simp [intOf]; omega
      · obtain rfl : k = zs.length := by omega
        clear hc hc'
        go_wp2
        go_ret
        exact ⟨rfl, hb⟩

theorem vmcR_set (zs : List VMC) (k : Nat) (m : VMC) (hk : k < zs.length) : (((((((((vmcR zs).set (k * 8) (.string m.name)).set (k * 8 + 1) (.int .i64 m.tenant)).set (k * 8 + 2) (.int .i64 m.cpu)).set (k * 8 + 3) (.int .i64 m.mem)).set (k * 8 + 4) (.int .i64 m.zone)).set (k * 8 + 5) (.int .i64 m.apart)).set (k * 8 + 6) (.string m.node)).set (k * 8 + 7) (.int .i64 m.epoch)) = vmcR (zs.set k m) := by
  induction zs generalizing k with
  | nil => simp at hk
  | cons z zs ih =>
    have e : vmcR (z :: zs) = vmcC z ++ vmcR zs := rfl
    have hl : (vmcC z).length = 8 := rfl
    cases k with
    | zero =>
      rw [e, List.set_cons_zero]
      show _ = vmcC m ++ vmcR zs
      rfl
    | succ k =>
      rw [e, List.set_cons_succ]
      show _ = vmcC z ++ vmcR (zs.set k m)
      rw [List.set_append_right _ _ (by omega), List.set_append_right _ _ (by omega), List.set_append_right _ _ (by omega), List.set_append_right _ _ (by omega), List.set_append_right _ _ (by omega), List.set_append_right _ _ (by omega), List.set_append_right _ _ (by omega), List.set_append_right _ _ (by omega), hl,
        show (k + 1) * 8 - 8 = k * 8 by omega, show (k + 1) * 8 + 1 - 8 = k * 8 + 1 by omega, show (k + 1) * 8 + 2 - 8 = k * 8 + 2 by omega, show (k + 1) * 8 + 3 - 8 = k * 8 + 3 by omega, show (k + 1) * 8 + 4 - 8 = k * 8 + 4 by omega, show (k + 1) * 8 + 5 - 8 = k * 8 + 5 by omega, show (k + 1) * 8 + 6 - 8 = k * 8 + 6 by omega, show (k + 1) * 8 + 7 - 8 = k * 8 + 7 by omega, ih k (by simpa using hk)]
theorem gbVMC {w0 w u : World} {r : Option Nat} (h : w0.grownBy w r) (hg : w.grownBy u r) : w0.grownBy u r :=
  ⟨hg.os.trans h.os, hg.tape.trans h.tape, hg.output.trans h.output, Nat.le_trans h.size hg.size, fun k hk hn => (hg.block k (Nat.lt_of_lt_of_le hk h.size) hn).trans (h.block k hk hn)⟩
theorem vmc_cells {w : World} {B g cap m : Nat} {zs : List VMC} (h : w.ownsRow B 71 8 (.slice (some ⟨g, 0, none⟩) m cap) m (vmcR zs)) (hm : zs.length = m) (k : Nat) (hk : k < zs.length) : ∃ y : VMC, w.cell? ⟨g, k * 8, none⟩ = some (.string y.name) ∧ w.cell? ⟨g, k * 8 + 1, none⟩ = some (.int .i64 y.tenant) ∧ w.cell? ⟨g, k * 8 + 2, none⟩ = some (.int .i64 y.cpu) ∧ w.cell? ⟨g, k * 8 + 3, none⟩ = some (.int .i64 y.mem) ∧ w.cell? ⟨g, k * 8 + 4, none⟩ = some (.int .i64 y.zone) ∧ w.cell? ⟨g, k * 8 + 5, none⟩ = some (.int .i64 y.apart) ∧ w.cell? ⟨g, k * 8 + 6, none⟩ = some (.string y.node) ∧ w.cell? ⟨g, k * 8 + 7, none⟩ = some (.int .i64 y.epoch) := by
  subst hm
  rcases VMCrow.of h with ⟨e, _⟩ | ⟨g2, o, cap2, hv, _, _, hc⟩
  · rw [e] at hk
    simp at hk
  · injection hv with e1
    injection e1 with e2
    obtain ⟨rfl, rfl⟩ : g = g2 ∧ 0 = o := ⟨congrArg Addr.block e2, congrArg Addr.off e2⟩
    have h3 := hc k hk
    simp only [Nat.zero_add] at h3
    exact ⟨zs[k], h3⟩
/-- An element put. -/
theorem own_setVMC {w : World} {B g cap : Nat} {zs : List VMC} (h : w.ownsRow B 71 8 (.slice (some ⟨g, 0, none⟩) zs.length cap) zs.length (vmcR zs)) (k : Nat) (hk : k < zs.length) (m : VMC) :
    ((((((((w.setCell ⟨g, k * 8, none⟩ (.string m.name)).setCell ⟨g, k * 8 + 1, none⟩ (.int .i64 m.tenant)).setCell ⟨g, k * 8 + 2, none⟩ (.int .i64 m.cpu)).setCell ⟨g, k * 8 + 3, none⟩ (.int .i64 m.mem)).setCell ⟨g, k * 8 + 4, none⟩ (.int .i64 m.zone)).setCell ⟨g, k * 8 + 5, none⟩ (.int .i64 m.apart)).setCell ⟨g, k * 8 + 6, none⟩ (.string m.node)).setCell ⟨g, k * 8 + 7, none⟩ (.int .i64 m.epoch)).ownsRow B 71 8 (.slice (some ⟨g, 0, none⟩) zs.length cap) zs.length (vmcR (zs.set k m)) ∧
    w.grownBy ((((((((w.setCell ⟨g, k * 8, none⟩ (.string m.name)).setCell ⟨g, k * 8 + 1, none⟩ (.int .i64 m.tenant)).setCell ⟨g, k * 8 + 2, none⟩ (.int .i64 m.cpu)).setCell ⟨g, k * 8 + 3, none⟩ (.int .i64 m.mem)).setCell ⟨g, k * 8 + 4, none⟩ (.int .i64 m.zone)).setCell ⟨g, k * 8 + 5, none⟩ (.int .i64 m.apart)).setCell ⟨g, k * 8 + 6, none⟩ (.string m.node)).setCell ⟨g, k * 8 + 7, none⟩ (.int .i64 m.epoch)) (some g) := by
  have s1 := h.stored (k * 8) (.string m.name)
  have s2 := s1.1.stored (k * 8 + 1) (.int .i64 m.tenant)
  have s3 := s2.1.stored (k * 8 + 2) (.int .i64 m.cpu)
  have s4 := s3.1.stored (k * 8 + 3) (.int .i64 m.mem)
  have s5 := s4.1.stored (k * 8 + 4) (.int .i64 m.zone)
  have s6 := s5.1.stored (k * 8 + 5) (.int .i64 m.apart)
  have s7 := s6.1.stored (k * 8 + 6) (.string m.node)
  have s8 := s7.1.stored (k * 8 + 7) (.int .i64 m.epoch)
  rw [vmcR_set zs k m hk] at s8
  exact ⟨s8.1, (gbVMC (gbVMC (gbVMC (gbVMC (gbVMC (gbVMC (gbVMC s1.2 s2.2) s3.2) s4.2) s5.2) s6.2) s7.2) s8.2)⟩

def vmc0 : VMC := ⟨⟨#[]⟩, 0, 0, 0, 0, 0, ⟨#[]⟩, 0⟩
/-- So many are copied. -/
def vmcJ (j : Nat) (zs : List VMC) : List VMC := zs.take j ++ List.replicate (zs.length - j) vmc0
theorem vmcJ_len (j : Nat) (zs : List VMC) (h : j ≤ zs.length) : (vmcJ j zs).length = zs.length := by simp [vmcJ]; omega
theorem vmcJ_step (j : Nat) (zs : List VMC) (h : j < zs.length) : (vmcJ j zs).set j zs[j] = vmcJ (j + 1) zs := by
  unfold vmcJ
  have hl : (zs.take j).length = j := by rw [List.length_take]; omega
  rw [List.set_append_right _ _ (by omega), hl, Nat.sub_self, show zs.length - j = (zs.length - (j + 1)) + 1 by omega, List.replicate_succ, List.set_cons_zero, List.take_succ_eq_append_getElem h, List.append_assoc]
  rfl
theorem vmcJ_all (zs : List VMC) : vmcJ zs.length zs = zs := by simp [vmcJ]
theorem vmcJ_zero (zs : List VMC) : vmcJ 0 zs = List.replicate zs.length vmc0 := by simp [vmcJ]
theorem vmc_made (m : Nat) : (madeCells #[.string ⟨#[]⟩, .int .i64 0, .int .i64 0, .int .i64 0, .int .i64 0, .int .i64 0, .string ⟨#[]⟩, .int .i64 0] (m * 8)).toList = vmcR (List.replicate m vmc0) := by
  apply List.ext_getElem?
  intro i
  by_cases hi : i < m * 8
  · have hq : i = i / 8 * 8 + i % 8 := by omega
    have h2 := vmcR_at (List.replicate m vmc0) (i / 8) (by rw [List.length_replicate]; omega) (i % 8) (by omega)
    rw [← hq] at h2
    rw [h2, List.getElem_replicate]
    have hl : (madeCells #[.string ⟨#[]⟩, .int .i64 0, .int .i64 0, .int .i64 0, .int .i64 0, .int .i64 0, .string ⟨#[]⟩, .int .i64 0] (m * 8)).toList.length = m * 8 := by simp [madeCells]
    rw [List.getElem?_eq_getElem (by omega)]
    have : i % 8 < 8 := Nat.mod_lt _ (by omega)
    generalize hr : i % 8 = r at *
    simp only [madeCells, Array.getElem_toList, Array.getElem_map, Array.getElem_range, List.size_toArray, List.length_cons, List.length_nil]
    rw [show i % (0 + 1 + 1 + 1 + 1 + 1 + 1 + 1 + 1) = r by simpa using hr]
    match r, this with
    | 0, _ => rfl
    | 1, _ => rfl
    | 2, _ => rfl
    | 3, _ => rfl
    | 4, _ => rfl
    | 5, _ => rfl
    | 6, _ => rfl
    | 7, _ => rfl
  · rw [List.getElem?_eq_none (by simp [madeCells]; omega), List.getElem?_eq_none (by rw [vmcR_len]; simp; omega)]
theorem vmc_zero : (Tryz.prog.info? 71).map (fun i => (i.zero, i.size)) = some (some (.agg #[.string ⟨#[]⟩, .int .i64 0, .int .i64 0, .int .i64 0, .int .i64 0, .int .i64 0, .string ⟨#[]⟩, .int .i64 0]), 8) := by kernel_rfl
theorem vmc_bytes : ∀ i, Tryz.prog.info? 71 = some i → i.bytes ≤ 80 := by
  intro i h
  have e : (Tryz.prog.info? 71).map (fun i => decide (i.bytes ≤ 80)) = some true := by kernel_rfl
  rw [h] at e
  simpa using e
theorem vmc_mk (w : World) (m : Nat) (hm : m ≤ 1048576) : (Instr.makeSlice 34 (.int .i64 m) (.int .i64 m)).run Tryz.prog w = .ok (.slice (some ⟨w.heap.size, 0, none⟩) m m) (w.alloc (.cells (vmcR (List.replicate m vmc0)).toArray 71)) := by
  have h1 := vmc_zero
  cases hq : Tryz.prog.info? 71 with
  | none => simp [hq] at h1
  | some i =>
    have hb := vmc_bytes i hq
    simp [hq] at h1
    have h3 : i.bytes * m ≤ 80 * 1048576 := Nat.mul_le_mul hb hm
    have hbm : (i.bytes : Int) * (m : Int) ≤ 281474976710656 := by
      rw [← Int.natCast_mul]
      omega
    have hr := run_make (P := Tryz.prog) w 34 71 i _ Tryz.underlying34 hq h1.1 .i64 .i64 m m (by omega) (by omega) hbm (by omega)
    rw [hr, h1.2]
    simp only [Int.toNat_natCast, Value.cells]
    rw [← vmc_made]
theorem vmc_own0 (w : World) (m : Nat) (hm : m ≤ 1048576) : (w.alloc (.cells (vmcR (List.replicate m vmc0)).toArray 71)).ownsRow w.heap.size 71 8 (.slice (some ⟨w.heap.size, 0, none⟩) m m) m (vmcR (List.replicate m vmc0)) := by
  have hl := vmcR_len (List.replicate m vmc0)
  rw [List.length_replicate] at hl
  refine ⟨hl, .inr ⟨w.heap.size, m, _, rfl, Nat.le_refl _, (MapKept.heap_alloc w _).1, Nat.le_refl _, by unfold maxLen; omega, by simpa using hl, ?_⟩⟩
  rw [← hl]
  simp
set_option maxRecDepth 100000 in
set_option maxHeartbeats 4000000 in
theorem toVMC_any (m : VMC) (w : World) : Calls Tryz.prog 50 #[vmcA m] w fun e w' => e = .returned (vmcA m) ∧ Below w.heap.size w w' := by
  unfold vmcA
  go_enter Tryz.func50, Tryz.ntmps50
  go_wp2
  refine bodyPost_ret (v := vmcA m) (by simp [results, Tryz.results50, go_sem, vmcA]) rfl ⟨rfl, ?_⟩
  exact (((Below.refl _ _).alloc (Nat.le_refl _) _).alloc (by simp) _).alloc (by simp; omega) _
set_option maxRecDepth 100000 in
set_option maxHeartbeats 4000000 in
theorem toVMCS_any {w : World} {v : Value} {zs : List VMC} (h : VMCrow w v zs) (hl : zs.length ≤ 1048576) :
    Calls Tryz.prog 33 #[v] w fun e w' => ∃ u, e = .returned u ∧ w'.ownsRow w.heap.size 71 8 u zs.length (vmcR zs) ∧ Below w.heap.size w w' := by
  obtain ⟨ao, cap, rfl⟩ := h.sl
  have hmk := vmc_mk w zs.length hl
  have HO : Hid ((w.alloc (.cells (vmcR (List.replicate zs.length vmc0)).toArray 71)).ownsRow w.heap.size 71 8 (.slice (some ⟨w.heap.size, 0, none⟩) zs.length zs.length) zs.length (vmcR (List.replicate zs.length vmc0))) := vmc_own0 w zs.length hl
  have HR : Hid (VMCrow w (.slice ao zs.length cap) zs) := h
  clear h
  go_enter Tryz.func33, Tryz.ntmps33
  go_wp2
  go_loopw [4] (fun i wr => ∃ k : Nat, k ≤ zs.length ∧ i = .int .i64 k ∧ wr.ownsRow w.heap.size 71 8 (.slice (some ⟨w.heap.size, 0, none⟩) zs.length zs.length) zs.length (vmcR (vmcJ k zs)) ∧ Below w.heap.size w wr) (fun i _ => zs.length - (intOf i).toNat)
  case atStart => exact ⟨0, Nat.zero_le _, rfl, by rw [vmcJ_zero]; exact HO.out, (Below.refl _ _).alloc (Nat.le_refl _) _⟩
  case round =>
    obtain ⟨k, hk, rfl, hown, hb⟩ := hrel
    clear hmk
    by_cases hlt : k < zs.length
    · obtain ⟨g, o, cap2, hv, _, hg, hc⟩ := HR.out.resolve_left (fun h => by rw [h.1] at hlt; simp at hlt)
      injection hv with hv1 hv2 hv3
      subst hv1 hv3
      obtain ⟨d0, d1, d2, d3, d4, d5, d6, d7⟩ := hc.below hb hg k hlt
      have hlen := vmcJ_len k zs hk
      have hown2 : wr.ownsRow w.heap.size 71 8 (.slice (some ⟨w.heap.size, 0, none⟩) (vmcJ k zs).length zs.length) (vmcJ k zs).length (vmcR (vmcJ k zs)) := by rw [hlen]; exact hown
      have HOW : Hid (wr.ownsRow w.heap.size 71 8 (.slice (some ⟨w.heap.size, 0, none⟩) (vmcJ k zs).length zs.length) (vmcJ k zs).length (vmcR (vmcJ k zs))) := hown2
      have hTO := fun w' => toVMC_any zs[k] w'
      have HZ : Hid _ := vmcJ_step k zs hlt
      generalize zs[k] = z at *
      have HB : Hid _ := hb
      have hk0 : (0 : Int) ≤ (k : Int) := by omega
      have hk1 : (k : Int) < (zs.length : Int) := by omega
      have hgw : g < wr.heap.size := Nat.lt_of_lt_of_le hg hb.size
      have HTO : Hid _ := hTO
      unfold vmcA at HTO
      clear hc hown hown2 hb hTO
      go_wp2_with (go_at_call 50; refine Calls.mono (HTO.out _) ?_; rintro e u5 ⟨rfl, hu5⟩; have HB5 : Hid (Below wr.heap.size wr u5) := hu5; have HO5 : Hid (u5.ownsRow w.heap.size 71 8 (.slice (some ⟨w.heap.size, 0, none⟩) (vmcJ k zs).length zs.length) (vmcJ k zs).length (vmcR (vmcJ k zs))) := vmc_below HOW.out hu5; obtain ⟨y, y0, y1, y2, y3, y4, y5, y6, y7⟩ := vmc_cells HO5.out rfl k (by omega); have hfz := HO5.out.frozenAt; clear hu5)
      have st := own_setVMC HO5.out k (by omega) z
      rw [HZ.out, hlen] at st
      have hb6 : Below w.heap.size w u5 := HB.out.trans (HB5.out.mono HB.out.size)
      refine ⟨⟨k + 1, hlt, by simp, st.1, hb6.grown st.2 hb6.size (fun j hj => by cases hj; exact Nat.le_refl _)⟩, ?_⟩
      simp [intOf]
      omega
    · obtain rfl : k = zs.length := by omega
      rw [vmcJ_all] at hown
      have HO2 : Hid _ := hown
      clear hown
      go_wp2
      go_ret
      exact ⟨_, rfl, HO2.out, hb⟩

theorem cVMC : Tryz.prog.cellsOf 95 = 8 := by kernel_rfl
theorem ciVMC : Tryz.prog.cellsOf 2 = 1 := by kernel_rfl
theorem csVMC : Tryz.prog.cellsOf 9 = 1 := by kernel_rfl
theorem listVMC {α : Type} {cs : List α} (h : cs.length = 8) : ∃ x0 x1 x2 x3 x4 x5 x6 x7, cs = [x0, x1, x2, x3, x4, x5, x6, x7] := by
  match cs, h with
  | [x0, x1, x2, x3, x4, x5, x6, x7], _ => exact ⟨x0, x1, x2, x3, x4, x5, x6, x7, rfl⟩
theorem vmc_one {H : Type} {enc : TypeId × Value → H} {W : World} {fuel : Nat} {cs : List Value} {x : DataW H × List MemPlace} (h : DataW.trod enc Tryz.prog W 0 (fun _ => true) true fuel 95 cs = some x) : ∃ z : VMC, cs = vmcC z ∧ z.name.size ≤ maxLen ∧ z.node.size ≤ maxLen := by
  obtain ⟨xs, m, _, hx, hl, hlen, hel⟩ := DataW.trod_struct Tryz.underlying95 h
  obtain ⟨x0, x1, x2, x3, x4, x5, x6, x7, rfl⟩ := listVMC (hl.trans cVMC)
  match xs, hlen, hel, hx with
  | [y0, y1, y2, y3, y4, y5, y6, y7], _, hel, hx =>
    have g0 := hel 0 _ rfl
    have g1 := hel 1 _ rfl
    have g2 := hel 2 _ rfl
    have g3 := hel 3 _ rfl
    have g4 := hel 4 _ rfl
    have g5 := hel 5 _ rfl
    have g6 := hel 6 _ rfl
    have g7 := hel 7 _ rfl
    obtain ⟨a0, e0, _, w0⟩ := DataW.trod_string Tryz.underlying9 g0
    obtain ⟨a1, e1, _, _⟩ := DataW.trod_int Tryz.underlying2 g1
    obtain ⟨a2, e2, _, _⟩ := DataW.trod_int Tryz.underlying2 g2
    obtain ⟨a3, e3, _, _⟩ := DataW.trod_int Tryz.underlying2 g3
    obtain ⟨a4, e4, _, _⟩ := DataW.trod_int Tryz.underlying2 g4
    obtain ⟨a5, e5, _, _⟩ := DataW.trod_int Tryz.underlying2 g5
    obtain ⟨a6, e6, _, w6⟩ := DataW.trod_string Tryz.underlying9 g6
    obtain ⟨a7, e7, _, _⟩ := DataW.trod_int Tryz.underlying2 g7
    simp [ciVMC, csVMC] at e0 e1 e2 e3 e4 e5 e6 e7
    subst e0 e1 e2 e3 e4 e5 e6 e7
    exact ⟨⟨a0, a1, a2, a3, a4, a5, a6, a7⟩, rfl, w0, w6⟩
instance : Inhabited VMC := ⟨vmc0⟩
theorem open_vmcS {H : Type} {enc : TypeId × Value → H} {W : World} {fuel : Nat} {c : Value} {x : DataW H × List MemPlace} (h : DataW.trod enc Tryz.prog W 0 (fun _ => true) true fuel 23 [c] = some x) : ∃ zs : List VMC, VMCrow W c zs ∧ zs.length ≤ maxLen ∧ ∀ z ∈ zs, z.name.size ≤ maxLen ∧ z.node.size ≤ maxLen := by
  rcases Go.Deep.open_slice Tryz.underlying23 h with ⟨hcs, _⟩ | ⟨a, len, cap, m, k, D, Pl, hcs, _, hl, hm, hmm, _, hel⟩
  · obtain rfl : c = .slice none 0 0 := by simpa using hcs
    exact ⟨[], .inl ⟨rfl, none, 0, rfl⟩, Nat.zero_le _, fun z hz => by cases hz⟩
  · obtain rfl : c = .slice (some a) len cap := by simpa using hcs
    rw [if_pos rfl] at hmm
    subst hmm
    rw [cVMC] at hel
    cases len with
    | zero => exact ⟨[], .inl ⟨rfl, _, _, rfl⟩, Nat.zero_le _, fun z hz => by cases hz⟩
    | succ len =>
      have each : ∀ i, i < len + 1 → ∃ z : VMC, (∀ j, j < 8 → W.cell? (a.add (i * 8 + j)) = (vmcC z)[j]?) ∧ z.name.size ≤ maxLen ∧ z.node.size ≤ maxLen := by
        intro i hi
        obtain ⟨cs', h1, h2⟩ := hel i (by omega)
        obtain ⟨z, rfl, q0, q1⟩ := vmc_one h2
        obtain ⟨_, _, h3⟩ := World.cells?_some h1
        refine ⟨z, fun j hj => ?_, q0, q1⟩
        rw [← Go.Deep.add_add]
        exact h3 j hj
      obtain ⟨f, hf⟩ := Go.Deep.choose_lt each
      have h0 := (hf 0 (by omega)).1 0 (by omega)
      have hsp : a.spot = none := by
        cases hs : a.spot with
        | none => rfl
        | some q =>
          simp [Addr.add, World.cell?, hs, vmcC] at h0
          cases hq : W.heap[a.block]? with
          | none => simp [hq] at h0
          | some ob => cases ob <;> simp [hq] at h0
      have hlt : a.block < W.heap.size := by
        simp [Addr.add, World.cell?, vmcC] at h0
        cases hq : W.heap[a.block]? with
        | none => simp [hq] at h0
        | some ob => exact (Array.getElem?_eq_some_iff.1 hq).1
      obtain ⟨b, o, sp⟩ := a
      simp only at hsp hlt
      subst hsp
      have hadd : ∀ q, Addr.add ⟨b, o, none⟩ q = ⟨b, o + q, none⟩ := fun q => by
        unfold Addr.add
        split
        · subst_vars; rfl
        · rfl
      refine ⟨(List.range (len + 1)).map f, .inr ⟨b, o, m, by simp, by simpa using hl, hlt, fun i hi => ?_⟩, by simp; omega, fun z hz => ?_⟩
      case refine_2 =>
        obtain ⟨i, hi, rfl⟩ := List.mem_map.1 hz
        exact (hf i (by simpa using hi)).2
      have hi2 : i < len + 1 := by simpa using hi
      have hfi : ((List.range (len + 1)).map f)[i] = f i := by simp
      rw [hfi]
      have q := fun j hj => (hf i hi2).1 j hj
      simp only [hadd] at q
      exact ⟨(q 0 (by omega)), (by rw [Nat.add_assoc]; exact q 1 (by omega)), (by rw [Nat.add_assoc]; exact q 2 (by omega)), (by rw [Nat.add_assoc]; exact q 3 (by omega)), (by rw [Nat.add_assoc]; exact q 4 (by omega)), (by rw [Nat.add_assoc]; exact q 5 (by omega)), (by rw [Nat.add_assoc]; exact q 6 (by omega)), (by rw [Nat.add_assoc]; exact q 7 (by omega))⟩
end Go.Proofs.YtalpcjclahkgnaaGreat
