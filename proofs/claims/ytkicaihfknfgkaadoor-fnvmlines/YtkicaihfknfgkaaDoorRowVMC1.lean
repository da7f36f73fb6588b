import Derived.Test.YtkicaihfknfgkaaDoorOwnB
import Derived.Deep.QuietTactic
import Derived.BigRegion
import Derived.Deep.RegionHeld3
import Derived.Laws.MakeOwn
namespace Go.Proofs.YtkicaihfknfgkaaDoor
open Go.ChangeShapes Go.WideShapes Go.ChangeAt Go.RowKit

structure VMC where
  name : ByteArray
  tenant : Int
  cpu : Int
  mem : Int
  zone : Int
  apart : Int
  node : ByteArray
  epoch : Int
def vmcA (m : VMC) : Value := .agg #[.string m.name, .int .i64 m.tenant, .int .i64 m.cpu, .int .i64 m.mem, .int .i64 m.zone, .int .i64 m.apart, .string m.node, .int .i64 m.epoch]
def vmcC (m : VMC) : List Value := [.string m.name, .int .i64 m.tenant, .int .i64 m.cpu, .int .i64 m.mem, .int .i64 m.zone, .int .i64 m.apart, .string m.node, .int .i64 m.epoch]
def vmcR (zs : List VMC) : List Value := zs.flatMap vmcC
theorem vmcR_app (xs ys : List VMC) : vmcR (xs ++ ys) = vmcR xs ++ vmcR ys := by simp [vmcR]
theorem vmcR_len (zs : List VMC) : (vmcR zs).length = zs.length * 8 := by
  induction zs with
  | nil => rfl
  | cons z zs ih =>
    have e : vmcR (z :: zs) = vmcC z ++ vmcR zs := rfl
    rw [e, List.length_append, ih]
    simp [vmcC]
    omega
theorem vmcR_at (zs : List VMC) (k : Nat) (hk : k < zs.length) (j : Nat) (hj : j < 8) : (vmcR zs)[k * 8 + j]? = (vmcC zs[k])[j]? := by
  induction zs generalizing k with
  | nil => simp at hk
  | cons z zs ih =>
    have e : vmcR (z :: zs) = vmcC z ++ vmcR zs := rfl
    have hl : (vmcC z).length = 8 := rfl
    rw [e]
    cases k with
    | zero =>
      rw [List.getElem?_append_left (by omega)]
      simp
    | succ k =>
      rw [List.getElem?_append_right (by omega), hl, show (k + 1) * 8 + j - 8 = k * 8 + j by omega, ih k (by simpa using hk)]
      simp
theorem vmc_sl {w : World} {B n : Nat} {v : Value} {xs : List Value} (h : w.ownsRow B 23 8 v n xs) : ∃ ao cap, v = .slice ao n cap := by
  rcases h.2 with ⟨rfl, e⟩ | ⟨g, cap, cur, rfl, _⟩
  · exact ⟨none, 0, by rw [e]⟩
  · exact ⟨_, cap, rfl⟩
theorem vmc_below {w w' : World} {B n : Nat} {v : Value} {xs : List Value} (h : w.ownsRow B 23 8 v n xs) (hb : Below w.heap.size w w') : w'.ownsRow B 23 8 v n xs :=
  h.kept (row := none) ⟨hb.os, hb.tape, hb.output, hb.size, fun k hk _ => hb.block k hk⟩ (by cases v.ownBlock <;> simp)
theorem vmc_weak {w : World} {B B' : Nat} {v : Value} {n : Nat} {xs : List Value} (h : w.ownsRow B 23 8 v n xs) (hb : B' ≤ B) : w.ownsRow B' 23 8 v n xs := by
  obtain ⟨hl, h | ⟨g, cap, cur, hv, hg, h1, h2, h3, h4, h5⟩⟩ := h
  · exact ⟨hl, .inl h⟩
  · exact ⟨hl, .inr ⟨g, cap, cur, hv, Nat.le_trans hb hg, h1, h2, h3, h4, h5⟩⟩
theorem vmc_cast {w : World} {B n n' : Nat} {v : Value} {xs xs' : List Value} (h : w.ownsRow B 23 8 v n xs) (hn : n = n') (hx : xs = xs') : w.ownsRow B 23 8 v n' xs' := by
  subst hn
  subst hx
  exact h
/-- Where a row lies. -/
def VMCat (w : World) (g o : Nat) (zs : List VMC) : Prop := ∀ (k : Nat) (hk : k < zs.length), w.cell? ⟨g, o + k * 8, none⟩ = some (.string zs[k].name) ∧ w.cell? ⟨g, o + k * 8 + 1, none⟩ = some (.int .i64 zs[k].tenant) ∧ w.cell? ⟨g, o + k * 8 + 2, none⟩ = some (.int .i64 zs[k].cpu) ∧ w.cell? ⟨g, o + k * 8 + 3, none⟩ = some (.int .i64 zs[k].mem) ∧ w.cell? ⟨g, o + k * 8 + 4, none⟩ = some (.int .i64 zs[k].zone) ∧ w.cell? ⟨g, o + k * 8 + 5, none⟩ = some (.int .i64 zs[k].apart) ∧ w.cell? ⟨g, o + k * 8 + 6, none⟩ = some (.string zs[k].node) ∧ w.cell? ⟨g, o + k * 8 + 7, none⟩ = some (.int .i64 zs[k].epoch)
/-- A row that may be read. -/
def VMCrow (w : World) (v : Value) (zs : List VMC) : Prop := (zs = [] ∧ ∃ ao cap, v = .slice ao 0 cap) ∨ ∃ g o cap, v = .slice (some ⟨g, o, none⟩) zs.length cap ∧ zs.length ≤ cap ∧ g < w.heap.size ∧ VMCat w g o zs
theorem VMCat.below {w w' : World} {g o : Nat} {zs : List VMC} (h : VMCat w g o zs) {B : Nat} (hb : Below B w w') (hg : g < B) : VMCat w' g o zs := by
  intro k hk
  have h2 := h k hk
  have e : ∀ x, w'.cell? ⟨g, x, none⟩ = w.cell? ⟨g, x, none⟩ := fun x => World.cell?_of_block (hb.block g hg)
  simp only [e]
  exact h2
theorem VMCrow.below {w w' : World} {v : Value} {zs : List VMC} (h : VMCrow w v zs) (hb : Below w.heap.size w w') : VMCrow w' v zs := by
  rcases h with h | ⟨g, o, cap, hv, hc, hg, ha⟩
  · exact .inl h
  · exact .inr ⟨g, o, cap, hv, hc, Nat.lt_of_lt_of_le hg hb.size, ha.below hb hg⟩
theorem VMCrow.sl {w : World} {v : Value} {zs : List VMC} (h : VMCrow w v zs) : ∃ ao cap, v = .slice ao zs.length cap := by
  rcases h with ⟨rfl, ao, cap, rfl⟩ | ⟨g, o, cap, rfl, _⟩
  · exact ⟨_, _, rfl⟩
  · exact ⟨_, _, rfl⟩
theorem VMCrow.of {w : World} {B : Nat} {v : Value} {zs : List VMC} (h : w.ownsRow B 23 8 v zs.length (vmcR zs)) : VMCrow w v zs := by
  rcases h.2 with ⟨rfl, e⟩ | ⟨g, cap, cur, rfl, hB, hg, hc, rest⟩
  · exact .inl ⟨List.length_eq_zero_iff.1 e, _, _, by rfl⟩
  · have h2 : w.ownsRow B 23 8 (.slice (some ⟨g, 0, none⟩) zs.length cap) zs.length (vmcR zs) := h
    refine .inr ⟨g, 0, cap, rfl, hc, (Array.getElem?_eq_some_iff.1 hg).1, fun k hk => ?_⟩
    simp only [Nat.zero_add]
    have a0 := h2.cellAt (k * 8 + 0) (by omega)
    have a1 := h2.cellAt (k * 8 + 1) (by omega)
    have a2 := h2.cellAt (k * 8 + 2) (by omega)
    have a3 := h2.cellAt (k * 8 + 3) (by omega)
    have a4 := h2.cellAt (k * 8 + 4) (by omega)
    have a5 := h2.cellAt (k * 8 + 5) (by omega)
    have a6 := h2.cellAt (k * 8 + 6) (by omega)
    have a7 := h2.cellAt (k * 8 + 7) (by omega)
    rw [vmcR_at zs k hk _ (by omega)] at a0 a1 a2 a3 a4 a5 a6 a7
    exact ⟨a0, a1, a2, a3, a4, a5, a6, a7⟩
set_option maxRecDepth 100000 in
set_option maxHeartbeats 4000000 in
theorem eqVMC_ok (m : VMC) (w : World) : Calls Tryd.prog 7 #[vmcA m, vmcA m] w fun e w' => e = .returned (.bool true) ∧ Below w.heap.size w w' := by
  unfold vmcA
  go_enter Tryd.func7, Tryd.ntmps7
  go_wp2
  go_ret
  exact ⟨rfl, ((Below.refl _ _).alloc (Nat.le_refl _) _).alloc (by simp) _⟩
end Go.Proofs.YtkicaihfknfgkaaDoor
