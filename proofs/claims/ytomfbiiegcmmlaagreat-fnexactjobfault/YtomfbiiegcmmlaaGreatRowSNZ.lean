import Derived.Test.YtomfbiiegcmmlaaGreatOwnB
import Derived.Deep.QuietTactic
import Derived.BigRegion
import Derived.Deep.RegionHeld3
import Derived.Laws.MakeOwn
namespace Go.Proofs.YtomfbiiegcmmlaaGreat
open Go.ChangeShapes Go.WideShapes Go.ChangeAt Go.RowKit

structure SN where
  n : ByteArray
  t : Value
def snA (m : SN) : Value := .agg #[.string m.n, m.t]
def snC (m : SN) : List Value := [.string m.n, m.t]
def snR (zs : List SN) : List Value := zs.flatMap snC
theorem snR_app (xs ys : List SN) : snR (xs ++ ys) = snR xs ++ snR ys := by simp [snR]
theorem snR_len (zs : List SN) : (snR zs).length = zs.length * 2 := by
  induction zs with
  | nil => rfl
  | cons z zs ih =>
    have e : snR (z :: zs) = snC z ++ snR zs := rfl
    rw [e, List.length_append, ih]
    simp [snC]
    omega
theorem snR_at (zs : List SN) (k : Nat) (hk : k < zs.length) (j : Nat) (hj : j < 2) : (snR zs)[k * 2 + j]? = (snC zs[k])[j]? := by
  induction zs generalizing k with
  | nil => simp at hk
  | cons z zs ih =>
    have e : snR (z :: zs) = snC z ++ snR zs := rfl
    have hl : (snC z).length = 2 := rfl
    rw [e]
    cases k with
    | zero =>
      rw [List.getElem?_append_left (by omega)]
      simp
    | succ k =>
      rw [List.getElem?_append_right (by omega), hl, show (k + 1) * 2 + j - 2 = k * 2 + j by omega, ih k (by simpa using hk)]
      simp
theorem sn_sl {w : World} {B n : Nat} {v : Value} {xs : List Value} (h : w.ownsRow B 116 2 v n xs) : ∃ ao cap, v = .slice ao n cap := by
  rcases h.2 with ⟨rfl, e⟩ | ⟨g, cap, cur, rfl, _⟩
  · exact ⟨none, 0, by rw [e]⟩
  · exact ⟨_, cap, rfl⟩
theorem sn_below {w w' : World} {B n : Nat} {v : Value} {xs : List Value} (h : w.ownsRow B 116 2 v n xs) (hb : Below w.heap.size w w') : w'.ownsRow B 116 2 v n xs :=
  h.kept (row := none) ⟨hb.os, hb.tape, hb.output, hb.size, fun k hk _ => hb.block k hk⟩ (by cases v.ownBlock <;> simp)
theorem sn_weak {w : World} {B B' : Nat} {v : Value} {n : Nat} {xs : List Value} (h : w.ownsRow B 116 2 v n xs) (hb : B' ≤ B) : w.ownsRow B' 116 2 v n xs := by
  obtain ⟨hl, h | ⟨g, cap, cur, hv, hg, h1, h2, h3, h4, h5⟩⟩ := h
  · exact ⟨hl, .inl h⟩
  · exact ⟨hl, .inr ⟨g, cap, cur, hv, Nat.le_trans hb hg, h1, h2, h3, h4, h5⟩⟩
theorem sn_cast {w : World} {B n n' : Nat} {v : Value} {xs xs' : List Value} (h : w.ownsRow B 116 2 v n xs) (hn : n = n') (hx : xs = xs') : w.ownsRow B 116 2 v n' xs' := by
  subst hn
  subst hx
  exact h
/-- Where a row lies. -/
def SNat (w : World) (g o : Nat) (zs : List SN) : Prop := ∀ (k : Nat) (hk : k < zs.length), w.cell? ⟨g, o + k * 2, none⟩ = some (.string zs[k].n) ∧ w.cell? ⟨g, o + k * 2 + 1, none⟩ = some (zs[k].t)
/-- A row that may be read. -/
def SNrow (w : World) (v : Value) (zs : List SN) : Prop := (zs = [] ∧ ∃ ao cap, v = .slice ao 0 cap) ∨ ∃ g o cap, v = .slice (some ⟨g, o, none⟩) zs.length cap ∧ zs.length ≤ cap ∧ g < w.heap.size ∧ SNat w g o zs
theorem SNat.below {w w' : World} {g o : Nat} {zs : List SN} (h : SNat w g o zs) {B : Nat} (hb : Below B w w') (hg : g < B) : SNat w' g o zs := by
  intro k hk
  have h2 := h k hk
  have e : ∀ x, w'.cell? ⟨g, x, none⟩ = w.cell? ⟨g, x, none⟩ := fun x => World.cell?_of_block (hb.block g hg)
  simp only [e]
  exact h2
theorem SNrow.below {w w' : World} {v : Value} {zs : List SN} (h : SNrow w v zs) (hb : Below w.heap.size w w') : SNrow w' v zs := by
  rcases h with h | ⟨g, o, cap, hv, hc, hg, ha⟩
  · exact .inl h
  · exact .inr ⟨g, o, cap, hv, hc, Nat.lt_of_lt_of_le hg hb.size, ha.below hb hg⟩
theorem SNrow.sl {w : World} {v : Value} {zs : List SN} (h : SNrow w v zs) : ∃ ao cap, v = .slice ao zs.length cap := by
  rcases h with ⟨rfl, ao, cap, rfl⟩ | ⟨g, o, cap, rfl, _⟩
  · exact ⟨_, _, rfl⟩
  · exact ⟨_, _, rfl⟩
theorem SNrow.of {w : World} {B : Nat} {v : Value} {zs : List SN} (h : w.ownsRow B 116 2 v zs.length (snR zs)) : SNrow w v zs := by
  rcases h.2 with ⟨rfl, e⟩ | ⟨g, cap, cur, rfl, hB, hg, hc, rest⟩
  · exact .inl ⟨List.length_eq_zero_iff.1 e, _, _, by rfl⟩
  · have h2 : w.ownsRow B 116 2 (.slice (some ⟨g, 0, none⟩) zs.length cap) zs.length (snR zs) := h
    refine .inr ⟨g, 0, cap, rfl, hc, (Array.getElem?_eq_some_iff.1 hg).1, fun k hk => ?_⟩
    simp only [Nat.zero_add]
    have a0 := h2.cellAt (k * 2 + 0) (by omega)
    have a1 := h2.cellAt (k * 2 + 1) (by omega)
    rw [snR_at zs k hk _ (by omega)] at a0 a1
    exact ⟨a0, a1⟩

theorem snR_set (zs : List SN) (k : Nat) (m : SN) (hk : k < zs.length) : (((snR zs).set (k * 2) (.string m.n)).set (k * 2 + 1) (m.t)) = snR (zs.set k m) := by
  induction zs generalizing k with
  | nil => simp at hk
  | cons z zs ih =>
    have e : snR (z :: zs) = snC z ++ snR zs := rfl
    have hl : (snC z).length = 2 := rfl
    cases k with
    | zero =>
      rw [e, List.set_cons_zero]
      show _ = snC m ++ snR zs
      rfl
    | succ k =>
      rw [e, List.set_cons_succ]
      show _ = snC z ++ snR (zs.set k m)
      rw [List.set_append_right _ _ (by omega), List.set_append_right _ _ (by omega), hl,
        show (k + 1) * 2 - 2 = k * 2 by omega, show (k + 1) * 2 + 1 - 2 = k * 2 + 1 by omega, ih k (by simpa using hk)]
theorem gbSN {w0 w u : World} {r : Option Nat} (h : w0.grownBy w r) (hg : w.grownBy u r) : w0.grownBy u r :=
  ⟨hg.os.trans h.os, hg.tape.trans h.tape, hg.output.trans h.output, Nat.le_trans h.size hg.size, fun k hk hn => (hg.block k (Nat.lt_of_lt_of_le hk h.size) hn).trans (h.block k hk hn)⟩
theorem sn_cells {w : World} {B g cap m : Nat} {zs : List SN} (h : w.ownsRow B 116 2 (.slice (some ⟨g, 0, none⟩) m cap) m (snR zs)) (hm : zs.length = m) (k : Nat) (hk : k < zs.length) : ∃ y : SN, w.cell? ⟨g, k * 2, none⟩ = some (.string y.n) ∧ w.cell? ⟨g, k * 2 + 1, none⟩ = some (y.t) := by
  subst hm
  rcases SNrow.of h with ⟨e, _⟩ | ⟨g2, o, cap2, hv, _, _, hc⟩
  · rw [e] at hk
    simp at hk
  · injection hv with e1
    injection e1 with e2
    obtain ⟨rfl, rfl⟩ : g = g2 ∧ 0 = o := ⟨congrArg Addr.block e2, congrArg Addr.off e2⟩
    have h3 := hc k hk
    simp only [Nat.zero_add] at h3
    exact ⟨zs[k], h3⟩
/-- An element put. -/
theorem own_setSN {w : World} {B g cap : Nat} {zs : List SN} (h : w.ownsRow B 116 2 (.slice (some ⟨g, 0, none⟩) zs.length cap) zs.length (snR zs)) (k : Nat) (hk : k < zs.length) (m : SN) :
    ((w.setCell ⟨g, k * 2, none⟩ (.string m.n)).setCell ⟨g, k * 2 + 1, none⟩ (m.t)).ownsRow B 116 2 (.slice (some ⟨g, 0, none⟩) zs.length cap) zs.length (snR (zs.set k m)) ∧
    w.grownBy ((w.setCell ⟨g, k * 2, none⟩ (.string m.n)).setCell ⟨g, k * 2 + 1, none⟩ (m.t)) (some g) := by
  have s1 := h.stored (k * 2) (.string m.n)
  have s2 := s1.1.stored (k * 2 + 1) (m.t)
  rw [snR_set zs k m hk] at s2
  exact ⟨s2.1, (gbSN s1.2 s2.2)⟩

def sn0 : SN := ⟨⟨#[]⟩, .slice none 0 0⟩
/-- So many are copied. -/
def snJ (j : Nat) (zs : List SN) : List SN := zs.take j ++ List.replicate (zs.length - j) sn0
theorem snJ_len (j : Nat) (zs : List SN) (h : j ≤ zs.length) : (snJ j zs).length = zs.length := by simp [snJ]; omega
theorem snJ_step (j : Nat) (zs : List SN) (h : j < zs.length) : (snJ j zs).set j zs[j] = snJ (j + 1) zs := by
  unfold snJ
  have hl : (zs.take j).length = j := by rw [List.length_take]; omega
  rw [List.set_append_right _ _ (by omega), hl, Nat.sub_self, show zs.length - j = (zs.length - (j + 1)) + 1 by omega, List.replicate_succ, List.set_cons_zero, List.take_succ_eq_append_getElem h, List.append_assoc]
  rfl
theorem snJ_all (zs : List SN) : snJ zs.length zs = zs := by simp [snJ]
theorem snJ_zero (zs : List SN) : snJ 0 zs = List.replicate zs.length sn0 := by simp [snJ]
theorem sn_made (m : Nat) : (madeCells #[.string ⟨#[]⟩, .slice none 0 0] (m * 2)).toList = snR (List.replicate m sn0) := by
  apply List.ext_getElem?
  intro i
  by_cases hi : i < m * 2
  · have hq : i = i / 2 * 2 + i % 2 := by omega
    have h2 := snR_at (List.replicate m sn0) (i / 2) (by rw [List.length_replicate]; omega) (i % 2) (by omega)
    rw [← hq] at h2
    rw [h2, List.getElem_replicate]
    have hl : (madeCells #[.string ⟨#[]⟩, .slice none 0 0] (m * 2)).toList.length = m * 2 := by simp [madeCells]
    rw [List.getElem?_eq_getElem (by omega)]
    have : i % 2 < 2 := Nat.mod_lt _ (by omega)
    generalize hr : i % 2 = r at *
    simp only [madeCells, Array.getElem_toList, Array.getElem_map, Array.getElem_range, List.size_toArray, List.length_cons, List.length_nil]
    rw [show i % (0 + 1 + 1) = r by simpa using hr]
    match r, this with
    | 0, _ => rfl
    | 1, _ => rfl
  · rw [List.getElem?_eq_none (by simp [madeCells]; omega), List.getElem?_eq_none (by rw [snR_len]; simp; omega)]
theorem sn_zero : (Tryz.prog.info? 116).map (fun i => (i.zero, i.size)) = some (some (.agg #[.string ⟨#[]⟩, .slice none 0 0]), 2) := by kernel_rfl
theorem sn_bytes : ∀ i, Tryz.prog.info? 116 = some i → i.bytes ≤ 40 := by
  intro i h
  have e : (Tryz.prog.info? 116).map (fun i => decide (i.bytes ≤ 40)) = some true := by kernel_rfl
  rw [h] at e
  simpa using e
theorem sn_mk (w : World) (m : Nat) (hm : m ≤ 1048576) : (Instr.makeSlice 66 (.int .i64 m) (.int .i64 m)).run Tryz.prog w = .ok (.slice (some ⟨w.heap.size, 0, none⟩) m m) (w.alloc (.cells (snR (List.replicate m sn0)).toArray 116)) := by
  have h1 := sn_zero
  cases hq : Tryz.prog.info? 116 with
  | none => simp [hq] at h1
  | some i =>
    have hb := sn_bytes i hq
    simp [hq] at h1
    have h3 : i.bytes * m ≤ 40 * 1048576 := Nat.mul_le_mul hb hm
    have hbm : (i.bytes : Int) * (m : Int) ≤ 281474976710656 := by
      rw [← Int.natCast_mul]
      omega
    have hr := run_make (P := Tryz.prog) w 66 116 i _ Tryz.underlying66 hq h1.1 .i64 .i64 m m (by omega) (by omega) hbm (by omega)
    rw [hr, h1.2]
    simp only [Int.toNat_natCast, Value.cells]
    rw [← sn_made]
theorem sn_own0 (w : World) (m : Nat) (hm : m ≤ 1048576) : (w.alloc (.cells (snR (List.replicate m sn0)).toArray 116)).ownsRow w.heap.size 116 2 (.slice (some ⟨w.heap.size, 0, none⟩) m m) m (snR (List.replicate m sn0)) := by
  have hl := snR_len (List.replicate m sn0)
  rw [List.length_replicate] at hl
  refine ⟨hl, .inr ⟨w.heap.size, m, _, rfl, Nat.le_refl _, (MapKept.heap_alloc w _).1, Nat.le_refl _, by unfold maxLen; omega, by simpa using hl, ?_⟩⟩
  rw [← hl]
  simp
end Go.Proofs.YtomfbiiegcmmlaaGreat
