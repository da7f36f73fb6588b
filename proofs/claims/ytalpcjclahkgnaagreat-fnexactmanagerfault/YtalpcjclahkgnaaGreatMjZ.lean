import Derived.Test.YtalpcjclahkgnaaGreatOwnB
import Derived.Deep.QuietTactic
import Derived.BigRegion
import Derived.Deep.RegionHeld3
import Derived.Laws.MakeOwn
namespace Go.Proofs.YtalpcjclahkgnaaGreat
open Go.ChangeShapes Go.WideShapes Go.ChangeAt Go.RowKit

structure MJ where
  number : Int
  node : ByteArray
  left : Value
  done : Int
  state : Int
def mjA (m : MJ) : Value := .agg #[.int .i64 m.number, .string m.node, m.left, .int .i64 m.done, .int .i64 m.state]
def mjC (m : MJ) : List Value := [.int .i64 m.number, .string m.node, m.left, .int .i64 m.done, .int .i64 m.state]
def mjR (zs : List MJ) : List Value := zs.flatMap mjC
theorem mjR_app (xs ys : List MJ) : mjR (xs ++ ys) = mjR xs ++ mjR ys := by simp [mjR]
theorem mjR_len (zs : List MJ) : (mjR zs).length = zs.length * 5 := by
  induction zs with
  | nil => rfl
  | cons z zs ih =>
    have e : mjR (z :: zs) = mjC z ++ mjR zs := rfl
    rw [e, List.length_append, ih]
    simp [mjC]
    omega
theorem mjR_at (zs : List MJ) (k : Nat) (hk : k < zs.length) (j : Nat) (hj : j < 5) : (mjR zs)[k * 5 + j]? = (mjC zs[k])[j]? := by
  induction zs generalizing k with
  | nil => simp at hk
  | cons z zs ih =>
    have e : mjR (z :: zs) = mjC z ++ mjR zs := rfl
    have hl : (mjC z).length = 5 := rfl
    rw [e]
    cases k with
    | zero =>
      rw [List.getElem?_append_left (by omega)]
      simp
    | succ k =>
      rw [List.getElem?_append_right (by omega), hl, show (k + 1) * 5 + j - 5 = k * 5 + j by omega, ih k (by simpa using hk)]
      simp
theorem mj_sl {w : World} {B n : Nat} {v : Value} {xs : List Value} (h : w.ownsRow B 53 5 v n xs) : ∃ ao cap, v = .slice ao n cap := by
  rcases h.2 with ⟨rfl, e⟩ | ⟨g, cap, cur, rfl, _⟩
  · exact ⟨none, 0, by rw [e]⟩
  · exact ⟨_, cap, rfl⟩
theorem mj_below {w w' : World} {B n : Nat} {v : Value} {xs : List Value} (h : w.ownsRow B 53 5 v n xs) (hb : Below w.heap.size w w') : w'.ownsRow B 53 5 v n xs :=
  h.kept (row := none) ⟨hb.os, hb.tape, hb.output, hb.size, fun k hk _ => hb.block k hk⟩ (by cases v.ownBlock <;> simp)
theorem mj_weak {w : World} {B B' : Nat} {v : Value} {n : Nat} {xs : List Value} (h : w.ownsRow B 53 5 v n xs) (hb : B' ≤ B) : w.ownsRow B' 53 5 v n xs := by
  obtain ⟨hl, h | ⟨g, cap, cur, hv, hg, h1, h2, h3, h4, h5⟩⟩ := h
  · exact ⟨hl, .inl h⟩
  · exact ⟨hl, .inr ⟨g, cap, cur, hv, Nat.le_trans hb hg, h1, h2, h3, h4, h5⟩⟩
theorem mj_cast {w : World} {B n n' : Nat} {v : Value} {xs xs' : List Value} (h : w.ownsRow B 53 5 v n xs) (hn : n = n') (hx : xs = xs') : w.ownsRow B 53 5 v n' xs' := by
  subst hn
  subst hx
  exact h
/-- Where a row lies. -/
def MJat (w : World) (g o : Nat) (zs : List MJ) : Prop := ∀ (k : Nat) (hk : k < zs.length), w.cell? ⟨g, o + k * 5, none⟩ = some (.int .i64 zs[k].number) ∧ w.cell? ⟨g, o + k * 5 + 1, none⟩ = some (.string zs[k].node) ∧ w.cell? ⟨g, o + k * 5 + 2, none⟩ = some (zs[k].left) ∧ w.cell? ⟨g, o + k * 5 + 3, none⟩ = some (.int .i64 zs[k].done) ∧ w.cell? ⟨g, o + k * 5 + 4, none⟩ = some (.int .i64 zs[k].state)
/-- A row that may be read. -/
def MJrow (w : World) (v : Value) (zs : List MJ) : Prop := (zs = [] ∧ ∃ ao cap, v = .slice ao 0 cap) ∨ ∃ g o cap, v = .slice (some ⟨g, o, none⟩) zs.length cap ∧ zs.length ≤ cap ∧ g < w.heap.size ∧ MJat w g o zs
theorem MJat.below {w w' : World} {g o : Nat} {zs : List MJ} (h : MJat w g o zs) {B : Nat} (hb : Below B w w') (hg : g < B) : MJat w' g o zs := by
  intro k hk
  have h2 := h k hk
  have e : ∀ x, w'.cell? ⟨g, x, none⟩ = w.cell? ⟨g, x, none⟩ := fun x => World.cell?_of_block (hb.block g hg)
  simp only [e]
  exact h2
theorem MJrow.below {w w' : World} {v : Value} {zs : List MJ} (h : MJrow w v zs) (hb : Below w.heap.size w w') : MJrow w' v zs := by
  rcases h with h | ⟨g, o, cap, hv, hc, hg, ha⟩
  · exact .inl h
  · exact .inr ⟨g, o, cap, hv, hc, Nat.lt_of_lt_of_le hg hb.size, ha.below hb hg⟩
theorem MJrow.sl {w : World} {v : Value} {zs : List MJ} (h : MJrow w v zs) : ∃ ao cap, v = .slice ao zs.length cap := by
  rcases h with ⟨rfl, ao, cap, rfl⟩ | ⟨g, o, cap, rfl, _⟩
  · exact ⟨_, _, rfl⟩
  · exact ⟨_, _, rfl⟩
theorem MJrow.of {w : World} {B : Nat} {v : Value} {zs : List MJ} (h : w.ownsRow B 53 5 v zs.length (mjR zs)) : MJrow w v zs := by
  rcases h.2 with ⟨rfl, e⟩ | ⟨g, cap, cur, rfl, hB, hg, hc, rest⟩
  · exact .inl ⟨List.length_eq_zero_iff.1 e, _, _, by rfl⟩
  · have h2 : w.ownsRow B 53 5 (.slice (some ⟨g, 0, none⟩) zs.length cap) zs.length (mjR zs) := h
    refine .inr ⟨g, 0, cap, rfl, hc, (Array.getElem?_eq_some_iff.1 hg).1, fun k hk => ?_⟩
    simp only [Nat.zero_add]
    have a0 := h2.cellAt (k * 5 + 0) (by omega)
    have a1 := h2.cellAt (k * 5 + 1) (by omega)
    have a2 := h2.cellAt (k * 5 + 2) (by omega)
    have a3 := h2.cellAt (k * 5 + 3) (by omega)
    have a4 := h2.cellAt (k * 5 + 4) (by omega)
    rw [mjR_at zs k hk _ (by omega)] at a0 a1 a2 a3 a4
    exact ⟨a0, a1, a2, a3, a4⟩

theorem mjR_set (zs : List MJ) (k : Nat) (m : MJ) (hk : k < zs.length) : ((((((mjR zs).set (k * 5) (.int .i64 m.number)).set (k * 5 + 1) (.string m.node)).set (k * 5 + 2) (m.left)).set (k * 5 + 3) (.int .i64 m.done)).set (k * 5 + 4) (.int .i64 m.state)) = mjR (zs.set k m) := by
  induction zs generalizing k with
  | nil => simp at hk
  | cons z zs ih =>
    have e : mjR (z :: zs) = mjC z ++ mjR zs := rfl
    have hl : (mjC z).length = 5 := rfl
    cases k with
    | zero =>
      rw [e, List.set_cons_zero]
      show _ = mjC m ++ mjR zs
      rfl
    | succ k =>
      rw [e, List.set_cons_succ]
      show _ = mjC z ++ mjR (zs.set k m)
      rw [List.set_append_right _ _ (by omega), List.set_append_right _ _ (by omega), List.set_append_right _ _ (by omega), List.set_append_right _ _ (by omega), List.set_append_right _ _ (by omega), hl,
        show (k + 1) * 5 - 5 = k * 5 by omega, show (k + 1) * 5 + 1 - 5 = k * 5 + 1 by omega, show (k + 1) * 5 + 2 - 5 = k * 5 + 2 by omega, show (k + 1) * 5 + 3 - 5 = k * 5 + 3 by omega, show (k + 1) * 5 + 4 - 5 = k * 5 + 4 by omega, ih k (by simpa using hk)]
theorem gbMJ {w0 w u : World} {r : Option Nat} (h : w0.grownBy w r) (hg : w.grownBy u r) : w0.grownBy u r :=
  ⟨hg.os.trans h.os, hg.tape.trans h.tape, hg.output.trans h.output, Nat.le_trans h.size hg.size, fun k hk hn => (hg.block k (Nat.lt_of_lt_of_le hk h.size) hn).trans (h.block k hk hn)⟩
theorem mj_cells {w : World} {B g cap m : Nat} {zs : List MJ} (h : w.ownsRow B 53 5 (.slice (some ⟨g, 0, none⟩) m cap) m (mjR zs)) (hm : zs.length = m) (k : Nat) (hk : k < zs.length) : ∃ y : MJ, w.cell? ⟨g, k * 5, none⟩ = some (.int .i64 y.number) ∧ w.cell? ⟨g, k * 5 + 1, none⟩ = some (.string y.node) ∧ w.cell? ⟨g, k * 5 + 2, none⟩ = some (y.left) ∧ w.cell? ⟨g, k * 5 + 3, none⟩ = some (.int .i64 y.done) ∧ w.cell? ⟨g, k * 5 + 4, none⟩ = some (.int .i64 y.state) := by
  subst hm
  rcases MJrow.of h with ⟨e, _⟩ | ⟨g2, o, cap2, hv, _, _, hc⟩
  · rw [e] at hk
    simp at hk
  · injection hv with e1
    injection e1 with e2
    obtain ⟨rfl, rfl⟩ : g = g2 ∧ 0 = o := ⟨congrArg Addr.block e2, congrArg Addr.off e2⟩
    have h3 := hc k hk
    simp only [Nat.zero_add] at h3
    exact ⟨zs[k], h3⟩
/-- An element put. -/
theorem own_setMJ {w : World} {B g cap : Nat} {zs : List MJ} (h : w.ownsRow B 53 5 (.slice (some ⟨g, 0, none⟩) zs.length cap) zs.length (mjR zs)) (k : Nat) (hk : k < zs.length) (m : MJ) :
    (((((w.setCell ⟨g, k * 5, none⟩ (.int .i64 m.number)).setCell ⟨g, k * 5 + 1, none⟩ (.string m.node)).setCell ⟨g, k * 5 + 2, none⟩ (m.left)).setCell ⟨g, k * 5 + 3, none⟩ (.int .i64 m.done)).setCell ⟨g, k * 5 + 4, none⟩ (.int .i64 m.state)).ownsRow B 53 5 (.slice (some ⟨g, 0, none⟩) zs.length cap) zs.length (mjR (zs.set k m)) ∧
    w.grownBy (((((w.setCell ⟨g, k * 5, none⟩ (.int .i64 m.number)).setCell ⟨g, k * 5 + 1, none⟩ (.string m.node)).setCell ⟨g, k * 5 + 2, none⟩ (m.left)).setCell ⟨g, k * 5 + 3, none⟩ (.int .i64 m.done)).setCell ⟨g, k * 5 + 4, none⟩ (.int .i64 m.state)) (some g) := by
  have s1 := h.stored (k * 5) (.int .i64 m.number)
  have s2 := s1.1.stored (k * 5 + 1) (.string m.node)
  have s3 := s2.1.stored (k * 5 + 2) (m.left)
  have s4 := s3.1.stored (k * 5 + 3) (.int .i64 m.done)
  have s5 := s4.1.stored (k * 5 + 4) (.int .i64 m.state)
  rw [mjR_set zs k m hk] at s5
  exact ⟨s5.1, (gbMJ (gbMJ (gbMJ (gbMJ s1.2 s2.2) s3.2) s4.2) s5.2)⟩

def mj0 : MJ := ⟨0, ⟨#[]⟩, .slice none 0 0, 0, 0⟩
/-- So many are copied. -/
def mjJ (j : Nat) (zs : List MJ) : List MJ := zs.take j ++ List.replicate (zs.length - j) mj0
theorem mjJ_len (j : Nat) (zs : List MJ) (h : j ≤ zs.length) : (mjJ j zs).length = zs.length := by simp [mjJ]; omega
theorem mjJ_step (j : Nat) (zs : List MJ) (h : j < zs.length) : (mjJ j zs).set j zs[j] = mjJ (j + 1) zs := by
  unfold mjJ
  have hl : (zs.take j).length = j := by rw [List.length_take]; omega
  rw [List.set_append_right _ _ (by omega), hl, Nat.sub_self, show zs.length - j = (zs.length - (j + 1)) + 1 by omega, List.replicate_succ, List.set_cons_zero, List.take_succ_eq_append_getElem h, List.append_assoc]
  rfl
theorem mjJ_all (zs : List MJ) : mjJ zs.length zs = zs := by simp [mjJ]
theorem mjJ_zero (zs : List MJ) : mjJ 0 zs = List.replicate zs.length mj0 := by simp [mjJ]
theorem mj_made (m : Nat) : (madeCells #[.int .i64 0, .string ⟨#[]⟩, .slice none 0 0, .int .i64 0, .int .i64 0] (m * 5)).toList = mjR (List.replicate m mj0) := by
  apply List.ext_getElem?
  intro i
  by_cases hi : i < m * 5
  · have hq : i = i / 5 * 5 + i % 5 := by omega
    have h2 := mjR_at (List.replicate m mj0) (i / 5) (by rw [List.length_replicate]; omega) (i % 5) (by omega)
    rw [← hq] at h2
    rw [h2, List.getElem_replicate]
    have hl : (madeCells #[.int .i64 0, .string ⟨#[]⟩, .slice none 0 0, .int .i64 0, .int .i64 0] (m * 5)).toList.length = m * 5 := by simp [madeCells]
    rw [List.getElem?_eq_getElem (by omega)]
    have : i % 5 < 5 := Nat.mod_lt _ (by omega)
    generalize hr : i % 5 = r at *
    simp only [madeCells, Array.getElem_toList, Array.getElem_map, Array.getElem_range, List.size_toArray, List.length_cons, List.length_nil]
    rw [show i % (0 + 1 + 1 + 1 + 1 + 1) = r by simpa using hr]
    match r, this with
    | 0, _ => rfl
    | 1, _ => rfl
    | 2, _ => rfl
    | 3, _ => rfl
    | 4, _ => rfl
  · rw [List.getElem?_eq_none (by simp [madeCells]; omega), List.getElem?_eq_none (by rw [mjR_len]; simp; omega)]
theorem mj_zero : (Tryz.prog.info? 53).map (fun i => (i.zero, i.size)) = some (some (.agg #[.int .i64 0, .string ⟨#[]⟩, .slice none 0 0, .int .i64 0, .int .i64 0]), 5) := by kernel_rfl
theorem mj_bytes : ∀ i, Tryz.prog.info? 53 = some i → i.bytes ≤ 64 := by
  intro i h
  have e : (Tryz.prog.info? 53).map (fun i => decide (i.bytes ≤ 64)) = some true := by kernel_rfl
  rw [h] at e
  simpa using e
theorem mj_mk (w : World) (m : Nat) (hm : m ≤ 1048576) : (Instr.makeSlice 39 (.int .i64 m) (.int .i64 m)).run Tryz.prog w = .ok (.slice (some ⟨w.heap.size, 0, none⟩) m m) (w.alloc (.cells (mjR (List.replicate m mj0)).toArray 53)) := by
  have h1 := mj_zero
  cases hq : Tryz.prog.info? 53 with
  | none => simp [hq] at h1
  | some i =>
    have hb := mj_bytes i hq
    simp [hq] at h1
    have h3 : i.bytes * m ≤ 64 * 1048576 := Nat.mul_le_mul hb hm
    have hbm : (i.bytes : Int) * (m : Int) ≤ 281474976710656 := by
      rw [← Int.natCast_mul]
      omega
    have hr := run_make (P := Tryz.prog) w 39 53 i _ Tryz.underlying39 hq h1.1 .i64 .i64 m m (by omega) (by omega) hbm (by omega)
    rw [hr, h1.2]
    simp only [Int.toNat_natCast, Value.cells]
    rw [← mj_made]
theorem mj_own0 (w : World) (m : Nat) (hm : m ≤ 1048576) : (w.alloc (.cells (mjR (List.replicate m mj0)).toArray 53)).ownsRow w.heap.size 53 5 (.slice (some ⟨w.heap.size, 0, none⟩) m m) m (mjR (List.replicate m mj0)) := by
  have hl := mjR_len (List.replicate m mj0)
  rw [List.length_replicate] at hl
  refine ⟨hl, .inr ⟨w.heap.size, m, _, rfl, Nat.le_refl _, (MapKept.heap_alloc w _).1, Nat.le_refl _, by unfold maxLen; omega, by simpa using hl, ?_⟩⟩
  rw [← hl]
  simp
end Go.Proofs.YtalpcjclahkgnaaGreat
