import Derived.Test.YtomfbiiegcmmlaaOwnB
import Derived.Deep.QuietTactic
import Derived.BigRegion
import Derived.Deep.RegionHeld3
import Derived.Laws.MakeOwn
namespace Go.Proofs.Ytomfbiiegcmmlaa
open Go.ChangeShapes Go.WideShapes Go.ChangeAt Go.RowKit

structure IG where
  n : ByteArray
  b : ByteArray
  t : Value
  d : Value
  s : Value
def igA (m : IG) : Value := .agg #[.string m.n, .string m.b, m.t, m.d, m.s]
def igC (m : IG) : List Value := [.string m.n, .string m.b, m.t, m.d, m.s]
def igR (zs : List IG) : List Value := zs.flatMap igC
theorem igR_app (xs ys : List IG) : igR (xs ++ ys) = igR xs ++ igR ys := by simp [igR]
theorem igR_len (zs : List IG) : (igR zs).length = zs.length * 5 := by
  induction zs with
  | nil => rfl
  | cons z zs ih =>
    have e : igR (z :: zs) = igC z ++ igR zs := rfl
    rw [e, List.length_append, ih]
    simp [igC]
    omega
theorem igR_at (zs : List IG) (k : Nat) (hk : k < zs.length) (j : Nat) (hj : j < 5) : (igR zs)[k * 5 + j]? = (igC zs[k])[j]? := by
  induction zs generalizing k with
  | nil => simp at hk
  | cons z zs ih =>
    have e : igR (z :: zs) = igC z ++ igR zs := rfl
    have hl : (igC z).length = 5 := rfl
    rw [e]
    cases k with
    | zero =>
      rw [List.getElem?_append_left (by omega)]
      simp
    | succ k =>
      rw [List.getElem?_append_right (by omega), hl, show (k + 1) * 5 + j - 5 = k * 5 + j by omega, ih k (by simpa using hk)]
      simp
theorem ig_sl {w : World} {B n : Nat} {v : Value} {xs : List Value} (h : w.ownsRow B 57 5 v n xs) : ∃ ao cap, v = .slice ao n cap := by
  rcases h.2 with ⟨rfl, e⟩ | ⟨g, cap, cur, rfl, _⟩
  · exact ⟨none, 0, by rw [e]⟩
  · exact ⟨_, cap, rfl⟩
theorem ig_below {w w' : World} {B n : Nat} {v : Value} {xs : List Value} (h : w.ownsRow B 57 5 v n xs) (hb : Below w.heap.size w w') : w'.ownsRow B 57 5 v n xs :=
  h.kept (row := none) ⟨hb.os, hb.tape, hb.output, hb.size, fun k hk _ => hb.block k hk⟩ (by cases v.ownBlock <;> simp)
theorem ig_weak {w : World} {B B' : Nat} {v : Value} {n : Nat} {xs : List Value} (h : w.ownsRow B 57 5 v n xs) (hb : B' ≤ B) : w.ownsRow B' 57 5 v n xs := by
  obtain ⟨hl, h | ⟨g, cap, cur, hv, hg, h1, h2, h3, h4, h5⟩⟩ := h
  · exact ⟨hl, .inl h⟩
  · exact ⟨hl, .inr ⟨g, cap, cur, hv, Nat.le_trans hb hg, h1, h2, h3, h4, h5⟩⟩
theorem ig_cast {w : World} {B n n' : Nat} {v : Value} {xs xs' : List Value} (h : w.ownsRow B 57 5 v n xs) (hn : n = n') (hx : xs = xs') : w.ownsRow B 57 5 v n' xs' := by
  subst hn
  subst hx
  exact h
/-- Where a row lies. -/
def IGat (w : World) (g o : Nat) (zs : List IG) : Prop := ∀ (k : Nat) (hk : k < zs.length), w.cell? ⟨g, o + k * 5, none⟩ = some (.string zs[k].n) ∧ w.cell? ⟨g, o + k * 5 + 1, none⟩ = some (.string zs[k].b) ∧ w.cell? ⟨g, o + k * 5 + 2, none⟩ = some (zs[k].t) ∧ w.cell? ⟨g, o + k * 5 + 3, none⟩ = some (zs[k].d) ∧ w.cell? ⟨g, o + k * 5 + 4, none⟩ = some (zs[k].s)
/-- A row that may be read. -/
def IGrow (w : World) (v : Value) (zs : List IG) : Prop := (zs = [] ∧ ∃ ao cap, v = .slice ao 0 cap) ∨ ∃ g o cap, v = .slice (some ⟨g, o, none⟩) zs.length cap ∧ zs.length ≤ cap ∧ g < w.heap.size ∧ IGat w g o zs
theorem IGat.below {w w' : World} {g o : Nat} {zs : List IG} (h : IGat w g o zs) {B : Nat} (hb : Below B w w') (hg : g < B) : IGat w' g o zs := by
  intro k hk
  have h2 := h k hk
  have e : ∀ x, w'.cell? ⟨g, x, none⟩ = w.cell? ⟨g, x, none⟩ := fun x => World.cell?_of_block (hb.block g hg)
  simp only [e]
  exact h2
theorem IGrow.below {w w' : World} {v : Value} {zs : List IG} (h : IGrow w v zs) (hb : Below w.heap.size w w') : IGrow w' v zs := by
  rcases h with h | ⟨g, o, cap, hv, hc, hg, ha⟩
  · exact .inl h
  · exact .inr ⟨g, o, cap, hv, hc, Nat.lt_of_lt_of_le hg hb.size, ha.below hb hg⟩
theorem IGrow.sl {w : World} {v : Value} {zs : List IG} (h : IGrow w v zs) : ∃ ao cap, v = .slice ao zs.length cap := by
  rcases h with ⟨rfl, ao, cap, rfl⟩ | ⟨g, o, cap, rfl, _⟩
  · exact ⟨_, _, rfl⟩
  · exact ⟨_, _, rfl⟩
theorem IGrow.of {w : World} {B : Nat} {v : Value} {zs : List IG} (h : w.ownsRow B 57 5 v zs.length (igR zs)) : IGrow w v zs := by
  rcases h.2 with ⟨rfl, e⟩ | ⟨g, cap, cur, rfl, hB, hg, hc, rest⟩
  · exact .inl ⟨List.length_eq_zero_iff.1 e, _, _, by rfl⟩
  · have h2 : w.ownsRow B 57 5 (.slice (some ⟨g, 0, none⟩) zs.length cap) zs.length (igR zs) := h
    refine .inr ⟨g, 0, cap, rfl, hc, (Array.getElem?_eq_some_iff.1 hg).1, fun k hk => ?_⟩
    simp only [Nat.zero_add]
    have a0 := h2.cellAt (k * 5 + 0) (by omega)
    have a1 := h2.cellAt (k * 5 + 1) (by omega)
    have a2 := h2.cellAt (k * 5 + 2) (by omega)
    have a3 := h2.cellAt (k * 5 + 3) (by omega)
    have a4 := h2.cellAt (k * 5 + 4) (by omega)
    rw [igR_at zs k hk _ (by omega)] at a0 a1 a2 a3 a4
    exact ⟨a0, a1, a2, a3, a4⟩

theorem igR_set (zs : List IG) (k : Nat) (m : IG) (hk : k < zs.length) : ((((((igR zs).set (k * 5) (.string m.n)).set (k * 5 + 1) (.string m.b)).set (k * 5 + 2) (m.t)).set (k * 5 + 3) (m.d)).set (k * 5 + 4) (m.s)) = igR (zs.set k m) := by
  induction zs generalizing k with
  | nil => simp at hk
  | cons z zs ih =>
    have e : igR (z :: zs) = igC z ++ igR zs := rfl
    have hl : (igC z).length = 5 := rfl
    cases k with
    | zero =>
      rw [e, List.set_cons_zero]
      show _ = igC m ++ igR zs
      rfl
    | succ k =>
      rw [e, List.set_cons_succ]
      show _ = igC z ++ igR (zs.set k m)
      rw [List.set_append_right _ _ (by omega), List.set_append_right _ _ (by omega), List.set_append_right _ _ (by omega), List.set_append_right _ _ (by omega), List.set_append_right _ _ (by omega), hl,
        show (k + 1) * 5 - 5 = k * 5 by omega, show (k + 1) * 5 + 1 - 5 = k * 5 + 1 by omega, show (k + 1) * 5 + 2 - 5 = k * 5 + 2 by omega, show (k + 1) * 5 + 3 - 5 = k * 5 + 3 by omega, show (k + 1) * 5 + 4 - 5 = k * 5 + 4 by omega, ih k (by simpa using hk)]
theorem gbIG {w0 w u : World} {r : Option Nat} (h : w0.grownBy w r) (hg : w.grownBy u r) : w0.grownBy u r :=
  ⟨hg.os.trans h.os, hg.tape.trans h.tape, hg.output.trans h.output, Nat.le_trans h.size hg.size, fun k hk hn => (hg.block k (Nat.lt_of_lt_of_le hk h.size) hn).trans (h.block k hk hn)⟩
theorem ig_cells {w : World} {B g cap m : Nat} {zs : List IG} (h : w.ownsRow B 57 5 (.slice (some ⟨g, 0, none⟩) m cap) m (igR zs)) (hm : zs.length = m) (k : Nat) (hk : k < zs.length) : ∃ y : IG, w.cell? ⟨g, k * 5, none⟩ = some (.string y.n) ∧ w.cell? ⟨g, k * 5 + 1, none⟩ = some (.string y.b) ∧ w.cell? ⟨g, k * 5 + 2, none⟩ = some (y.t) ∧ w.cell? ⟨g, k * 5 + 3, none⟩ = some (y.d) ∧ w.cell? ⟨g, k * 5 + 4, none⟩ = some (y.s) := by
  subst hm
  rcases IGrow.of h with ⟨e, _⟩ | ⟨g2, o, cap2, hv, _, _, hc⟩
  · rw [e] at hk
    simp at hk
  · injection hv with e1
    injection e1 with e2
    obtain ⟨rfl, rfl⟩ : g = g2 ∧ 0 = o := ⟨congrArg Addr.block e2, congrArg Addr.off e2⟩
    have h3 := hc k hk
    simp only [Nat.zero_add] at h3
    exact ⟨zs[k], h3⟩
/-- An element put. -/
theorem own_setIG {w : World} {B g cap : Nat} {zs : List IG} (h : w.ownsRow B 57 5 (.slice (some ⟨g, 0, none⟩) zs.length cap) zs.length (igR zs)) (k : Nat) (hk : k < zs.length) (m : IG) :
    (((((w.setCell ⟨g, k * 5, none⟩ (.string m.n)).setCell ⟨g, k * 5 + 1, none⟩ (.string m.b)).setCell ⟨g, k * 5 + 2, none⟩ (m.t)).setCell ⟨g, k * 5 + 3, none⟩ (m.d)).setCell ⟨g, k * 5 + 4, none⟩ (m.s)).ownsRow B 57 5 (.slice (some ⟨g, 0, none⟩) zs.length cap) zs.length (igR (zs.set k m)) ∧
    w.grownBy (((((w.setCell ⟨g, k * 5, none⟩ (.string m.n)).setCell ⟨g, k * 5 + 1, none⟩ (.string m.b)).setCell ⟨g, k * 5 + 2, none⟩ (m.t)).setCell ⟨g, k * 5 + 3, none⟩ (m.d)).setCell ⟨g, k * 5 + 4, none⟩ (m.s)) (some g) := by
  have s1 := h.stored (k * 5) (.string m.n)
  have s2 := s1.1.stored (k * 5 + 1) (.string m.b)
  have s3 := s2.1.stored (k * 5 + 2) (m.t)
  have s4 := s3.1.stored (k * 5 + 3) (m.d)
  have s5 := s4.1.stored (k * 5 + 4) (m.s)
  rw [igR_set zs k m hk] at s5
  exact ⟨s5.1, (gbIG (gbIG (gbIG (gbIG s1.2 s2.2) s3.2) s4.2) s5.2)⟩

def ig0 : IG := ⟨⟨#[]⟩, ⟨#[]⟩, .slice none 0 0, .slice none 0 0, .slice none 0 0⟩
/-- So many are copied. -/
def igJ (j : Nat) (zs : List IG) : List IG := zs.take j ++ List.replicate (zs.length - j) ig0
theorem igJ_len (j : Nat) (zs : List IG) (h : j ≤ zs.length) : (igJ j zs).length = zs.length := by simp [igJ]; omega
theorem igJ_step (j : Nat) (zs : List IG) (h : j < zs.length) : (igJ j zs).set j zs[j] = igJ (j + 1) zs := by
  unfold igJ
  have hl : (zs.take j).length = j := by rw [List.length_take]; omega
  rw [List.set_append_right _ _ (by omega), hl, Nat.sub_self, show zs.length - j = (zs.length - (j + 1)) + 1 by omega, List.replicate_succ, List.set_cons_zero, List.take_succ_eq_append_getElem h, List.append_assoc]
  rfl
theorem igJ_all (zs : List IG) : igJ zs.length zs = zs := by simp [igJ]
theorem igJ_zero (zs : List IG) : igJ 0 zs = List.replicate zs.length ig0 := by simp [igJ]
theorem ig_made (m : Nat) : (madeCells #[.string ⟨#[]⟩, .string ⟨#[]⟩, .slice none 0 0, .slice none 0 0, .slice none 0 0] (m * 5)).toList = igR (List.replicate m ig0) := by
  apply List.ext_getElem?
  intro i
  by_cases hi : i < m * 5
  · have hq : i = i / 5 * 5 + i % 5 := by omega
    have h2 := igR_at (List.replicate m ig0) (i / 5) (by rw [List.length_replicate]; omega) (i % 5) (by omega)
    rw [← hq] at h2
    rw [h2, List.getElem_replicate]
    have hl : (madeCells #[.string ⟨#[]⟩, .string ⟨#[]⟩, .slice none 0 0, .slice none 0 0, .slice none 0 0] (m * 5)).toList.length = m * 5 := by simp [madeCells]
    rw [List.getElem?_eq_getElem (by omega)]
    have : i % 5 < 5 := Nat.mod_lt _ (by omega)
    generalize hr : i % 5 = r at *
    simp only [madeCells, Array.getElem_toList, Array.getElem_map, Array.getElem_range, List.size_toArray, List.length_cons, List.length_nil]
    rw [show i % (0 + 1 + 1 + 1 + 1 + 1) = r by simpa using hr]
    match r, this with
    | 0, _ => rfl
    | 1, _ => rfl
    | 2, _ => rfl
    | 3, _ => rfl
    | 4, _ => rfl
  · rw [List.getElem?_eq_none (by simp [madeCells]; omega), List.getElem?_eq_none (by rw [igR_len]; simp; omega)]
theorem ig_zero : (Try.prog.info? 57).map (fun i => (i.zero, i.size)) = some (some (.agg #[.string ⟨#[]⟩, .string ⟨#[]⟩, .slice none 0 0, .slice none 0 0, .slice none 0 0]), 5) := by kernel_rfl
theorem ig_bytes : ∀ i, Try.prog.info? 57 = some i → i.bytes ≤ 104 := by
  intro i h
  have e : (Try.prog.info? 57).map (fun i => decide (i.bytes ≤ 104)) = some true := by kernel_rfl
  rw [h] at e
  simpa using e
theorem ig_mk (w : World) (m : Nat) (hm : m ≤ 1048576) : (Instr.makeSlice 27 (.int .i64 m) (.int .i64 m)).run Try.prog w = .ok (.slice (some ⟨w.heap.size, 0, none⟩) m m) (w.alloc (.cells (igR (List.replicate m ig0)).toArray 57)) := by
  have h1 := ig_zero
  cases hq : Try.prog.info? 57 with
  | none => simp [hq] at h1
  | some i =>
    have hb := ig_bytes i hq
    simp [hq] at h1
    have h3 : i.bytes * m ≤ 104 * 1048576 := Nat.mul_le_mul hb hm
    have hbm : (i.bytes : Int) * (m : Int) ≤ 281474976710656 := by
      rw [← Int.natCast_mul]
      omega
    have hr := run_make (P := Try.prog) w 27 57 i _ Try.underlying27 hq h1.1 .i64 .i64 m m (by omega) (by omega) hbm (by omega)
    rw [hr, h1.2]
    simp only [Int.toNat_natCast, Value.cells]
    rw [← ig_made]
theorem ig_own0 (w : World) (m : Nat) (hm : m ≤ 1048576) : (w.alloc (.cells (igR (List.replicate m ig0)).toArray 57)).ownsRow w.heap.size 57 5 (.slice (some ⟨w.heap.size, 0, none⟩) m m) m (igR (List.replicate m ig0)) := by
  have hl := igR_len (List.replicate m ig0)
  rw [List.length_replicate] at hl
  refine ⟨hl, .inr ⟨w.heap.size, m, _, rfl, Nat.le_refl _, (MapKept.heap_alloc w _).1, Nat.le_refl _, by unfold maxLen; omega, by simpa using hl, ?_⟩⟩
  rw [← hl]
  simp
end Go.Proofs.Ytomfbiiegcmmlaa
