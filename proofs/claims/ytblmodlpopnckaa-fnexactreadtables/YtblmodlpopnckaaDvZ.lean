import Derived.Test.YtblmodlpopnckaaOwnB
import Derived.Deep.QuietTactic
import Derived.BigRegion
import Derived.Deep.RegionHeld3
import Derived.Laws.MakeOwn
import Derived.Deep.Slices
import Derived.Test.YtblmodlpopnckaaNe0
import Derived.Test.YtblmodlpopnckaaLG
import Derived.BigQuiet
import Derived.Deep.DeepCutAuto
import Derived.Test.YtblmodlpopnckaaHl
import Derived.Deep.CutRange
import Derived.Deep.RegionWith
import Derived.Test.YtblmodlpopnckaaKw1
import Derived.Test.YtblmodlpopnckaaRowFZ
namespace Go.Proofs.Ytblmodlpopnckaa
open Go.ChangeShapes Go.WideShapes Go.ChangeAt Go.RowKit

structure DV where
  kind : Int
  port : Int
  line : Int
def dvA (m : DV) : Value := .agg #[.int .i64 m.kind, .int .i64 m.port, .int .i64 m.line]
def dvC (m : DV) : List Value := [.int .i64 m.kind, .int .i64 m.port, .int .i64 m.line]
def dvR (zs : List DV) : List Value := zs.flatMap dvC
theorem dvR_app (xs ys : List DV) : dvR (xs ++ ys) = dvR xs ++ dvR ys := by simp [dvR]
theorem dvR_len (zs : List DV) : (dvR zs).length = zs.length * 3 := by
  induction zs with
  | nil => rfl
  | cons z zs ih =>
    have e : dvR (z :: zs) = dvC z ++ dvR zs := rfl
    rw [e, List.length_append, ih]
    simp [dvC]
    omega
theorem dvR_at (zs : List DV) (k : Nat) (hk : k < zs.length) (j : Nat) (hj : j < 3) : (dvR zs)[k * 3 + j]? = (dvC zs[k])[j]? := by
  induction zs generalizing k with
  | nil => simp at hk
  | cons z zs ih =>
    have e : dvR (z :: zs) = dvC z ++ dvR zs := rfl
    have hl : (dvC z).length = 3 := rfl
    rw [e]
    cases k with
    | zero =>
      rw [List.getElem?_append_left (by omega)]
      simp
    | succ k =>
      rw [List.getElem?_append_right (by omega), hl, show (k + 1) * 3 + j - 3 = k * 3 + j by omega, ih k (by simpa using hk)]
      simp
/-- Where a row lies. -/
def DVat (w : World) (g o : Nat) (zs : List DV) : Prop := ∀ (k : Nat) (hk : k < zs.length), w.cell? ⟨g, o + k * 3, none⟩ = some (.int .i64 zs[k].kind) ∧ w.cell? ⟨g, o + k * 3 + 1, none⟩ = some (.int .i64 zs[k].port) ∧ w.cell? ⟨g, o + k * 3 + 2, none⟩ = some (.int .i64 zs[k].line)
/-- A row that may be read. -/
def DVrow (w : World) (v : Value) (zs : List DV) : Prop := (zs = [] ∧ ∃ ao cap, v = .slice ao 0 cap) ∨ ∃ g o cap, v = .slice (some ⟨g, o, none⟩) zs.length cap ∧ zs.length ≤ cap ∧ g < w.heap.size ∧ DVat w g o zs
theorem DVat.below {w w' : World} {g o : Nat} {zs : List DV} (h : DVat w g o zs) {B : Nat} (hb : Below B w w') (hg : g < B) : DVat w' g o zs := by
  intro k hk
  have h2 := h k hk
  have e : ∀ x, w'.cell? ⟨g, x, none⟩ = w.cell? ⟨g, x, none⟩ := fun x => World.cell?_of_block (hb.block g hg)
  simp only [e]
  exact h2
theorem DVrow.below {w w' : World} {v : Value} {zs : List DV} (h : DVrow w v zs) (hb : Below w.heap.size w w') : DVrow w' v zs := by
  rcases h with h | ⟨g, o, cap, hv, hc, hg, ha⟩
  · exact .inl h
  · exact .inr ⟨g, o, cap, hv, hc, Nat.lt_of_lt_of_le hg hb.size, ha.below hb hg⟩
theorem DVrow.sl {w : World} {v : Value} {zs : List DV} (h : DVrow w v zs) : ∃ ao cap, v = .slice ao zs.length cap := by
  rcases h with ⟨rfl, ao, cap, rfl⟩ | ⟨g, o, cap, rfl, _⟩
  · exact ⟨_, _, rfl⟩
  · exact ⟨_, _, rfl⟩

theorem dvR_set (zs : List DV) (k : Nat) (m : DV) (hk : k < zs.length) : ((((dvR zs).set (k * 3) (.int .i64 m.kind)).set (k * 3 + 1) (.int .i64 m.port)).set (k * 3 + 2) (.int .i64 m.line)) = dvR (zs.set k m) := by
  induction zs generalizing k with
  | nil => simp at hk
  | cons z zs ih =>
    have e : dvR (z :: zs) = dvC z ++ dvR zs := rfl
    have hl : (dvC z).length = 3 := rfl
    cases k with
    | zero =>
      rw [e, List.set_cons_zero]
      show _ = dvC m ++ dvR zs
      rfl
    | succ k =>
      rw [e, List.set_cons_succ]
      show _ = dvC z ++ dvR (zs.set k m)
      rw [List.set_append_right _ _ (by omega), List.set_append_right _ _ (by omega), List.set_append_right _ _ (by omega), hl,
        show (k + 1) * 3 - 3 = k * 3 by omega, show (k + 1) * 3 + 1 - 3 = k * 3 + 1 by omega, show (k + 1) * 3 + 2 - 3 = k * 3 + 2 by omega, ih k (by simpa using hk)]
theorem gbDV {w0 w u : World} {r : Option Nat} (h : w0.grownBy w r) (hg : w.grownBy u r) : w0.grownBy u r :=
  ⟨hg.os.trans h.os, hg.tape.trans h.tape, hg.output.trans h.output, Nat.le_trans h.size hg.size, fun k hk hn => (hg.block k (Nat.lt_of_lt_of_le hk h.size) hn).trans (h.block k hk hn)⟩

def dv0 : DV := ⟨0, 0, 0⟩
/-- So many are copied. -/
def dvJ (j : Nat) (zs : List DV) : List DV := zs.take j ++ List.replicate (zs.length - j) dv0
theorem dvJ_len (j : Nat) (zs : List DV) (h : j ≤ zs.length) : (dvJ j zs).length = zs.length := by simp [dvJ]; omega
theorem dvJ_step (j : Nat) (zs : List DV) (h : j < zs.length) : (dvJ j zs).set j zs[j] = dvJ (j + 1) zs := by
  unfold dvJ
  have hl : (zs.take j).length = j := by rw [List.length_take]; omega
  rw [List.set_append_right _ _ (by omega), hl, Nat.sub_self, show zs.length - j = (zs.length - (j + 1)) + 1 by omega, List.replicate_succ, List.set_cons_zero, List.take_succ_eq_append_getElem h, List.append_assoc]
  rfl
theorem dvJ_all (zs : List DV) : dvJ zs.length zs = zs := by simp [dvJ]
theorem dvJ_zero (zs : List DV) : dvJ 0 zs = List.replicate zs.length dv0 := by simp [dvJ]
theorem dv_made (m : Nat) : (madeCells #[.int .i64 0, .int .i64 0, .int .i64 0] (m * 3)).toList = dvR (List.replicate m dv0) := by
  apply List.ext_getElem?
  intro i
  by_cases hi : i < m * 3
  · have hq : i = i / 3 * 3 + i % 3 := by omega
    have h2 := dvR_at (List.replicate m dv0) (i / 3) (by rw [List.length_replicate]; omega) (i % 3) (by omega)
    rw [← hq] at h2
    rw [h2, List.getElem_replicate]
    have hl : (madeCells #[.int .i64 0, .int .i64 0, .int .i64 0] (m * 3)).toList.length = m * 3 := by simp [madeCells]
    rw [List.getElem?_eq_getElem (by omega)]
    have : i % 3 < 3 := Nat.mod_lt _ (by omega)
    generalize hr : i % 3 = r at *
    simp only [madeCells, Array.getElem_toList, Array.getElem_map, Array.getElem_range, List.size_toArray, List.length_cons, List.length_nil]
    rw [show i % (0 + 1 + 1 + 1) = r by simpa using hr]
    match r, this with
    | 0, _ => rfl
    | 1, _ => rfl
    | 2, _ => rfl
  · rw [List.getElem?_eq_none (by simp [madeCells]; omega), List.getElem?_eq_none (by rw [dvR_len]; simp; omega)]

theorem ciDV : Try.prog.cellsOf 2 = 1 := by kernel_rfl
theorem listDV {α : Type} {cs : List α} (h : cs.length = 3) : ∃ x0 x1 x2, cs = [x0, x1, x2] := by
  match cs, h with
  | [x0, x1, x2], _ => exact ⟨x0, x1, x2, rfl⟩
instance : Inhabited DV := ⟨dv0⟩

structure BD where
  frames : Int
  cpus : Int
  ds : List DV
structure BDA where
  vds : Value
def bdC (s : BD) (a : BDA) : Array Value := #[.int .i64 s.frames, .int .i64 s.cpus, a.vds]
def bdA (s : BD) (a : BDA) : Value := .agg (bdC s a)
structure BDRows (w : World) (s : BD) (a : BDA) : Prop where
  rds : DVrow w a.vds s.ds
theorem BDRows.below {w w' : World} {s : BD} {a : BDA} (h : BDRows w s a) (hb : Below w.heap.size w w') : BDRows w' s a := ⟨h.rds.below hb⟩
theorem BDRows.sl {w : World} {s : BD} {a : BDA} (h : BDRows w s a) : ∃ ads kds, a = ⟨.slice ads s.ds.length kds⟩ := by
  obtain ⟨ads, kds, eds⟩ := h.rds.sl
  refine ⟨ads, kds, ?_⟩
  rw [← eds]
structure BDlen (s : BD) : Prop where
  lds : s.ds.length ≤ 1048576
structure BDmax (s : BD) : Prop where
  lds : s.ds.length ≤ maxLen

/-- A device is right. -/
def dvB (z : DV) : Bool := (decide (1 ≤ z.kind) && decide (z.kind ≤ 255) && decide (0 ≤ z.port) && decide (z.port ≤ 2047) && decide (0 ≤ z.line) && decide (z.line < 7))
def allD (p : Nat → Bool) (k : Nat) : Bool := (List.range k).all p
theorem allD_succ (p : Nat → Bool) (k : Nat) : allD p (k + 1) = (allD p k && p k) := by simp [allD, List.range_succ]
theorem allD_bad {p : Nat → Bool} {k m : Nat} (hk : k < m) (h : p k = false) : allD p m = false := by
  unfold allD
  rw [List.all_eq_false]
  exact ⟨k, List.mem_range.2 hk, by rw [h]; decide⟩
theorem allD_iff {p : Nat → Bool} {m : Nat} : allD p m = true ↔ ∀ k, k < m → p k = true := by
  unfold allD
  rw [List.all_eq_true]
  exact ⟨fun h k hk => h k (List.mem_range.2 hk), fun h k hk => h k (List.mem_range.1 hk)⟩
def dDV : DV := ⟨0, 0, 0⟩
def dvk (zs : List DV) (j : Nat) : Bool := dvB (zs.getD j dDV) && (decide (j = 0) || decide ((zs.getD (j - 1) dDV).port < (zs.getD j dDV).port))
def dsB (zs : List DV) : Bool := decide ((zs.length : Int) ≤ 16) && allD (dvk zs) zs.length
def bfB (f c : Int) (zs : List DV) : Bool := decide (2 ≤ f) && decide (f ≤ 256) && decide (1 ≤ c) && decide (c ≤ 8) && dsB zs
def bfV (f c : Int) (zs : List DV) : Int := if bfB f c zs = true then 0 else 1
theorem dvk_0 {zs : List DV} (h : 0 < zs.length) : dvk zs 0 = dvB zs[0] := by simp [dvk, List.getD, List.getElem?_eq_getElem h]
theorem dvk_s {zs : List DV} {k : Nat} (h : k + 1 < zs.length) : dvk zs (k + 1) = (dvB zs[k + 1] && decide (zs[k].port < zs[k + 1].port)) := by
  simp [dvk, List.getD, List.getElem?_eq_getElem h, List.getElem?_eq_getElem (show k < zs.length by omega)]
theorem dsB_long {zs : List DV} (h : 16 < (zs.length : Int)) : dsB zs = false := by
  have e : decide ((zs.length : Int) ≤ 16) = false := decide_eq_false (by omega)
  unfold dsB
  rw [e]
  rfl
theorem dsB_short {zs : List DV} (h : ¬ 16 < (zs.length : Int)) : dsB zs = allD (dvk zs) zs.length := by
  have e : decide ((zs.length : Int) ≤ 16) = true := decide_eq_true (by omega)
  unfold dsB
  rw [e]
  rfl



/-- A device's word. -/
def dwW (z : DV) : Int := z.kind * 16777216 + z.line * 65536 + z.port
def nmM : ByteArray := ⟨#[77, 69, 77, 79]⟩
def nmC : ByteArray := ⟨#[67, 80, 85, 83]⟩
def nmD : ByteArray := ⟨#[68, 69, 86, 83]⟩
def tbL (f c : Int) (zs : List DV) : List FT := [⟨nmM, 1, pwT [f]⟩, ⟨nmC, 1, pwT [c]⟩, ⟨nmD, 1, pwT (zs.map dwW)⟩]
def tbV (f c : Int) (zs : List DV) : List FT := if bfB f c zs = true then tbL f c zs else []
theorem dv_b {z : DV} (h : dvB z = true) : 1 ≤ z.kind ∧ z.kind ≤ 255 ∧ 0 ≤ z.port ∧ z.port ≤ 2047 ∧ 0 ≤ z.line ∧ z.line < 7 := by
  unfold dvB at h
  simp only [Bool.and_eq_true, decide_eq_true_eq] at h
  omega
theorem bf_ds {f c : Int} {zs : List DV} (h : bfB f c zs = true) : dsB zs = true := by
  unfold bfB at h
  simp only [Bool.and_eq_true] at h
  exact h.2
theorem bf_len {f c : Int} {zs : List DV} (h : bfB f c zs = true) : zs.length ≤ 16 := by
  have h2 := bf_ds h
  unfold dsB at h2
  rw [Bool.and_eq_true] at h2
  have := of_decide_eq_true h2.1
  omega
theorem bf_dv {f c : Int} {zs : List DV} (h : bfB f c zs = true) (k : Nat) (hk : k < zs.length) : dvB zs[k] = true := by
  have h2 := bf_ds h
  unfold dsB at h2
  rw [Bool.and_eq_true] at h2
  have h3 := allD_iff.1 h2.2 k hk
  unfold dvk at h3
  rw [Bool.and_eq_true] at h3
  have h4 := h3.1
  simp only [List.getD, List.getElem?_eq_getElem hk, Option.getD_some] at h4
  exact h4
theorem pwT_one (f : Int) : pwT [f] = pw f := ba_of _ _ (by simp [pwL, catB])
theorem tbV_len (f c : Int) (zs : List DV) : (tbV f c zs).length ≤ 3 := by
  unfold tbV
  split <;> simp [tbL]
theorem tb_map (zs : List DV) (k : Nat) (hk : k < zs.length) : (zs.map dwW).take (k + 1) = (zs.map dwW).take k ++ [dwW zs[k]] := by
  rw [List.take_succ_eq_append_getElem (by simpa using hk)]
  simp
theorem ft_three (u : World) (x y z : FT) (B : Nat) (hB : B ≤ u.heap.size) : (u.alloc (.cells #[.string x.name, .int .i64 x.rev, .string x.body, .string y.name, .int .i64 y.rev, .string y.body, .string z.name, .int .i64 z.rev, .string z.body] 40)).ownsRow B 40 3 (.slice (some ⟨u.heap.size, 0, none⟩) 3 3) 3 (ftR [x, y, z]) := by
  refine ⟨by simp [ftR, ftC], .inr ⟨u.heap.size, 3, _, rfl, hB, heap_new _ _, Nat.le_refl _, by unfold maxLen; omega, rfl, ?_⟩⟩
  simp [ftR, ftC]
/-- One number more. -/
theorem appN {w : World} {lo n : Nat} {v : Value} {ys : List Int} (h : w.ownsRow lo 2 1 v n (iR ys)) (hn : n ≤ 1048576) (hlo : lo ≤ w.heap.size) (x : Int) : ∃ v' u', (Builtin.append_ #[44, 44] 44 #[v, .slice (some ⟨w.heap.size, 0, none⟩) 1 1]).run Try.prog (w.alloc (.cells #[.int .i64 x] 2)) = .ok v' u' ∧ (u'.ownsRow lo 2 1 v' (n + 1) (iR (ys ++ [x])) ∧ (w.alloc (.cells #[.int .i64 x] 2)).grownBy u' v.ownBlock) := by
  obtain ⟨i0, hi0, hz0, hz1, hz2⟩ := info_parts Try.info2
  have hc1 := (LG.new w #[.int .i64 x] 2).cel 0 _ rfl
  obtain ⟨v', w', hr, h2, h3, _⟩ := run_append_own (P := Try.prog) (w.alloc (.cells #[.int .i64 x] 2)) lo 44 44 2 i0 (.int .i64 0) 1 8 Try.underlying44 hi0 hz0 hz1 hz2 rfl (by decide) v n (iR ys) (h.alloc _) ⟨w.heap.size, 0, none⟩ 1 1 [.int .i64 x] rfl (fun j u hj => by
    match j, hj with
    | 0, hj => obtain rfl := Option.some.inj hj; exact hc1
    | j + 1, hj => simp at hj) (fun u hu => by
    simp at hu
    rcases hu with rfl <;> rfl) (by unfold maxLen; omega) (by omega) (by simp; omega)
  have e : iR ys ++ [.int .i64 x] = iR (ys ++ [x]) := by simp [iR]
  rw [e] at h2
  exact ⟨v', w', hr, h2, h3⟩
theorem i_one (u : World) (x : Int) : Irow (u.alloc (.cells #[.int .i64 x] 2)) (.slice (some ⟨u.heap.size, 0, none⟩) 1 1) [x] := by
  refine .inr ⟨u.heap.size, 0, 1, rfl, Nat.le_refl _, by simp, fun k hk => ?_⟩
  have : k = 0 := by simpa using hk
  subst this
  exact (LG.new u #[.int .i64 x] 2).cel 0 _ rfl

theorem held_two21 {P : Program} {md : Region.Mode} {ops : Array Oper} {Q : Exit → Act → World → Prop} {S : World → Prop} {fuel : Nat} {listed : Array Bool} {a : Act} {w : World} (i j : Nat) {o o2 : Oper} (hr : Region.ready md ops listed = [i, j]) (ho : ops[i]? = some o) (ho2 : ops[j]? = some o2)
    (hw : Region.wanted o (yielded ops a.tmps) = true) (hw2 : Region.wanted o2 (yielded ops a.tmps) = true) (h : ∀ K : Act → World → Prop, (∀ a' w', S w' → wpAnyH P md ops Q S fuel (listed.setIfInBounds i true) a' w' → K a' w') → o.wp P a w K Q) (h2 : ∀ K : Act → World → Prop, (∀ a' w', S w' → wpAnyH P md ops Q S fuel (listed.setIfInBounds j true) a' w' → K a' w') → o2.wp P a w K Q) : wpAnyH P md ops Q S (fuel + 1) listed a w :=
  wpAnyH_all hr (by simp) (all_two (held_step ho hw h) (held_step ho2 hw2 h2))

end Go.Proofs.Ytblmodlpopnckaa
