import Derived.Test.YtalpcjclahkgnaaGreatOwnB
import Derived.Deep.QuietTactic
import Derived.BigRegion
import Derived.Deep.RegionHeld3
import Derived.Laws.MakeOwn
import Derived.Deep.Slices
namespace Go.Proofs.YtalpcjclahkgnaaGreat
open Go.ChangeShapes Go.WideShapes Go.ChangeAt Go.RowKit

structure ANS where
  id : Int
  ask : ByteArray
  reply : ByteArray
def ansA (m : ANS) : Value := .agg #[.int .i64 m.id, .string m.ask, .string m.reply]
def ansC (m : ANS) : List Value := [.int .i64 m.id, .string m.ask, .string m.reply]
def ansR (zs : List ANS) : List Value := zs.flatMap ansC
theorem ansR_app (xs ys : List ANS) : ansR (xs ++ ys) = ansR xs ++ ansR ys := by simp [ansR]
theorem ansR_len (zs : List ANS) : (ansR zs).length = zs.length * 3 := by
  induction zs with
  | nil => rfl
  | cons z zs ih =>
    have e : ansR (z :: zs) = ansC z ++ ansR zs := rfl
    rw [e, List.length_append, ih]
    simp [ansC]
    omega
theorem ansR_at (zs : List ANS) (k : Nat) (hk : k < zs.length) (j : Nat) (hj : j < 3) : (ansR zs)[k * 3 + j]? = (ansC zs[k])[j]? := by
  induction zs generalizing k with
  | nil => simp at hk
  | cons z zs ih =>
    have e : ansR (z :: zs) = ansC z ++ ansR zs := rfl
    have hl : (ansC z).length = 3 := rfl
    rw [e]
    cases k with
    | zero =>
      rw [List.getElem?_append_left (by omega)]
      simp
    | succ k =>
      rw [List.getElem?_append_right (by omega), hl, show (k + 1) * 3 + j - 3 = k * 3 + j by omega, ih k (by simpa using hk)]
      simp
theorem ans_sl {w : World} {B n : Nat} {v : Value} {xs : List Value} (h : w.ownsRow B 50 3 v n xs) : ∃ ao cap, v = .slice ao n cap := by
  rcases h.2 with ⟨rfl, e⟩ | ⟨g, cap, cur, rfl, _⟩
  · exact ⟨none, 0, by rw [e]⟩
  · exact ⟨_, cap, rfl⟩
theorem ans_below {w w' : World} {B n : Nat} {v : Value} {xs : List Value} (h : w.ownsRow B 50 3 v n xs) (hb : Below w.heap.size w w') : w'.ownsRow B 50 3 v n xs :=
  h.kept (row := none) ⟨hb.os, hb.tape, hb.output, hb.size, fun k hk _ => hb.block k hk⟩ (by cases v.ownBlock <;> simp)
theorem ans_weak {w : World} {B B' : Nat} {v : Value} {n : Nat} {xs : List Value} (h : w.ownsRow B 50 3 v n xs) (hb : B' ≤ B) : w.ownsRow B' 50 3 v n xs := by
  obtain ⟨hl, h | ⟨g, cap, cur, hv, hg, h1, h2, h3, h4, h5⟩⟩ := h
  · exact ⟨hl, .inl h⟩
  · exact ⟨hl, .inr ⟨g, cap, cur, hv, Nat.le_trans hb hg, h1, h2, h3, h4, h5⟩⟩
theorem ans_cast {w : World} {B n n' : Nat} {v : Value} {xs xs' : List Value} (h : w.ownsRow B 50 3 v n xs) (hn : n = n') (hx : xs = xs') : w.ownsRow B 50 3 v n' xs' := by
  subst hn
  subst hx
  exact h
/-- Where a row lies. -/
def ANSat (w : World) (g o : Nat) (zs : List ANS) : Prop := ∀ (k : Nat) (hk : k < zs.length), w.cell? ⟨g, o + k * 3, none⟩ = some (.int .i64 zs[k].id) ∧ w.cell? ⟨g, o + k * 3 + 1, none⟩ = some (.string zs[k].ask) ∧ w.cell? ⟨g, o + k * 3 + 2, none⟩ = some (.string zs[k].reply)
/-- A row that may be read. -/
def ANSrow (w : World) (v : Value) (zs : List ANS) : Prop := (zs = [] ∧ ∃ ao cap, v = .slice ao 0 cap) ∨ ∃ g o cap, v = .slice (some ⟨g, o, none⟩) zs.length cap ∧ zs.length ≤ cap ∧ g < w.heap.size ∧ ANSat w g o zs
theorem ANSat.below {w w' : World} {g o : Nat} {zs : List ANS} (h : ANSat w g o zs) {B : Nat} (hb : Below B w w') (hg : g < B) : ANSat w' g o zs := by
  intro k hk
  have h2 := h k hk
  have e : ∀ x, w'.cell? ⟨g, x, none⟩ = w.cell? ⟨g, x, none⟩ := fun x => World.cell?_of_block (hb.block g hg)
  simp only [e]
  exact h2
theorem ANSrow.below {w w' : World} {v : Value} {zs : List ANS} (h : ANSrow w v zs) (hb : Below w.heap.size w w') : ANSrow w' v zs := by
  rcases h with h | ⟨g, o, cap, hv, hc, hg, ha⟩
  · exact .inl h
  · exact .inr ⟨g, o, cap, hv, hc, Nat.lt_of_lt_of_le hg hb.size, ha.below hb hg⟩
theorem ANSrow.sl {w : World} {v : Value} {zs : List ANS} (h : ANSrow w v zs) : ∃ ao cap, v = .slice ao zs.length cap := by
  rcases h with ⟨rfl, ao, cap, rfl⟩ | ⟨g, o, cap, rfl, _⟩
  · exact ⟨_, _, rfl⟩
  · exact ⟨_, _, rfl⟩
theorem ANSrow.of {w : World} {B : Nat} {v : Value} {zs : List ANS} (h : w.ownsRow B 50 3 v zs.length (ansR zs)) : ANSrow w v zs := by
  rcases h.2 with ⟨rfl, e⟩ | ⟨g, cap, cur, rfl, hB, hg, hc, rest⟩
  · exact .inl ⟨List.length_eq_zero_iff.1 e, _, _, by rfl⟩
  · have h2 : w.ownsRow B 50 3 (.slice (some ⟨g, 0, none⟩) zs.length cap) zs.length (ansR zs) := h
    refine .inr ⟨g, 0, cap, rfl, hc, (Array.getElem?_eq_some_iff.1 hg).1, fun k hk => ?_⟩
    simp only [Nat.zero_add]
    have a0 := h2.cellAt (k * 3 + 0) (by omega)
    have a1 := h2.cellAt (k * 3 + 1) (by omega)
    have a2 := h2.cellAt (k * 3 + 2) (by omega)
    rw [ansR_at zs k hk _ (by omega)] at a0 a1 a2
    exact ⟨a0, a1, a2⟩
set_option maxRecDepth 100000 in
set_option maxHeartbeats 4000000 in
theorem eqANS_ok (m : ANS) (w : World) : Calls Tryz.prog 44 #[ansA m, ansA m] w fun e w' => e = .returned (.bool true) ∧ Below w.heap.size w w' := by
  unfold ansA
  go_enter Tryz.func44, Tryz.ntmps44
  go_wp2
  go_ret
  exact ⟨rfl, ((Below.refl _ _).alloc (Nat.le_refl _) _).alloc (by simp) _⟩
set_option maxRecDepth 100000 in
set_option maxHeartbeats 4000000 in
theorem eqANSS_ok {w : World} {v u : Value} {zs : List ANS} (h : ANSrow w v zs) (h' : ANSrow w u zs) (hl : zs.length ≤ 1048576) :
    Calls Tryz.prog 19 #[v, u] w fun e w' => e = .returned (.bool true) ∧ Below w.heap.size w w' := by
  by_cases hz : zs = []
  · subst hz
    obtain ⟨a1, c1, rfl⟩ := h.sl
    obtain ⟨a2, c2, rfl⟩ := h'.sl
    clear h h' hl
    simp only [List.length_nil]
    go_enter Tryz.func19, Tryz.ntmps19
    go_wp2
    go_loopw [5] (fun i w5 => i = .int .i64 0 ∧ w5 = w) (fun _ _ => 0)
    case atStart => exact ⟨rfl, rfl⟩
    case round =>
      obtain ⟨rfl, rfl⟩ := hrel
      go_wp2
      go_ret
      exact ⟨rfl, Below.refl _ _⟩
  · obtain ⟨g, o, cap, rfl, _, hg, hc⟩ := h.resolve_left (fun h => hz h.1)
    obtain ⟨g', o', cap', rfl, _, hg', hc'⟩ := h'.resolve_left (fun h => hz h.1)
    clear h h' hz
    go_enter Tryz.func19, Tryz.ntmps19
    go_wp2
    go_loopw [5] (fun i w5 => ∃ k : Nat, k ≤ zs.length ∧ i = .int .i64 k ∧ Below w.heap.size w w5) (fun i _ => zs.length - (intOf i).toNat)
    case atStart => exact ⟨0, Nat.zero_le _, rfl, Below.refl _ _⟩
    case round =>
      obtain ⟨k, hk, rfl, hb⟩ := hrel
      by_cases hlt : k < zs.length
      · obtain ⟨d0, d1, d2⟩ := hc.below hb hg k hlt
        obtain ⟨e0, e1, e2⟩ := hc'.below hb hg' k hlt
        generalize zs[k] = z at *
        clear hc hc'
        have hk0 : (0 : Int) ≤ (k : Int) := by omega
        have hk1 : (k : Int) < (zs.length : Int) := by omega
        have hgw : g < wr.heap.size := Nat.lt_of_lt_of_le hg hb.size
        have hgw' : g' < wr.heap.size := Nat.lt_of_lt_of_le hg' hb.size
        have HE : Hid _ := fun w' => eqANS_ok z w'
        have HB : Hid _ := hb
        unfold ansA at HE
        clear hb
        go_wp2
        go_region_held3 (fun w' => w'.cell? ⟨g, o + k * 3, none⟩ = some (.int .i64 z.id) ∧ w'.cell? ⟨g, o + k * 3 + 1, none⟩ = some (.string z.ask) ∧ w'.cell? ⟨g, o + k * 3 + 2, none⟩ = some (.string z.reply) ∧ w'.cell? ⟨g', o' + k * 3, none⟩ = some (.int .i64 z.id) ∧ w'.cell? ⟨g', o' + k * 3 + 1, none⟩ = some (.string z.ask) ∧ w'.cell? ⟨g', o' + k * 3 + 2, none⟩ = some (.string z.reply)) (go_keep) ((go_at_call 44; refine Calls.mono (HE.out wr.drew) ?_; rintro e u5 ⟨rfl, hu5⟩; have hb5 : Below wr.heap.size wr u5 := ⟨hu5.os, hu5.tape, hu5.output, hu5.size, hu5.block⟩; have HB5 : Hid (Below wr.heap.size wr u5) := hb5; have f0 := (World.cell?_of_block (hb5.block g hgw)).trans d0; have x0 := (World.cell?_of_block (hb5.block g' hgw')).trans e0; have f1 := (World.cell?_of_block (hb5.block g hgw)).trans d1; have x1 := (World.cell?_of_block (hb5.block g' hgw')).trans e1; have f2 := (World.cell?_of_block (hb5.block g hgw)).trans d2; have x2 := (World.cell?_of_block (hb5.block g' hgw')).trans e2; clear hu5 hb5))
        all_goals go_wp2
        all_goals go_roundw
        case rel => exact ⟨k + 1, hlt, by go_num, HB.out.trans (HB5.out.mono HB.out.size)⟩
        case measure => simp [intOf]; omega
      · obtain rfl : k = zs.length := by omega
        clear hc hc'
        go_wp2
        go_ret
        exact ⟨rfl, hb⟩

theorem ansR_set (zs : List ANS) (k : Nat) (m : ANS) (hk : k < zs.length) : ((((ansR zs).set (k * 3) (.int .i64 m.id)).set (k * 3 + 1) (.string m.ask)).set (k * 3 + 2) (.string m.reply)) = ansR (zs.set k m) := by
  induction zs generalizing k with
  | nil => simp at hk
  | cons z zs ih =>
    have e : ansR (z :: zs) = ansC z ++ ansR zs := rfl
    have hl : (ansC z).length = 3 := rfl
    cases k with
    | zero =>
      rw [e, List.set_cons_zero]
      show _ = ansC m ++ ansR zs
      rfl
    | succ k =>
      rw [e, List.set_cons_succ]
      show _ = ansC z ++ ansR (zs.set k m)
      rw [List.set_append_right _ _ (by omega), List.set_append_right _ _ (by omega), List.set_append_right _ _ (by omega), hl,
        show (k + 1) * 3 - 3 = k * 3 by omega, show (k + 1) * 3 + 1 - 3 = k * 3 + 1 by omega, show (k + 1) * 3 + 2 - 3 = k * 3 + 2 by omega, ih k (by simpa using hk)]
theorem gbANS {w0 w u : World} {r : Option Nat} (h : w0.grownBy w r) (hg : w.grownBy u r) : w0.grownBy u r :=
  ⟨hg.os.trans h.os, hg.tape.trans h.tape, hg.output.trans h.output, Nat.le_trans h.size hg.size, fun k hk hn => (hg.block k (Nat.lt_of_lt_of_le hk h.size) hn).trans (h.block k hk hn)⟩
theorem ans_cells {w : World} {B g cap m : Nat} {zs : List ANS} (h : w.ownsRow B 50 3 (.slice (some ⟨g, 0, none⟩) m cap) m (ansR zs)) (hm : zs.length = m) (k : Nat) (hk : k < zs.length) : ∃ y : ANS, w.cell? ⟨g, k * 3, none⟩ = some (.int .i64 y.id) ∧ w.cell? ⟨g, k * 3 + 1, none⟩ = some (.string y.ask) ∧ w.cell? ⟨g, k * 3 + 2, none⟩ = some (.string y.reply) := by
  subst hm
  rcases ANSrow.of h with ⟨e, _⟩ | ⟨g2, o, cap2, hv, _, _, hc⟩
  · rw [e] at hk
    simp at hk
  · injection hv with e1
    injection e1 with e2
    obtain ⟨rfl, rfl⟩ : g = g2 ∧ 0 = o := ⟨congrArg Addr.block e2, congrArg Addr.off e2⟩
    have h3 := hc k hk
    simp only [Nat.zero_add] at h3
    exact ⟨zs[k], h3⟩
/-- An element put. -/
theorem own_setANS {w : World} {B g cap : Nat} {zs : List ANS} (h : w.ownsRow B 50 3 (.slice (some ⟨g, 0, none⟩) zs.length cap) zs.length (ansR zs)) (k : Nat) (hk : k < zs.length) (m : ANS) :
    (((w.setCell ⟨g, k * 3, none⟩ (.int .i64 m.id)).setCell ⟨g, k * 3 + 1, none⟩ (.string m.ask)).setCell ⟨g, k * 3 + 2, none⟩ (.string m.reply)).ownsRow B 50 3 (.slice (some ⟨g, 0, none⟩) zs.length cap) zs.length (ansR (zs.set k m)) ∧
    w.grownBy (((w.setCell ⟨g, k * 3, none⟩ (.int .i64 m.id)).setCell ⟨g, k * 3 + 1, none⟩ (.string m.ask)).setCell ⟨g, k * 3 + 2, none⟩ (.string m.reply)) (some g) := by
  have s1 := h.stored (k * 3) (.int .i64 m.id)
  have s2 := s1.1.stored (k * 3 + 1) (.string m.ask)
  have s3 := s2.1.stored (k * 3 + 2) (.string m.reply)
  rw [ansR_set zs k m hk] at s3
  exact ⟨s3.1, (gbANS (gbANS s1.2 s2.2) s3.2)⟩

def ans0 : ANS := ⟨0, ⟨#[]⟩, ⟨#[]⟩⟩
/-- So many are copied. -/
def ansJ (j : Nat) (zs : List ANS) : List ANS := zs.take j ++ List.replicate (zs.length - j) ans0
theorem ansJ_len (j : Nat) (zs : List ANS) (h : j ≤ zs.length) : (ansJ j zs).length = zs.length := by simp [ansJ]; omega
theorem ansJ_step (j : Nat) (zs : List ANS) (h : j < zs.length) : (ansJ j zs).set j zs[j] = ansJ (j + 1) zs := by
  unfold ansJ
  have hl : (zs.take j).length = j := by rw [List.length_take]; omega
  rw [List.set_append_right _ _ (by omega), hl, Nat.sub_self, show zs.length - j = (zs.length - (j + 1)) + 1 by omega, List.replicate_succ, List.set_cons_zero, List.take_succ_eq_append_getElem h, List.append_assoc]
  rfl
theorem ansJ_all (zs : List ANS) : ansJ zs.length zs = zs := by simp [ansJ]
theorem ansJ_zero (zs : List ANS) : ansJ 0 zs = List.replicate zs.length ans0 := by simp [ansJ]
theorem ans_made (m : Nat) : (madeCells #[.int .i64 0, .string ⟨#[]⟩, .string ⟨#[]⟩] (m * 3)).toList = ansR (List.replicate m ans0) := by
  apply List.ext_getElem?
  intro i
  by_cases hi : i < m * 3
  · have hq : i = i / 3 * 3 + i % 3 := by omega
    have h2 := ansR_at (List.replicate m ans0) (i / 3) (by rw [List.length_replicate]; omega) (i % 3) (by omega)
    rw [← hq] at h2
    rw [h2, List.getElem_replicate]
    have hl : (madeCells #[.int .i64 0, .string ⟨#[]⟩, .string ⟨#[]⟩] (m * 3)).toList.length = m * 3 := by simp [madeCells]
    rw [List.getElem?_eq_getElem (by omega)]
    have : i % 3 < 3 := Nat.mod_lt _ (by omega)
    generalize hr : i % 3 = r at *
    simp only [madeCells, Array.getElem_toList, Array.getElem_map, Array.getElem_range, List.size_toArray, List.length_cons, List.length_nil]
    rw [show i % (0 + 1 + 1 + 1) = r by simpa using hr]
    match r, this with
    | 0, _ => rfl
    | 1, _ => rfl
    | 2, _ => rfl
  · rw [List.getElem?_eq_none (by simp [madeCells]; omega), List.getElem?_eq_none (by rw [ansR_len]; simp; omega)]
theorem ans_zero : (Tryz.prog.info? 50).map (fun i => (i.zero, i.size)) = some (some (.agg #[.int .i64 0, .string ⟨#[]⟩, .string ⟨#[]⟩]), 3) := by kernel_rfl
theorem ans_bytes : ∀ i, Tryz.prog.info? 50 = some i → i.bytes ≤ 40 := by
  intro i h
  have e : (Tryz.prog.info? 50).map (fun i => decide (i.bytes ≤ 40)) = some true := by kernel_rfl
  rw [h] at e
  simpa using e
theorem ans_mk (w : World) (m : Nat) (hm : m ≤ 1048576) : (Instr.makeSlice 38 (.int .i64 m) (.int .i64 m)).run Tryz.prog w = .ok (.slice (some ⟨w.heap.size, 0, none⟩) m m) (w.alloc (.cells (ansR (List.replicate m ans0)).toArray 50)) := by
  have h1 := ans_zero
  cases hq : Tryz.prog.info? 50 with
  | none => simp [hq] at h1
  | some i =>
    have hb := ans_bytes i hq
    simp [hq] at h1
    have h3 : i.bytes * m ≤ 40 * 1048576 := Nat.mul_le_mul hb hm
    have hbm : (i.bytes : Int) * (m : Int) ≤ 281474976710656 := by
      rw [← Int.natCast_mul]
      omega
    have hr := run_make (P := Tryz.prog) w 38 50 i _ Tryz.underlying38 hq h1.1 .i64 .i64 m m (by omega) (by omega) hbm (by omega)
    rw [hr, h1.2]
    simp only [Int.toNat_natCast, Value.cells]
    rw [← ans_made]
theorem ans_own0 (w : World) (m : Nat) (hm : m ≤ 1048576) : (w.alloc (.cells (ansR (List.replicate m ans0)).toArray 50)).ownsRow w.heap.size 50 3 (.slice (some ⟨w.heap.size, 0, none⟩) m m) m (ansR (List.replicate m ans0)) := by
  have hl := ansR_len (List.replicate m ans0)
  rw [List.length_replicate] at hl
  refine ⟨hl, .inr ⟨w.heap.size, m, _, rfl, Nat.le_refl _, (MapKept.heap_alloc w _).1, Nat.le_refl _, by unfold maxLen; omega, by simpa using hl, ?_⟩⟩
  rw [← hl]
  simp
set_option maxRecDepth 100000 in
set_option maxHeartbeats 4000000 in
theorem toANS_any (m : ANS) (w : World) : Calls Tryz.prog 35 #[ansA m] w fun e w' => e = .returned (ansA m) ∧ Below w.heap.size w w' := by
  unfold ansA
  go_enter Tryz.func35, Tryz.ntmps35
  go_wp2
  refine bodyPost_ret (v := ansA m) (by simp [results, Tryz.results35, go_sem, ansA]) rfl ⟨rfl, ?_⟩
  exact (((Below.refl _ _).alloc (Nat.le_refl _) _).alloc (by simp) _).alloc (by simp; omega) _
set_option maxRecDepth 100000 in
set_option maxHeartbeats 4000000 in
theorem toANSS_any {w : World} {v : Value} {zs : List ANS} (h : ANSrow w v zs) (hl : zs.length ≤ 1048576) :
    Calls Tryz.prog 15 #[v] w fun e w' => ∃ u, e = .returned u ∧ w'.ownsRow w.heap.size 50 3 u zs.length (ansR zs) ∧ Below w.heap.size w w' := by
  obtain ⟨ao, cap, rfl⟩ := h.sl
  have hmk := ans_mk w zs.length hl
  have HO : Hid ((w.alloc (.cells (ansR (List.replicate zs.length ans0)).toArray 50)).ownsRow w.heap.size 50 3 (.slice (some ⟨w.heap.size, 0, none⟩) zs.length zs.length) zs.length (ansR (List.replicate zs.length ans0))) := ans_own0 w zs.length hl
  have HR : Hid (ANSrow w (.slice ao zs.length cap) zs) := h
  clear h
  go_enter Tryz.func15, Tryz.ntmps15
  go_wp2
  go_loopw [4] (fun i wr => ∃ k : Nat, k ≤ zs.length ∧ i = .int .i64 k ∧ wr.ownsRow w.heap.size 50 3 (.slice (some ⟨w.heap.size, 0, none⟩) zs.length zs.length) zs.length (ansR (ansJ k zs)) ∧ Below w.heap.size w wr) (fun i _ => zs.length - (intOf i).toNat)
  case atStart => exact ⟨0, Nat.zero_le _, rfl, by rw [ansJ_zero]; exact HO.out, (Below.refl _ _).alloc (Nat.le_refl _) _⟩
  case round =>
    obtain ⟨k, hk, rfl, hown, hb⟩ := hrel
    clear hmk
    by_cases hlt : k < zs.length
    · obtain ⟨g, o, cap2, hv, _, hg, hc⟩ := HR.out.resolve_left (fun h => by rw [h.1] at hlt; simp at hlt)
      injection hv with hv1 hv2 hv3
      subst hv1 hv3
      obtain ⟨d0, d1, d2⟩ := hc.below hb hg k hlt
      have hlen := ansJ_len k zs hk
      have hown2 : wr.ownsRow w.heap.size 50 3 (.slice (some ⟨w.heap.size, 0, none⟩) (ansJ k zs).length zs.length) (ansJ k zs).length (ansR (ansJ k zs)) := by rw [hlen]; exact hown
      have HOW : Hid (wr.ownsRow w.heap.size 50 3 (.slice (some ⟨w.heap.size, 0, none⟩) (ansJ k zs).length zs.length) (ansJ k zs).length (ansR (ansJ k zs))) := hown2
      have hTO := fun w' => toANS_any zs[k] w'
      have HZ : Hid _ := ansJ_step k zs hlt
      generalize zs[k] = z at *
      have HB : Hid _ := hb
      have hk0 : (0 : Int) ≤ (k : Int) := by omega
      have hk1 : (k : Int) < (zs.length : Int) := by omega
      have hgw : g < wr.heap.size := Nat.lt_of_lt_of_le hg hb.size
      have HTO : Hid _ := hTO
      unfold ansA at HTO
      clear hc hown hown2 hb hTO
      go_wp2_with (go_at_call 35; refine Calls.mono (HTO.out _) ?_; rintro e u5 ⟨rfl, hu5⟩; have HB5 : Hid (Below wr.heap.size wr u5) := hu5; have HO5 : Hid (u5.ownsRow w.heap.size 50 3 (.slice (some ⟨w.heap.size, 0, none⟩) (ansJ k zs).length zs.length) (ansJ k zs).length (ansR (ansJ k zs))) := ans_below HOW.out hu5; obtain ⟨y, y0, y1, y2⟩ := ans_cells HO5.out rfl k (by omega); have hfz := HO5.out.frozenAt; clear hu5)
      have st := own_setANS HO5.out k (by omega) z
      rw [HZ.out, hlen] at st
      have hb6 : Below w.heap.size w u5 := HB.out.trans (HB5.out.mono HB.out.size)
      refine ⟨⟨k + 1, hlt, by simp, st.1, hb6.grown st.2 hb6.size (fun j hj => by cases hj; exact Nat.le_refl _)⟩, ?_⟩
      simp [intOf]
      omega
    · obtain rfl : k = zs.length := by omega
      rw [ansJ_all] at hown
      have HO2 : Hid _ := hown
      clear hown
      go_wp2
      go_ret
      exact ⟨_, rfl, HO2.out, hb⟩

theorem cANS : Tryz.prog.cellsOf 66 = 3 := by kernel_rfl
theorem ciANS : Tryz.prog.cellsOf 2 = 1 := by kernel_rfl
theorem csANS : Tryz.prog.cellsOf 9 = 1 := by kernel_rfl
theorem listANS {α : Type} {cs : List α} (h : cs.length = 3) : ∃ x0 x1 x2, cs = [x0, x1, x2] := by
  match cs, h with
  | [x0, x1, x2], _ => exact ⟨x0, x1, x2, rfl⟩
theorem ans_one {H : Type} {enc : TypeId × Value → H} {W : World} {fuel : Nat} {cs : List Value} {x : DataW H × List MemPlace} (h : DataW.trod enc Tryz.prog W 0 (fun _ => true) true fuel 66 cs = some x) : ∃ z : ANS, cs = ansC z ∧ z.ask.size ≤ maxLen ∧ z.reply.size ≤ maxLen := by
  obtain ⟨xs, m, _, hx, hl, hlen, hel⟩ := DataW.trod_struct Tryz.underlying66 h
  obtain ⟨x0, x1, x2, rfl⟩ := listANS (hl.trans cANS)
  match xs, hlen, hel, hx with
  | [y0, y1, y2], _, hel, hx =>
    have g0 := hel 0 _ rfl
    have g1 := hel 1 _ rfl
    have g2 := hel 2 _ rfl
    obtain ⟨a0, e0, _, _⟩ := DataW.trod_int Tryz.underlying2 g0
    obtain ⟨a1, e1, _, w1⟩ := DataW.trod_string Tryz.underlying9 g1
    obtain ⟨a2, e2, _, w2⟩ := DataW.trod_string Tryz.underlying9 g2
    simp [ciANS, csANS] at e0 e1 e2
    subst e0 e1 e2
    exact ⟨⟨a0, a1, a2⟩, rfl, w1, w2⟩
instance : Inhabited ANS := ⟨ans0⟩
theorem open_ansS {H : Type} {enc : TypeId × Value → H} {W : World} {fuel : Nat} {c : Value} {x : DataW H × List MemPlace} (h : DataW.trod enc Tryz.prog W 0 (fun _ => true) true fuel 27 [c] = some x) : ∃ zs : List ANS, ANSrow W c zs ∧ zs.length ≤ maxLen ∧ ∀ z ∈ zs, z.ask.size ≤ maxLen ∧ z.reply.size ≤ maxLen := by
  rcases Go.Deep.open_slice Tryz.underlying27 h with ⟨hcs, _⟩ | ⟨a, len, cap, m, k, D, Pl, hcs, _, hl, hm, hmm, _, hel⟩
  · obtain rfl : c = .slice none 0 0 := by simpa using hcs
    exact ⟨[], .inl ⟨rfl, none, 0, rfl⟩, Nat.zero_le _, fun z hz => by cases hz⟩
  · obtain rfl : c = .slice (some a) len cap := by simpa using hcs
    rw [if_pos rfl] at hmm
    subst hmm
    rw [cANS] at hel
    cases len with
    | zero => exact ⟨[], .inl ⟨rfl, _, _, rfl⟩, Nat.zero_le _, fun z hz => by cases hz⟩
    | succ len =>
      have each : ∀ i, i < len + 1 → ∃ z : ANS, (∀ j, j < 3 → W.cell? (a.add (i * 3 + j)) = (ansC z)[j]?) ∧ z.ask.size ≤ maxLen ∧ z.reply.size ≤ maxLen := by
        intro i hi
        obtain ⟨cs', h1, h2⟩ := hel i (by omega)
        obtain ⟨z, rfl, q0, q1⟩ := ans_one h2
        obtain ⟨_, _, h3⟩ := World.cells?_some h1
        refine ⟨z, fun j hj => ?_, q0, q1⟩
        rw [← Go.Deep.add_add]
        exact h3 j hj
      obtain ⟨f, hf⟩ := Go.Deep.choose_lt each
      have h0 := (hf 0 (by omega)).1 0 (by omega)
      have hsp : a.spot = none := by
        cases hs : a.spot with
        | none => rfl
        | some q =>
          simp [Addr.add, World.cell?, hs, ansC] at h0
          cases hq : W.heap[a.block]? with
          | none => simp [hq] at h0
          | some ob => cases ob <;> simp [hq] at h0
      have hlt : a.block < W.heap.size := by
        simp [Addr.add, World.cell?, ansC] at h0
        cases hq : W.heap[a.block]? with
        | none => simp [hq] at h0
        | some ob => exact (Array.getElem?_eq_some_iff.1 hq).1
      obtain ⟨b, o, sp⟩ := a
      simp only at hsp hlt
      subst hsp
      have hadd : ∀ q, Addr.add ⟨b, o, none⟩ q = ⟨b, o + q, none⟩ := fun q => by
        unfold Addr.add
        split
        · subst_vars; rfl
        · rfl
      refine ⟨(List.range (len + 1)).map f, .inr ⟨b, o, m, by simp, by simpa using hl, hlt, fun i hi => ?_⟩, by simp; omega, fun z hz => ?_⟩
      case refine_2 =>
        obtain ⟨i, hi, rfl⟩ := List.mem_map.1 hz
        exact (hf i (by simpa using hi)).2
      have hi2 : i < len + 1 := by simpa using hi
      have hfi : ((List.range (len + 1)).map f)[i] = f i := by simp
      rw [hfi]
      have q := fun j hj => (hf i hi2).1 j hj
      simp only [hadd] at q
      exact ⟨(q 0 (by omega)), (by rw [Nat.add_assoc]; exact q 1 (by omega)), (by rw [Nat.add_assoc]; exact q 2 (by omega))⟩
end Go.Proofs.YtalpcjclahkgnaaGreat
