import Derived.Test.YtalpcjclahkgnaaGreatOwnB
import Derived.Deep.QuietTactic
import Derived.BigRegion
import Derived.Deep.RegionHeld3
import Derived.Laws.MakeOwn
import Derived.Deep.Slices
namespace Go.Proofs.YtalpcjclahkgnaaGreat
open Go.ChangeShapes Go.WideShapes Go.ChangeAt Go.RowKit

structure TNT where
  cpu : Int
  mem : Int
  bill : Int
def tntA (m : TNT) : Value := .agg #[.int .i64 m.cpu, .int .i64 m.mem, .int .i64 m.bill]
def tntC (m : TNT) : List Value := [.int .i64 m.cpu, .int .i64 m.mem, .int .i64 m.bill]
def tntR (zs : List TNT) : List Value := zs.flatMap tntC
theorem tntR_app (xs ys : List TNT) : tntR (xs ++ ys) = tntR xs ++ tntR ys := by simp [tntR]
theorem tntR_len (zs : List TNT) : (tntR zs).length = zs.length * 3 := by
  induction zs with
  | nil => rfl
  | cons z zs ih =>
    have e : tntR (z :: zs) = tntC z ++ tntR zs := rfl
    rw [e, List.length_append, ih]
    simp [tntC]
    omega
theorem tntR_at (zs : List TNT) (k : Nat) (hk : k < zs.length) (j : Nat) (hj : j < 3) : (tntR zs)[k * 3 + j]? = (tntC zs[k])[j]? := by
  induction zs generalizing k with
  | nil => simp at hk
  | cons z zs ih =>
    have e : tntR (z :: zs) = tntC z ++ tntR zs := rfl
    have hl : (tntC z).length = 3 := rfl
    rw [e]
    cases k with
    | zero =>
      rw [List.getElem?_append_left (by omega)]
      simp
    | succ k =>
      rw [List.getElem?_append_right (by omega), hl, show (k + 1) * 3 + j - 3 = k * 3 + j by omega, ih k (by simpa using hk)]
      simp
theorem tnt_sl {w : World} {B n : Nat} {v : Value} {xs : List Value} (h : w.ownsRow B 76 3 v n xs) : ∃ ao cap, v = .slice ao n cap := by
  rcases h.2 with ⟨rfl, e⟩ | ⟨g, cap, cur, rfl, _⟩
  · exact ⟨none, 0, by rw [e]⟩
  · exact ⟨_, cap, rfl⟩
theorem tnt_below {w w' : World} {B n : Nat} {v : Value} {xs : List Value} (h : w.ownsRow B 76 3 v n xs) (hb : Below w.heap.size w w') : w'.ownsRow B 76 3 v n xs :=
  h.kept (row := none) ⟨hb.os, hb.tape, hb.output, hb.size, fun k hk _ => hb.block k hk⟩ (by cases v.ownBlock <;> simp)
theorem tnt_weak {w : World} {B B' : Nat} {v : Value} {n : Nat} {xs : List Value} (h : w.ownsRow B 76 3 v n xs) (hb : B' ≤ B) : w.ownsRow B' 76 3 v n xs := by
  obtain ⟨hl, h | ⟨g, cap, cur, hv, hg, h1, h2, h3, h4, h5⟩⟩ := h
  · exact ⟨hl, .inl h⟩
  · exact ⟨hl, .inr ⟨g, cap, cur, hv, Nat.le_trans hb hg, h1, h2, h3, h4, h5⟩⟩
theorem tnt_cast {w : World} {B n n' : Nat} {v : Value} {xs xs' : List Value} (h : w.ownsRow B 76 3 v n xs) (hn : n = n') (hx : xs = xs') : w.ownsRow B 76 3 v n' xs' := by
  subst hn
  subst hx
  exact h
/-- Where a row lies. -/
def TNTat (w : World) (g o : Nat) (zs : List TNT) : Prop := ∀ (k : Nat) (hk : k < zs.length), w.cell? ⟨g, o + k * 3, none⟩ = some (.int .i64 zs[k].cpu) ∧ w.cell? ⟨g, o + k * 3 + 1, none⟩ = some (.int .i64 zs[k].mem) ∧ w.cell? ⟨g, o + k * 3 + 2, none⟩ = some (.int .i64 zs[k].bill)
/-- A row that may be read. -/
def TNTrow (w : World) (v : Value) (zs : List TNT) : Prop := (zs = [] ∧ ∃ ao cap, v = .slice ao 0 cap) ∨ ∃ g o cap, v = .slice (some ⟨g, o, none⟩) zs.length cap ∧ zs.length ≤ cap ∧ g < w.heap.size ∧ TNTat w g o zs
theorem TNTat.below {w w' : World} {g o : Nat} {zs : List TNT} (h : TNTat w g o zs) {B : Nat} (hb : Below B w w') (hg : g < B) : TNTat w' g o zs := by
  intro k hk
  have h2 := h k hk
  have e : ∀ x, w'.cell? ⟨g, x, none⟩ = w.cell? ⟨g, x, none⟩ := fun x => World.cell?_of_block (hb.block g hg)
  simp only [e]
  exact h2
theorem TNTrow.below {w w' : World} {v : Value} {zs : List TNT} (h : TNTrow w v zs) (hb : Below w.heap.size w w') : TNTrow w' v zs := by
  rcases h with h | ⟨g, o, cap, hv, hc, hg, ha⟩
  · exact .inl h
  · exact .inr ⟨g, o, cap, hv, hc, Nat.lt_of_lt_of_le hg hb.size, ha.below hb hg⟩
theorem TNTrow.sl {w : World} {v : Value} {zs : List TNT} (h : TNTrow w v zs) : ∃ ao cap, v = .slice ao zs.length cap := by
  rcases h with ⟨rfl, ao, cap, rfl⟩ | ⟨g, o, cap, rfl, _⟩
  · exact ⟨_, _, rfl⟩
  · exact ⟨_, _, rfl⟩
theorem TNTrow.of {w : World} {B : Nat} {v : Value} {zs : List TNT} (h : w.ownsRow B 76 3 v zs.length (tntR zs)) : TNTrow w v zs := by
  rcases h.2 with ⟨rfl, e⟩ | ⟨g, cap, cur, rfl, hB, hg, hc, rest⟩
  · exact .inl ⟨List.length_eq_zero_iff.1 e, _, _, by rfl⟩
  · have h2 : w.ownsRow B 76 3 (.slice (some ⟨g, 0, none⟩) zs.length cap) zs.length (tntR zs) := h
    refine .inr ⟨g, 0, cap, rfl, hc, (Array.getElem?_eq_some_iff.1 hg).1, fun k hk => ?_⟩
    simp only [Nat.zero_add]
    have a0 := h2.cellAt (k * 3 + 0) (by omega)
    have a1 := h2.cellAt (k * 3 + 1) (by omega)
    have a2 := h2.cellAt (k * 3 + 2) (by omega)
    rw [tntR_at zs k hk _ (by omega)] at a0 a1 a2
    exact ⟨a0, a1, a2⟩
set_option maxRecDepth 100000 in
set_option maxHeartbeats 4000000 in
theorem eqTNT_ok (m : TNT) (w : World) : Calls Tryz.prog 68 #[tntA m, tntA m] w fun e w' => e = .returned (.bool true) ∧ Below w.heap.size w w' := by
  unfold tntA
  go_enter Tryz.func68, Tryz.ntmps68
  go_wp2
  go_ret
  exact ⟨rfl, ((Below.refl _ _).alloc (Nat.le_refl _) _).alloc (by simp) _⟩
set_option maxRecDepth 100000 in
set_option maxHeartbeats 4000000 in
theorem eqTNTS_ok {w : World} {v u : Value} {zs : List TNT} (h : TNTrow w v zs) (h' : TNTrow w u zs) (hl : zs.length ≤ 1048576) :
    Calls Tryz.prog 43 #[v, u] w fun e w' => e = .returned (.bool true) ∧ Below w.heap.size w w' := by
  by_cases hz : zs = []
  · subst hz
    obtain ⟨a1, c1, rfl⟩ := h.sl
    obtain ⟨a2, c2, rfl⟩ := h'.sl
    clear h h' hl
    simp only [List.length_nil]
    go_enter Tryz.func43, Tryz.ntmps43
    go_wp2
    go_loopw [5] (fun i w5 => i = .int .i64 0 ∧ w5 = w) (fun _ _ => 0)
    case atStart => exact ⟨rfl, rfl⟩
    case round =>
      obtain ⟨rfl, rfl⟩ := hrel
      go_wp2
      go_ret
      exact ⟨rfl, Below.refl _ _⟩
  · obtain ⟨g, o, cap, rfl, _, hg, hc⟩ := h.resolve_left (fun h => hz h.1)
    obtain ⟨g', o', cap', rfl, _, hg', hc'⟩ := h'.resolve_left (fun h => hz h.1)
    clear h h' hz
    go_enter Tryz.func43, Tryz.ntmps43
    go_wp2
    go_loopw [5] (fun i w5 => ∃ k : Nat, k ≤ zs.length ∧ i = .int .i64 k ∧ Below w.heap.size w w5) (fun i _ => zs.length - (intOf i).toNat)
    case atStart => exact ⟨0, Nat.zero_le _, rfl, Below.refl _ _⟩
    case round =>
      obtain ⟨k, hk, rfl, hb⟩ := hrel
      by_cases hlt : k < zs.length
      · obtain ⟨d0, d1, d2⟩ := hc.below hb hg k hlt
        obtain ⟨e0, e1, e2⟩ := hc'.below hb hg' k hlt
        generalize zs[k] = z at *
        clear hc hc'
        have hk0 : (0 : Int) ≤ (k : Int) := by omega
        have hk1 : (k : Int) < (zs.length : Int) := by omega
        have hgw : g < wr.heap.size := Nat.lt_of_lt_of_le hg hb.size
        have hgw' : g' < wr.heap.size := Nat.lt_of_lt_of_le hg' hb.size
        have HE : Hid _ := fun w' => eqTNT_ok z w'
        have HB : Hid _ := hb
        unfold tntA at HE
        clear hb
        go_wp2
        go_region_held3 (fun w' => w'.cell? ⟨g, o + k * 3, none⟩ = some (.int .i64 z.cpu) ∧ w'.cell? ⟨g, o + k * 3 + 1, none⟩ = some (.int .i64 z.mem) ∧ w'.cell? ⟨g, o + k * 3 + 2, none⟩ = some (.int .i64 z.bill) ∧ w'.cell? ⟨g', o' + k * 3, none⟩ = some (.int .i64 z.cpu) ∧ w'.cell? ⟨g', o' + k * 3 + 1, none⟩ = some (.int .i64 z.mem) ∧ w'.cell? ⟨g', o' + k * 3 + 2, none⟩ = some (.int .i64 z.bill)) (go_keep) ((go_at_call 68; refine Calls.mono (HE.out wr.drew) ?_; rintro e u5 ⟨rfl, hu5⟩; have hb5 : Below wr.heap.size wr u5 := ⟨hu5.os, hu5.tape, hu5.output, hu5.size, hu5.block⟩; have HB5 : Hid (Below wr.heap.size wr u5) := hb5; have f0 := (World.cell?_of_block (hb5.block g hgw)).trans d0; have x0 := (World.cell?_of_block (hb5.block g' hgw')).trans e0; have f1 := (World.cell?_of_block (hb5.block g hgw)).trans d1; have x1 := (World.cell?_of_block (hb5.block g' hgw')).trans e1; have f2 := (World.cell?_of_block (hb5.block g hgw)).trans d2; have x2 := (World.cell?_of_block (hb5.block g' hgw')).trans e2; clear hu5 hb5))
        all_goals go_wp2
        all_goals go_roundw
        case rel => exact ⟨k + 1, hlt, by go_num, HB.out.trans (HB5.out.mono HB.out.size)⟩
        case measure => simp [intOf]; omega
      · obtain rfl : k = zs.length := by omega
        clear hc hc'
        go_wp2
        go_ret
        exact ⟨rfl, hb⟩

theorem tntR_set (zs : List TNT) (k : Nat) (m : TNT) (hk : k < zs.length) : ((((tntR zs).set (k * 3) (.int .i64 m.cpu)).set (k * 3 + 1) (.int .i64 m.mem)).set (k * 3 + 2) (.int .i64 m.bill)) = tntR (zs.set k m) := by
  induction zs generalizing k with
  | nil => simp at hk
  | cons z zs ih =>
    have e : tntR (z :: zs) = tntC z ++ tntR zs := rfl
    have hl : (tntC z).length = 3 := rfl
    cases k with
    | zero =>
      rw [e, List.set_cons_zero]
      show _ = tntC m ++ tntR zs
      rfl
    | succ k =>
      rw [e, List.set_cons_succ]
      show _ = tntC z ++ tntR (zs.set k m)
      rw [List.set_append_right _ _ (by omega), List.set_append_right _ _ (by omega), List.set_append_right _ _ (by omega), hl,
        show (k + 1) * 3 - 3 = k * 3 by omega, show (k + 1) * 3 + 1 - 3 = k * 3 + 1 by omega, show (k + 1) * 3 + 2 - 3 = k * 3 + 2 by omega, ih k (by simpa using hk)]
theorem gbTNT {w0 w u : World} {r : Option Nat} (h : w0.grownBy w r) (hg : w.grownBy u r) : w0.grownBy u r :=
  ⟨hg.os.trans h.os, hg.tape.trans h.tape, hg.output.trans h.output, Nat.le_trans h.size hg.size, fun k hk hn => (hg.block k (Nat.lt_of_lt_of_le hk h.size) hn).trans (h.block k hk hn)⟩
theorem tnt_cells {w : World} {B g cap m : Nat} {zs : List TNT} (h : w.ownsRow B 76 3 (.slice (some ⟨g, 0, none⟩) m cap) m (tntR zs)) (hm : zs.length = m) (k : Nat) (hk : k < zs.length) : ∃ y : TNT, w.cell? ⟨g, k * 3, none⟩ = some (.int .i64 y.cpu) ∧ w.cell? ⟨g, k * 3 + 1, none⟩ = some (.int .i64 y.mem) ∧ w.cell? ⟨g, k * 3 + 2, none⟩ = some (.int .i64 y.bill) := by
  subst hm
  rcases TNTrow.of h with ⟨e, _⟩ | ⟨g2, o, cap2, hv, _, _, hc⟩
  · rw [e] at hk
    simp at hk
  · injection hv with e1
    injection e1 with e2
    obtain ⟨rfl, rfl⟩ : g = g2 ∧ 0 = o := ⟨congrArg Addr.block e2, congrArg Addr.off e2⟩
    have h3 := hc k hk
    simp only [Nat.zero_add] at h3
    exact ⟨zs[k], h3⟩
/-- An element put. -/
theorem own_setTNT {w : World} {B g cap : Nat} {zs : List TNT} (h : w.ownsRow B 76 3 (.slice (some ⟨g, 0, none⟩) zs.length cap) zs.length (tntR zs)) (k : Nat) (hk : k < zs.length) (m : TNT) :
    (((w.setCell ⟨g, k * 3, none⟩ (.int .i64 m.cpu)).setCell ⟨g, k * 3 + 1, none⟩ (.int .i64 m.mem)).setCell ⟨g, k * 3 + 2, none⟩ (.int .i64 m.bill)).ownsRow B 76 3 (.slice (some ⟨g, 0, none⟩) zs.length cap) zs.length (tntR (zs.set k m)) ∧
    w.grownBy (((w.setCell ⟨g, k * 3, none⟩ (.int .i64 m.cpu)).setCell ⟨g, k * 3 + 1, none⟩ (.int .i64 m.mem)).setCell ⟨g, k * 3 + 2, none⟩ (.int .i64 m.bill)) (some g) := by
  have s1 := h.stored (k * 3) (.int .i64 m.cpu)
  have s2 := s1.1.stored (k * 3 + 1) (.int .i64 m.mem)
  have s3 := s2.1.stored (k * 3 + 2) (.int .i64 m.bill)
  rw [tntR_set zs k m hk] at s3
  exact ⟨s3.1, (gbTNT (gbTNT s1.2 s2.2) s3.2)⟩

def tnt0 : TNT := ⟨0, 0, 0⟩
/-- So many are copied. -/
def tntJ (j : Nat) (zs : List TNT) : List TNT := zs.take j ++ List.replicate (zs.length - j) tnt0
theorem tntJ_len (j : Nat) (zs : List TNT) (h : j ≤ zs.length) : (tntJ j zs).length = zs.length := by simp [tntJ]; omega
theorem tntJ_step (j : Nat) (zs : List TNT) (h : j < zs.length) : (tntJ j zs).set j zs[j] = tntJ (j + 1) zs := by
  unfold tntJ
  have hl : (zs.take j).length = j := by rw [List.length_take]; omega
  rw [List.set_append_right _ _ (by omega), hl, Nat.sub_self, show zs.length - j = (zs.length - (j + 1)) + 1 by omega, List.replicate_succ, List.set_cons_zero, List.take_succ_eq_append_getElem h, List.append_assoc]
  rfl
theorem tntJ_all (zs : List TNT) : tntJ zs.length zs = zs := by simp [tntJ]
theorem tntJ_zero (zs : List TNT) : tntJ 0 zs = List.replicate zs.length tnt0 := by simp [tntJ]
theorem tnt_made (m : Nat) : (madeCells #[.int .i64 0, .int .i64 0, .int .i64 0] (m * 3)).toList = tntR (List.replicate m tnt0) := by
  apply List.ext_getElem?
  intro i
  by_cases hi : i < m * 3
  · have hq : i = i / 3 * 3 + i % 3 := by omega
    have h2 := tntR_at (List.replicate m tnt0) (i / 3) (by rw [List.length_replicate]; omega) (i % 3) (by omega)
    rw [← hq] at h2
    rw [h2, List.getElem_replicate]
    have hl : (madeCells #[.int .i64 0, .int .i64 0, .int .i64 0] (m * 3)).toList.length = m * 3 := by simp [madeCells]
    rw [List.getElem?_eq_getElem (by omega)]
    have : i % 3 < 3 := Nat.mod_lt _ (by omega)
    generalize hr : i % 3 = r at *
    simp only [madeCells, Array.getElem_toList, Array.getElem_map, Array.getElem_range, List.size_toArray, List.length_cons, List.length_nil]
    rw [show i % (0 + 1 + 1 + 1) = r by simpa using hr]
    match r, this with
    | 0, _ => rfl
    | 1, _ => rfl
    | 2, _ => rfl
  · rw [List.getElem?_eq_none (by simp [madeCells]; omega), List.getElem?_eq_none (by rw [tntR_len]; simp; omega)]
theorem tnt_zero : (Tryz.prog.info? 76).map (fun i => (i.zero, i.size)) = some (some (.agg #[.int .i64 0, .int .i64 0, .int .i64 0]), 3) := by kernel_rfl
theorem tnt_bytes : ∀ i, Tryz.prog.info? 76 = some i → i.bytes ≤ 24 := by
  intro i h
  have e : (Tryz.prog.info? 76).map (fun i => decide (i.bytes ≤ 24)) = some true := by kernel_rfl
  rw [h] at e
  simpa using e
theorem tnt_mk (w : World) (m : Nat) (hm : m ≤ 1048576) : (Instr.makeSlice 35 (.int .i64 m) (.int .i64 m)).run Tryz.prog w = .ok (.slice (some ⟨w.heap.size, 0, none⟩) m m) (w.alloc (.cells (tntR (List.replicate m tnt0)).toArray 76)) := by
  have h1 := tnt_zero
  cases hq : Tryz.prog.info? 76 with
  | none => simp [hq] at h1
  | some i =>
    have hb := tnt_bytes i hq
    simp [hq] at h1
    have h3 : i.bytes * m ≤ 24 * 1048576 := Nat.mul_le_mul hb hm
    have hbm : (i.bytes : Int) * (m : Int) ≤ 281474976710656 := by
      rw [← Int.natCast_mul]
      omega
    have hr := run_make (P := Tryz.prog) w 35 76 i _ Tryz.underlying35 hq h1.1 .i64 .i64 m m (by omega) (by omega) hbm (by omega)
    rw [hr, h1.2]
    simp only [Int.toNat_natCast, Value.cells]
    rw [← tnt_made]
theorem tnt_own0 (w : World) (m : Nat) (hm : m ≤ 1048576) : (w.alloc (.cells (tntR (List.replicate m tnt0)).toArray 76)).ownsRow w.heap.size 76 3 (.slice (some ⟨w.heap.size, 0, none⟩) m m) m (tntR (List.replicate m tnt0)) := by
  have hl := tntR_len (List.replicate m tnt0)
  rw [List.length_replicate] at hl
  refine ⟨hl, .inr ⟨w.heap.size, m, _, rfl, Nat.le_refl _, (MapKept.heap_alloc w _).1, Nat.le_refl _, by unfold maxLen; omega, by simpa using hl, ?_⟩⟩
  rw [← hl]
  simp
set_option maxRecDepth 100000 in
set_option maxHeartbeats 4000000 in
theorem szTNTS_any (ao : Option Addr) (m cap : Nat) (l : Int) (w : World) (h0 : 0 ≤ l) (h1 : l ≤ 1048576) (hm : m ≤ maxLen) : Calls Tryz.prog 23 #[.slice ao m cap, .int .i64 l] w fun e w' => e = .returned (.int .i64 (if l < (m : Int) then -1 else l - m)) ∧ w' = w := by
  unfold maxLen at hm
  by_cases h : l < (m : Int)
  · rw [if_pos h]
    have h2 : l - (m : Int) < 0 := by omega
    have hw : IntKind.i64.wrap (l - (m : Int)) = l - (m : Int) := by rw [IntKind.wrap_i64]; omega
    have HH : Hid _ := h
    clear hm h h1 h0
    go_enter Tryz.func23, Tryz.ntmps23
    go_wp2
    go_ret
    exact ⟨rfl, rfl⟩
  · rw [if_neg h]
    have h2 : ¬ l - (m : Int) < 0 := by omega
    have hw : IntKind.i64.wrap (l - (m : Int)) = l - (m : Int) := by rw [IntKind.wrap_i64]; omega
    clear hm h h1 h0
    go_enter Tryz.func23, Tryz.ntmps23
    go_wp2
    go_ret
    exact ⟨rfl, rfl⟩
set_option maxRecDepth 100000 in
set_option maxHeartbeats 4000000 in
theorem toTNT_any (m : TNT) (w : World) : Calls Tryz.prog 51 #[tntA m] w fun e w' => e = .returned (tntA m) ∧ Below w.heap.size w w' := by
  unfold tntA
  go_enter Tryz.func51, Tryz.ntmps51
  go_wp2
  refine bodyPost_ret (v := tntA m) (by simp [results, Tryz.results51, go_sem, tntA]) rfl ⟨rfl, ?_⟩
  exact (((Below.refl _ _).alloc (Nat.le_refl _) _).alloc (by simp) _).alloc (by simp; omega) _
set_option maxRecDepth 100000 in
set_option maxHeartbeats 4000000 in
theorem toTNTS_any {w : World} {v : Value} {zs : List TNT} (h : TNTrow w v zs) (hl : zs.length ≤ 1048576) :
    Calls Tryz.prog 34 #[v] w fun e w' => ∃ u, e = .returned u ∧ w'.ownsRow w.heap.size 76 3 u zs.length (tntR zs) ∧ Below w.heap.size w w' := by
  obtain ⟨ao, cap, rfl⟩ := h.sl
  have hmk := tnt_mk w zs.length hl
  have HO : Hid ((w.alloc (.cells (tntR (List.replicate zs.length tnt0)).toArray 76)).ownsRow w.heap.size 76 3 (.slice (some ⟨w.heap.size, 0, none⟩) zs.length zs.length) zs.length (tntR (List.replicate zs.length tnt0))) := tnt_own0 w zs.length hl
  have HR : Hid (TNTrow w (.slice ao zs.length cap) zs) := h
  clear h
  go_enter Tryz.func34, Tryz.ntmps34
  go_wp2
  go_loopw [4] (fun i wr => ∃ k : Nat, k ≤ zs.length ∧ i = .int .i64 k ∧ wr.ownsRow w.heap.size 76 3 (.slice (some ⟨w.heap.size, 0, none⟩) zs.length zs.length) zs.length (tntR (tntJ k zs)) ∧ Below w.heap.size w wr) (fun i _ => zs.length - (intOf i).toNat)
  case atStart => exact ⟨0, Nat.zero_le _, rfl, by rw [tntJ_zero]; exact HO.out, (Below.refl _ _).alloc (Nat.le_refl _) _⟩
  case round =>
    obtain ⟨k, hk, rfl, hown, hb⟩ := hrel
    clear hmk
    by_cases hlt : k < zs.length
    · obtain ⟨g, o, cap2, hv, _, hg, hc⟩ := HR.out.resolve_left (fun h => by rw [h.1] at hlt; simp at hlt)
      injection hv with hv1 hv2 hv3
      subst hv1 hv3
      obtain ⟨d0, d1, d2⟩ := hc.below hb hg k hlt
      have hlen := tntJ_len k zs hk
      have hown2 : wr.ownsRow w.heap.size 76 3 (.slice (some ⟨w.heap.size, 0, none⟩) (tntJ k zs).length zs.length) (tntJ k zs).length (tntR (tntJ k zs)) := by rw [hlen]; exact hown
      have HOW : Hid (wr.ownsRow w.heap.size 76 3 (.slice (some ⟨w.heap.size, 0, none⟩) (tntJ k zs).length zs.length) (tntJ k zs).length (tntR (tntJ k zs))) := hown2
      have hTO := fun w' => toTNT_any zs[k] w'
      have HZ : Hid _ := tntJ_step k zs hlt
      generalize zs[k] = z at *
      have HB : Hid _ := hb
      have hk0 : (0 : Int) ≤ (k : Int) := by omega
      have hk1 : (k : Int) < (zs.length : Int) := by omega
      have hgw : g < wr.heap.size := Nat.lt_of_lt_of_le hg hb.size
      have HTO : Hid _ := hTO
      unfold tntA at HTO
      clear hc hown hown2 hb hTO
      go_wp2_with (go_at_call 51; refine Calls.mono (HTO.out _) ?_; rintro e u5 ⟨rfl, hu5⟩; have HB5 : Hid (Below wr.heap.size wr u5) := hu5; have HO5 : Hid (u5.ownsRow w.heap.size 76 3 (.slice (some ⟨w.heap.size, 0, none⟩) (tntJ k zs).length zs.length) (tntJ k zs).length (tntR (tntJ k zs))) := tnt_below HOW.out hu5; obtain ⟨y, y0, y1, y2⟩ := tnt_cells HO5.out rfl k (by omega); have hfz := HO5.out.frozenAt; clear hu5)
      have st := own_setTNT HO5.out k (by omega) z
      rw [HZ.out, hlen] at st
      have hb6 : Below w.heap.size w u5 := HB.out.trans (HB5.out.mono HB.out.size)
      refine ⟨⟨k + 1, hlt, by simp, st.1, hb6.grown st.2 hb6.size (fun j hj => by cases hj; exact Nat.le_refl _)⟩, ?_⟩
      simp [intOf]
      omega
    · obtain rfl : k = zs.length := by omega
      rw [tntJ_all] at hown
      have HO2 : Hid _ := hown
      clear hown
      go_wp2
      go_ret
      exact ⟨_, rfl, HO2.out, hb⟩

theorem cTNT : Tryz.prog.cellsOf 101 = 3 := by kernel_rfl
theorem ciTNT : Tryz.prog.cellsOf 2 = 1 := by kernel_rfl
theorem listTNT {α : Type} {cs : List α} (h : cs.length = 3) : ∃ x0 x1 x2, cs = [x0, x1, x2] := by
  match cs, h with
  | [x0, x1, x2], _ => exact ⟨x0, x1, x2, rfl⟩
theorem tnt_one {H : Type} {enc : TypeId × Value → H} {W : World} {fuel : Nat} {cs : List Value} {x : DataW H × List MemPlace} (h : DataW.trod enc Tryz.prog W 0 (fun _ => true) true fuel 101 cs = some x) : ∃ z : TNT, cs = tntC z := by
  obtain ⟨xs, m, _, hx, hl, hlen, hel⟩ := DataW.trod_struct Tryz.underlying101 h
  obtain ⟨x0, x1, x2, rfl⟩ := listTNT (hl.trans cTNT)
  match xs, hlen, hel, hx with
  | [y0, y1, y2], _, hel, hx =>
    have g0 := hel 0 _ rfl
    have g1 := hel 1 _ rfl
    have g2 := hel 2 _ rfl
    obtain ⟨a0, e0, _, _⟩ := DataW.trod_int Tryz.underlying2 g0
    obtain ⟨a1, e1, _, _⟩ := DataW.trod_int Tryz.underlying2 g1
    obtain ⟨a2, e2, _, _⟩ := DataW.trod_int Tryz.underlying2 g2
    simp [ciTNT] at e0 e1 e2
    subst e0 e1 e2
    exact ⟨⟨a0, a1, a2⟩, rfl⟩
instance : Inhabited TNT := ⟨tnt0⟩
theorem open_tntS {H : Type} {enc : TypeId × Value → H} {W : World} {fuel : Nat} {c : Value} {x : DataW H × List MemPlace} (h : DataW.trod enc Tryz.prog W 0 (fun _ => true) true fuel 24 [c] = some x) : ∃ zs : List TNT, TNTrow W c zs ∧ zs.length ≤ maxLen := by
  rcases Go.Deep.open_slice Tryz.underlying24 h with ⟨hcs, _⟩ | ⟨a, len, cap, m, k, D, Pl, hcs, _, hl, hm, hmm, _, hel⟩
  · obtain rfl : c = .slice none 0 0 := by simpa using hcs
    exact ⟨[], .inl ⟨rfl, none, 0, rfl⟩, Nat.zero_le _⟩
  · obtain rfl : c = .slice (some a) len cap := by simpa using hcs
    rw [if_pos rfl] at hmm
    subst hmm
    rw [cTNT] at hel
    cases len with
    | zero => exact ⟨[], .inl ⟨rfl, _, _, rfl⟩, Nat.zero_le _⟩
    | succ len =>
      have each : ∀ i, i < len + 1 → ∃ z : TNT, (∀ j, j < 3 → W.cell? (a.add (i * 3 + j)) = (tntC z)[j]?) := by
        intro i hi
        obtain ⟨cs', h1, h2⟩ := hel i (by omega)
        obtain ⟨z, rfl⟩ := tnt_one h2
        obtain ⟨_, _, h3⟩ := World.cells?_some h1
        refine ⟨z, fun j hj => ?_⟩
        rw [← Go.Deep.add_add]
        exact h3 j hj
      obtain ⟨f, hf⟩ := Go.Deep.choose_lt each
      have h0 := (hf 0 (by omega)) 0 (by omega)
      have hsp : a.spot = none := by
        cases hs : a.spot with
        | none => rfl
        | some q =>
          simp [Addr.add, World.cell?, hs, tntC] at h0
          cases hq : W.heap[a.block]? with
          | none => simp [hq] at h0
          | some ob => cases ob <;> simp [hq] at h0
      have hlt : a.block < W.heap.size := by
        simp [Addr.add, World.cell?, tntC] at h0
        cases hq : W.heap[a.block]? with
        | none => simp [hq] at h0
        | some ob => exact (Array.getElem?_eq_some_iff.1 hq).1
      obtain ⟨b, o, sp⟩ := a
      simp only at hsp hlt
      subst hsp
      have hadd : ∀ q, Addr.add ⟨b, o, none⟩ q = ⟨b, o + q, none⟩ := fun q => by
        unfold Addr.add
        split
        · subst_vars; rfl
        · rfl
      refine ⟨(List.range (len + 1)).map f, .inr ⟨b, o, m, by simp, by simpa using hl, hlt, fun i hi => ?_⟩, by simp; omega⟩
      have hi2 : i < len + 1 := by simpa using hi
      have hfi : ((List.range (len + 1)).map f)[i] = f i := by simp
      rw [hfi]
      have q := fun j hj => (hf i hi2) j hj
      simp only [hadd] at q
      exact ⟨(q 0 (by omega)), (by rw [Nat.add_assoc]; exact q 1 (by omega)), (by rw [Nat.add_assoc]; exact q 2 (by omega))⟩
end Go.Proofs.YtalpcjclahkgnaaGreat
