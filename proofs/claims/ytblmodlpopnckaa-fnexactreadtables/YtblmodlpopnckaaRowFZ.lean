import Derived.Test.YtblmodlpopnckaaOwnB
import Derived.Deep.QuietTactic
import Derived.BigRegion
import Derived.Deep.RegionHeld3
import Derived.Laws.MakeOwn
namespace Go.Proofs.Ytblmodlpopnckaa
open Go.ChangeShapes Go.WideShapes Go.ChangeAt Go.RowKit

structure FT where
  name : ByteArray
  rev : Int
  body : ByteArray
def ftA (m : FT) : Value := .agg #[.string m.name, .int .i64 m.rev, .string m.body]
def ftC (m : FT) : List Value := [.string m.name, .int .i64 m.rev, .string m.body]
def ftR (zs : List FT) : List Value := zs.flatMap ftC
theorem ftR_app (xs ys : List FT) : ftR (xs ++ ys) = ftR xs ++ ftR ys := by simp [ftR]
theorem ftR_len (zs : List FT) : (ftR zs).length = zs.length * 3 := by
  induction zs with
  | nil => rfl
  | cons z zs ih =>
    have e : ftR (z :: zs) = ftC z ++ ftR zs := rfl
    rw [e, List.length_append, ih]
    simp [ftC]
    omega
theorem ftR_at (zs : List FT) (k : Nat) (hk : k < zs.length) (j : Nat) (hj : j < 3) : (ftR zs)[k * 3 + j]? = (ftC zs[k])[j]? := by
  induction zs generalizing k with
  | nil => simp at hk
  | cons z zs ih =>
    have e : ftR (z :: zs) = ftC z ++ ftR zs := rfl
    have hl : (ftC z).length = 3 := rfl
    rw [e]
    cases k with
    | zero =>
      rw [List.getElem?_append_left (by omega)]
      simp
    | succ k =>
      rw [List.getElem?_append_right (by omega), hl, show (k + 1) * 3 + j - 3 = k * 3 + j by omega, ih k (by simpa using hk)]
      simp
theorem ft_sl {w : World} {B n : Nat} {v : Value} {xs : List Value} (h : w.ownsRow B 40 3 v n xs) : ∃ ao cap, v = .slice ao n cap := by
  rcases h.2 with ⟨rfl, e⟩ | ⟨g, cap, cur, rfl, _⟩
  · exact ⟨none, 0, by rw [e]⟩
  · exact ⟨_, cap, rfl⟩
theorem ft_below {w w' : World} {B n : Nat} {v : Value} {xs : List Value} (h : w.ownsRow B 40 3 v n xs) (hb : Below w.heap.size w w') : w'.ownsRow B 40 3 v n xs :=
  h.kept (row := none) ⟨hb.os, hb.tape, hb.output, hb.size, fun k hk _ => hb.block k hk⟩ (by cases v.ownBlock <;> simp)
theorem ft_weak {w : World} {B B' : Nat} {v : Value} {n : Nat} {xs : List Value} (h : w.ownsRow B 40 3 v n xs) (hb : B' ≤ B) : w.ownsRow B' 40 3 v n xs := by
  obtain ⟨hl, h | ⟨g, cap, cur, hv, hg, h1, h2, h3, h4, h5⟩⟩ := h
  · exact ⟨hl, .inl h⟩
  · exact ⟨hl, .inr ⟨g, cap, cur, hv, Nat.le_trans hb hg, h1, h2, h3, h4, h5⟩⟩
theorem ft_cast {w : World} {B n n' : Nat} {v : Value} {xs xs' : List Value} (h : w.ownsRow B 40 3 v n xs) (hn : n = n') (hx : xs = xs') : w.ownsRow B 40 3 v n' xs' := by
  subst hn
  subst hx
  exact h
/-- Where a row lies. -/
def FTat (w : World) (g o : Nat) (zs : List FT) : Prop := ∀ (k : Nat) (hk : k < zs.length), w.cell? ⟨g, o + k * 3, none⟩ = some (.string zs[k].name) ∧ w.cell? ⟨g, o + k * 3 + 1, none⟩ = some (.int .i64 zs[k].rev) ∧ w.cell? ⟨g, o + k * 3 + 2, none⟩ = some (.string zs[k].body)
/-- A row that may be read. -/
def FTrow (w : World) (v : Value) (zs : List FT) : Prop := (zs = [] ∧ ∃ ao cap, v = .slice ao 0 cap) ∨ ∃ g o cap, v = .slice (some ⟨g, o, none⟩) zs.length cap ∧ zs.length ≤ cap ∧ g < w.heap.size ∧ FTat w g o zs
theorem FTat.below {w w' : World} {g o : Nat} {zs : List FT} (h : FTat w g o zs) {B : Nat} (hb : Below B w w') (hg : g < B) : FTat w' g o zs := by
  intro k hk
  have h2 := h k hk
  have e : ∀ x, w'.cell? ⟨g, x, none⟩ = w.cell? ⟨g, x, none⟩ := fun x => World.cell?_of_block (hb.block g hg)
  simp only [e]
  exact h2
theorem FTrow.below {w w' : World} {v : Value} {zs : List FT} (h : FTrow w v zs) (hb : Below w.heap.size w w') : FTrow w' v zs := by
  rcases h with h | ⟨g, o, cap, hv, hc, hg, ha⟩
  · exact .inl h
  · exact .inr ⟨g, o, cap, hv, hc, Nat.lt_of_lt_of_le hg hb.size, ha.below hb hg⟩
theorem FTrow.sl {w : World} {v : Value} {zs : List FT} (h : FTrow w v zs) : ∃ ao cap, v = .slice ao zs.length cap := by
  rcases h with ⟨rfl, ao, cap, rfl⟩ | ⟨g, o, cap, rfl, _⟩
  · exact ⟨_, _, rfl⟩
  · exact ⟨_, _, rfl⟩
theorem FTrow.of {w : World} {B : Nat} {v : Value} {zs : List FT} (h : w.ownsRow B 40 3 v zs.length (ftR zs)) : FTrow w v zs := by
  rcases h.2 with ⟨rfl, e⟩ | ⟨g, cap, cur, rfl, hB, hg, hc, rest⟩
  · exact .inl ⟨List.length_eq_zero_iff.1 e, _, _, by rfl⟩
  · have h2 : w.ownsRow B 40 3 (.slice (some ⟨g, 0, none⟩) zs.length cap) zs.length (ftR zs) := h
    refine .inr ⟨g, 0, cap, rfl, hc, (Array.getElem?_eq_some_iff.1 hg).1, fun k hk => ?_⟩
    simp only [Nat.zero_add]
    have a0 := h2.cellAt (k * 3 + 0) (by omega)
    have a1 := h2.cellAt (k * 3 + 1) (by omega)
    have a2 := h2.cellAt (k * 3 + 2) (by omega)
    rw [ftR_at zs k hk _ (by omega)] at a0 a1 a2
    exact ⟨a0, a1, a2⟩
set_option maxRecDepth 100000 in
set_option maxHeartbeats 4000000 in
theorem eqFT_ok (m : FT) (w : World) : Calls Try.prog 37 #[ftA m, ftA m] w fun e w' => e = .returned (.bool true) ∧ Below w.heap.size w w' := by
  unfold ftA
  go_enter Try.func37, Try.ntmps37
  go_wp2
  go_ret
  exact ⟨rfl, ((Below.refl _ _).alloc (Nat.le_refl _) _).alloc (by simp) _⟩
set_option maxRecDepth 100000 in
set_option maxHeartbeats 4000000 in
theorem eqFTS_ok {w : World} {v u : Value} {zs : List FT} (h : FTrow w v zs) (h' : FTrow w u zs) (hl : zs.length ≤ 1048576) :
    Calls Try.prog 14 #[v, u] w fun e w' => e = .returned (.bool true) ∧ Below w.heap.size w w' := by
  by_cases hz : zs = []
  · subst hz
    obtain ⟨a1, c1, rfl⟩ := h.sl
    obtain ⟨a2, c2, rfl⟩ := h'.sl
    clear h h' hl
    simp only [List.length_nil]
    go_enter Try.func14, Try.ntmps14
    go_wp2
    go_loopw [5] (fun i w5 => i = .int .i64 0 ∧ w5 = w) (fun _ _ => 0)
    case atStart => exact ⟨rfl, rfl⟩
    case round =>
      obtain ⟨rfl, rfl⟩ := hrel
      go_wp2
      go_ret
      exact ⟨rfl, Below.refl _ _⟩
  · obtain ⟨g, o, cap, rfl, _, hg, hc⟩ := h.resolve_left (fun h => hz h.1)
    obtain ⟨g', o', cap', rfl, _, hg', hc'⟩ := h'.resolve_left (fun h => hz h.1)
    clear h h' hz
    go_enter Try.func14, Try.ntmps14
    go_wp2
    go_loopw [5] (fun i w5 => ∃ k : Nat, k ≤ zs.length ∧ i = .int .i64 k ∧ Below w.heap.size w w5) (fun i _ => zs.length - (intOf i).toNat)
    case atStart => exact ⟨0, Nat.zero_le _, rfl, Below.refl _ _⟩
    case round =>
      obtain ⟨k, hk, rfl, hb⟩ := hrel
      by_cases hlt : k < zs.length
      · obtain ⟨d0, d1, d2⟩ := hc.below hb hg k hlt
        obtain ⟨e0, e1, e2⟩ := hc'.below hb hg' k hlt
        generalize zs[k] = z at *
        clear hc hc'
        have hk0 : (0 : Int) ≤ (k : Int) := by omega
        have hk1 : (k : Int) < (zs.length : Int) := by omega
        have hgw : g < wr.heap.size := Nat.lt_of_lt_of_le hg hb.size
        have hgw' : g' < wr.heap.size := Nat.lt_of_lt_of_le hg' hb.size
        have HE : Hid _ := fun w' => eqFT_ok z w'
        have HB : Hid _ := hb
        unfold ftA at HE
        clear hb
        go_wp2
        go_region_held3 (fun w' => w'.cell? ⟨g, o + k * 3, none⟩ = some (.string z.name) ∧ w'.cell? ⟨g, o + k * 3 + 1, none⟩ = some (.int .i64 z.rev) ∧ w'.cell? ⟨g, o + k * 3 + 2, none⟩ = some (.string z.body) ∧ w'.cell? ⟨g', o' + k * 3, none⟩ = some (.string z.name) ∧ w'.cell? ⟨g', o' + k * 3 + 1, none⟩ = some (.int .i64 z.rev) ∧ w'.cell? ⟨g', o' + k * 3 + 2, none⟩ = some (.string z.body)) (go_keep) ((go_at_call 37; refine Calls.mono (HE.out wr.drew) ?_; rintro e u5 ⟨rfl, hu5⟩; have hb5 : Below wr.heap.size wr u5 := ⟨hu5.os, hu5.tape, hu5.output, hu5.size, hu5.block⟩; have HB5 : Hid (Below wr.heap.size wr u5) := hb5; have f0 := (World.cell?_of_block (hb5.block g hgw)).trans d0; have x0 := (World.cell?_of_block (hb5.block g' hgw')).trans e0; have f1 := (World.cell?_of_block (hb5.block g hgw)).trans d1; have x1 := (World.cell?_of_block (hb5.block g' hgw')).trans e1; have f2 := (World.cell?_of_block (hb5.block g hgw)).trans d2; have x2 := (World.cell?_of_block (hb5.block g' hgw')).trans e2; clear hu5 hb5))
        all_goals go_wp2
        all_goals go_roundw
        case rel => exact ⟨k + 1, hlt, by go_num, HB.out.trans (HB5.out.mono HB.out.size)⟩
        case measure => simp [intOf]; omega
      · obtain rfl : k = zs.length := by omega
        clear hc hc'
        go_wp2
        go_ret
        exact ⟨rfl, hb⟩

theorem ftR_set (zs : List FT) (k : Nat) (m : FT) (hk : k < zs.length) : ((((ftR zs).set (k * 3) (.string m.name)).set (k * 3 + 1) (.int .i64 m.rev)).set (k * 3 + 2) (.string m.body)) = ftR (zs.set k m) := by
  induction zs generalizing k with
  | nil => simp at hk
  | cons z zs ih =>
    have e : ftR (z :: zs) = ftC z ++ ftR zs := rfl
    have hl : (ftC z).length = 3 := rfl
    cases k with
    | zero =>
      rw [e, List.set_cons_zero]
      show _ = ftC m ++ ftR zs
      rfl
    | succ k =>
      rw [e, List.set_cons_succ]
      show _ = ftC z ++ ftR (zs.set k m)
      rw [List.set_append_right _ _ (by omega), List.set_append_right _ _ (by omega), List.set_append_right _ _ (by omega), hl,
        show (k + 1) * 3 - 3 = k * 3 by omega, show (k + 1) * 3 + 1 - 3 = k * 3 + 1 by omega, show (k + 1) * 3 + 2 - 3 = k * 3 + 2 by omega, ih k (by simpa using hk)]
theorem gbFT {w0 w u : World} {r : Option Nat} (h : w0.grownBy w r) (hg : w.grownBy u r) : w0.grownBy u r :=
  ⟨hg.os.trans h.os, hg.tape.trans h.tape, hg.output.trans h.output, Nat.le_trans h.size hg.size, fun k hk hn => (hg.block k (Nat.lt_of_lt_of_le hk h.size) hn).trans (h.block k hk hn)⟩
theorem ft_cells {w : World} {B g cap m : Nat} {zs : List FT} (h : w.ownsRow B 40 3 (.slice (some ⟨g, 0, none⟩) m cap) m (ftR zs)) (hm : zs.length = m) (k : Nat) (hk : k < zs.length) : ∃ y : FT, w.cell? ⟨g, k * 3, none⟩ = some (.string y.name) ∧ w.cell? ⟨g, k * 3 + 1, none⟩ = some (.int .i64 y.rev) ∧ w.cell? ⟨g, k * 3 + 2, none⟩ = some (.string y.body) := by
  subst hm
  rcases FTrow.of h with ⟨e, _⟩ | ⟨g2, o, cap2, hv, _, _, hc⟩
  · rw [e] at hk
    simp at hk
  · injection hv with e1
    injection e1 with e2
    obtain ⟨rfl, rfl⟩ : g = g2 ∧ 0 = o := ⟨congrArg Addr.block e2, congrArg Addr.off e2⟩
    have h3 := hc k hk
    simp only [Nat.zero_add] at h3
    exact ⟨zs[k], h3⟩
/-- An element put. -/
theorem own_setFT {w : World} {B g cap : Nat} {zs : List FT} (h : w.ownsRow B 40 3 (.slice (some ⟨g, 0, none⟩) zs.length cap) zs.length (ftR zs)) (k : Nat) (hk : k < zs.length) (m : FT) :
    (((w.setCell ⟨g, k * 3, none⟩ (.string m.name)).setCell ⟨g, k * 3 + 1, none⟩ (.int .i64 m.rev)).setCell ⟨g, k * 3 + 2, none⟩ (.string m.body)).ownsRow B 40 3 (.slice (some ⟨g, 0, none⟩) zs.length cap) zs.length (ftR (zs.set k m)) ∧
    w.grownBy (((w.setCell ⟨g, k * 3, none⟩ (.string m.name)).setCell ⟨g, k * 3 + 1, none⟩ (.int .i64 m.rev)).setCell ⟨g, k * 3 + 2, none⟩ (.string m.body)) (some g) := by
  have s1 := h.stored (k * 3) (.string m.name)
  have s2 := s1.1.stored (k * 3 + 1) (.int .i64 m.rev)
  have s3 := s2.1.stored (k * 3 + 2) (.string m.body)
  rw [ftR_set zs k m hk] at s3
  exact ⟨s3.1, (gbFT (gbFT s1.2 s2.2) s3.2)⟩

def ft0 : FT := ⟨⟨#[]⟩, 0, ⟨#[]⟩⟩
/-- So many are copied. -/
def ftJ (j : Nat) (zs : List FT) : List FT := zs.take j ++ List.replicate (zs.length - j) ft0
theorem ftJ_len (j : Nat) (zs : List FT) (h : j ≤ zs.length) : (ftJ j zs).length = zs.length := by simp [ftJ]; omega
theorem ftJ_step (j : Nat) (zs : List FT) (h : j < zs.length) : (ftJ j zs).set j zs[j] = ftJ (j + 1) zs := by
  unfold ftJ
  have hl : (zs.take j).length = j := by rw [List.length_take]; omega
  rw [List.set_append_right _ _ (by omega), hl, Nat.sub_self, show zs.length - j = (zs.length - (j + 1)) + 1 by omega, List.replicate_succ, List.set_cons_zero, List.take_succ_eq_append_getElem h, List.append_assoc]
  rfl
theorem ftJ_all (zs : List FT) : ftJ zs.length zs = zs := by simp [ftJ]
theorem ftJ_zero (zs : List FT) : ftJ 0 zs = List.replicate zs.length ft0 := by simp [ftJ]
theorem ft_made (m : Nat) : (madeCells #[.string ⟨#[]⟩, .int .i64 0, .string ⟨#[]⟩] (m * 3)).toList = ftR (List.replicate m ft0) := by
  apply List.ext_getElem?
  intro i
  by_cases hi : i < m * 3
  · have hq : i = i / 3 * 3 + i % 3 := by omega
    have h2 := ftR_at (List.replicate m ft0) (i / 3) (by rw [List.length_replicate]; omega) (i % 3) (by omega)
    rw [← hq] at h2
    rw [h2, List.getElem_replicate]
    have hl : (madeCells #[.string ⟨#[]⟩, .int .i64 0, .string ⟨#[]⟩] (m * 3)).toList.length = m * 3 := by simp [madeCells]
    rw [List.getElem?_eq_getElem (by omega)]
    have : i % 3 < 3 := Nat.mod_lt _ (by omega)
    generalize hr : i % 3 = r at *
    simp only [madeCells, Array.getElem_toList, Array.getElem_map, Array.getElem_range, List.size_toArray, List.length_cons, List.length_nil]
    rw [show i % (0 + 1 + 1 + 1) = r by simpa using hr]
    match r, this with
    | 0, _ => rfl
    | 1, _ => rfl
    | 2, _ => rfl
  · rw [List.getElem?_eq_none (by simp [madeCells]; omega), List.getElem?_eq_none (by rw [ftR_len]; simp; omega)]
theorem ft_zero : (Try.prog.info? 40).map (fun i => (i.zero, i.size)) = some (some (.agg #[.string ⟨#[]⟩, .int .i64 0, .string ⟨#[]⟩]), 3) := by kernel_rfl
theorem ft_bytes : ∀ i, Try.prog.info? 40 = some i → i.bytes ≤ 40 := by
  intro i h
  have e : (Try.prog.info? 40).map (fun i => decide (i.bytes ≤ 40)) = some true := by kernel_rfl
  rw [h] at e
  simpa using e
theorem ft_mk (w : World) (m : Nat) (hm : m ≤ 1048576) : (Instr.makeSlice 22 (.int .i64 m) (.int .i64 m)).run Try.prog w = .ok (.slice (some ⟨w.heap.size, 0, none⟩) m m) (w.alloc (.cells (ftR (List.replicate m ft0)).toArray 40)) := by
  have h1 := ft_zero
  cases hq : Try.prog.info? 40 with
  | none => simp [hq] at h1
  | some i =>
    have hb := ft_bytes i hq
    simp [hq] at h1
    have h3 : i.bytes * m ≤ 40 * 1048576 := Nat.mul_le_mul hb hm
    have hbm : (i.bytes : Int) * (m : Int) ≤ 281474976710656 := by
      rw [← Int.natCast_mul]
      omega
    have hr := run_make (P := Try.prog) w 22 40 i _ Try.underlying22 hq h1.1 .i64 .i64 m m (by omega) (by omega) hbm (by omega)
    rw [hr, h1.2]
    simp only [Int.toNat_natCast, Value.cells]
    rw [← ft_made]
theorem ft_own0 (w : World) (m : Nat) (hm : m ≤ 1048576) : (w.alloc (.cells (ftR (List.replicate m ft0)).toArray 40)).ownsRow w.heap.size 40 3 (.slice (some ⟨w.heap.size, 0, none⟩) m m) m (ftR (List.replicate m ft0)) := by
  have hl := ftR_len (List.replicate m ft0)
  rw [List.length_replicate] at hl
  refine ⟨hl, .inr ⟨w.heap.size, m, _, rfl, Nat.le_refl _, (MapKept.heap_alloc w _).1, Nat.le_refl _, by unfold maxLen; omega, by simpa using hl, ?_⟩⟩
  rw [← hl]
  simp
set_option maxRecDepth 100000 in
set_option maxHeartbeats 4000000 in
theorem toFT_any (m : FT) (w : World) : Calls Try.prog 31 #[ftA m] w fun e w' => e = .returned (ftA m) ∧ Below w.heap.size w w' := by
  unfold ftA
  go_enter Try.func31, Try.ntmps31
  go_wp2
  refine bodyPost_ret (v := ftA m) (by simp [results, Try.results31, go_sem, ftA]) rfl ⟨rfl, ?_⟩
  exact (((Below.refl _ _).alloc (Nat.le_refl _) _).alloc (by simp) _).alloc (by simp; omega) _
set_option maxRecDepth 100000 in
set_option maxHeartbeats 4000000 in
theorem toFTS_any {w : World} {v : Value} {zs : List FT} (h : FTrow w v zs) (hl : zs.length ≤ 1048576) :
    Calls Try.prog 12 #[v] w fun e w' => ∃ u, e = .returned u ∧ w'.ownsRow w.heap.size 40 3 u zs.length (ftR zs) ∧ Below w.heap.size w w' := by
  obtain ⟨ao, cap, rfl⟩ := h.sl
  have hmk := ft_mk w zs.length hl
  have HO : Hid ((w.alloc (.cells (ftR (List.replicate zs.length ft0)).toArray 40)).ownsRow w.heap.size 40 3 (.slice (some ⟨w.heap.size, 0, none⟩) zs.length zs.length) zs.length (ftR (List.replicate zs.length ft0))) := ft_own0 w zs.length hl
  have HR : Hid (FTrow w (.slice ao zs.length cap) zs) := h
  clear h
  go_enter Try.func12, Try.ntmps12
  go_wp2
  go_loopw [4] (fun i wr => ∃ k : Nat, k ≤ zs.length ∧ i = .int .i64 k ∧ wr.ownsRow w.heap.size 40 3 (.slice (some ⟨w.heap.size, 0, none⟩) zs.length zs.length) zs.length (ftR (ftJ k zs)) ∧ Below w.heap.size w wr) (fun i _ => zs.length - (intOf i).toNat)
  case atStart => exact ⟨0, Nat.zero_le _, rfl, by rw [ftJ_zero]; exact HO.out, (Below.refl _ _).alloc (Nat.le_refl _) _⟩
  case round =>
    obtain ⟨k, hk, rfl, hown, hb⟩ := hrel
    clear hmk
    by_cases hlt : k < zs.length
    · obtain ⟨g, o, cap2, hv, _, hg, hc⟩ := HR.out.resolve_left (fun h => by rw [h.1] at hlt; simp at hlt)
      injection hv with hv1 hv2 hv3
      subst hv1 hv3
      obtain ⟨d0, d1, d2⟩ := hc.below hb hg k hlt
      have hlen := ftJ_len k zs hk
      have hown2 : wr.ownsRow w.heap.size 40 3 (.slice (some ⟨w.heap.size, 0, none⟩) (ftJ k zs).length zs.length) (ftJ k zs).length (ftR (ftJ k zs)) := by rw [hlen]; exact hown
      have HOW : Hid (wr.ownsRow w.heap.size 40 3 (.slice (some ⟨w.heap.size, 0, none⟩) (ftJ k zs).length zs.length) (ftJ k zs).length (ftR (ftJ k zs))) := hown2
      have hTO := fun w' => toFT_any zs[k] w'
      have HZ : Hid _ := ftJ_step k zs hlt
      generalize zs[k] = z at *
      have HB : Hid _ := hb
      have hk0 : (0 : Int) ≤ (k : Int) := by omega
      have hk1 : (k : Int) < (zs.length : Int) := by omega
      have hgw : g < wr.heap.size := Nat.lt_of_lt_of_le hg hb.size
      have HTO : Hid _ := hTO
      unfold ftA at HTO
      clear hc hown hown2 hb hTO
      go_wp2_with (go_at_call 31; refine Calls.mono (HTO.out _) ?_; rintro e u5 ⟨rfl, hu5⟩; have HB5 : Hid (Below wr.heap.size wr u5) := hu5; have HO5 : Hid (u5.ownsRow w.heap.size 40 3 (.slice (some ⟨w.heap.size, 0, none⟩) (ftJ k zs).length zs.length) (ftJ k zs).length (ftR (ftJ k zs))) := ft_below HOW.out hu5; obtain ⟨y, y0, y1, y2⟩ := ft_cells HO5.out rfl k (by omega); have hfz := HO5.out.frozenAt; clear hu5)
      have st := own_setFT HO5.out k (by omega) z
      rw [HZ.out, hlen] at st
      have hb6 : Below w.heap.size w u5 := HB.out.trans (HB5.out.mono HB.out.size)
      refine ⟨⟨k + 1, hlt, by simp, st.1, hb6.grown st.2 hb6.size (fun j hj => by cases hj; exact Nat.le_refl _)⟩, ?_⟩
      simp [intOf]
      omega
    · obtain rfl : k = zs.length := by omega
      rw [ftJ_all] at hown
      have HO2 : Hid _ := hown
      clear hown
      go_wp2
      go_ret
      exact ⟨_, rfl, HO2.out, hb⟩
end Go.Proofs.Ytblmodlpopnckaa
