import Derived.Test.YtalpcjclahkgnaaGreatOwnB
import Derived.Deep.QuietTactic
import Derived.BigRegion
import Derived.Deep.RegionHeld3
import Derived.Laws.MakeOwn
import Derived.Deep.Slices
namespace Go.Proofs.YtalpcjclahkgnaaGreat
open Go.ChangeShapes Go.WideShapes Go.ChangeAt Go.RowKit

structure NOD where
  name : ByteArray
  cpu : Int
  mem : Int
  zone : Int
  beat : Int
  fenced : Bool
  closed : Bool
def nodA (m : NOD) : Value := .agg #[.string m.name, .int .i64 m.cpu, .int .i64 m.mem, .int .i64 m.zone, .int .i64 m.beat, .bool m.fenced, .bool m.closed]
def nodC (m : NOD) : List Value := [.string m.name, .int .i64 m.cpu, .int .i64 m.mem, .int .i64 m.zone, .int .i64 m.beat, .bool m.fenced, .bool m.closed]
def nodR (zs : List NOD) : List Value := zs.flatMap nodC
theorem nodR_app (xs ys : List NOD) : nodR (xs ++ ys) = nodR xs ++ nodR ys := by simp [nodR]
theorem nodR_len (zs : List NOD) : (nodR zs).length = zs.length * 7 := by
  induction zs with
  | nil => rfl
  | cons z zs ih =>
    have e : nodR (z :: zs) = nodC z ++ nodR zs := rfl
    rw [e, List.length_append, ih]
    simp [nodC]
    omega
theorem nodR_at (zs : List NOD) (k : Nat) (hk : k < zs.length) (j : Nat) (hj : j < 7) : (nodR zs)[k * 7 + j]? = (nodC zs[k])[j]? := by
  induction zs generalizing k with
  | nil => simp at hk
  | cons z zs ih =>
    have e : nodR (z :: zs) = nodC z ++ nodR zs := rfl
    have hl : (nodC z).length = 7 := rfl
    rw [e]
    cases k with
    | zero =>
      rw [List.getElem?_append_left (by omega)]
      simp
    | succ k =>
      rw [List.getElem?_append_right (by omega), hl, show (k + 1) * 7 + j - 7 = k * 7 + j by omega, ih k (by simpa using hk)]
      simp
theorem nod_sl {w : World} {B n : Nat} {v : Value} {xs : List Value} (h : w.ownsRow B 97 7 v n xs) : ∃ ao cap, v = .slice ao n cap := by
  rcases h.2 with ⟨rfl, e⟩ | ⟨g, cap, cur, rfl, _⟩
  · exact ⟨none, 0, by rw [e]⟩
  · exact ⟨_, cap, rfl⟩
theorem nod_below {w w' : World} {B n : Nat} {v : Value} {xs : List Value} (h : w.ownsRow B 97 7 v n xs) (hb : Below w.heap.size w w') : w'.ownsRow B 97 7 v n xs :=
  h.kept (row := none) ⟨hb.os, hb.tape, hb.output, hb.size, fun k hk _ => hb.block k hk⟩ (by cases v.ownBlock <;> simp)
theorem nod_weak {w : World} {B B' : Nat} {v : Value} {n : Nat} {xs : List Value} (h : w.ownsRow B 97 7 v n xs) (hb : B' ≤ B) : w.ownsRow B' 97 7 v n xs := by
  obtain ⟨hl, h | ⟨g, cap, cur, hv, hg, h1, h2, h3, h4, h5⟩⟩ := h
  · exact ⟨hl, .inl h⟩
  · exact ⟨hl, .inr ⟨g, cap, cur, hv, Nat.le_trans hb hg, h1, h2, h3, h4, h5⟩⟩
theorem nod_cast {w : World} {B n n' : Nat} {v : Value} {xs xs' : List Value} (h : w.ownsRow B 97 7 v n xs) (hn : n = n') (hx : xs = xs') : w.ownsRow B 97 7 v n' xs' := by
  subst hn
  subst hx
  exact h
/-- Where a row lies. -/
def NODat (w : World) (g o : Nat) (zs : List NOD) : Prop := ∀ (k : Nat) (hk : k < zs.length), w.cell? ⟨g, o + k * 7, none⟩ = some (.string zs[k].name) ∧ w.cell? ⟨g, o + k * 7 + 1, none⟩ = some (.int .i64 zs[k].cpu) ∧ w.cell? ⟨g, o + k * 7 + 2, none⟩ = some (.int .i64 zs[k].mem) ∧ w.cell? ⟨g, o + k * 7 + 3, none⟩ = some (.int .i64 zs[k].zone) ∧ w.cell? ⟨g, o + k * 7 + 4, none⟩ = some (.int .i64 zs[k].beat) ∧ w.cell? ⟨g, o + k * 7 + 5, none⟩ = some (.bool zs[k].fenced) ∧ w.cell? ⟨g, o + k * 7 + 6, none⟩ = some (.bool zs[k].closed)
/-- A row that may be read. -/
def NODrow (w : World) (v : Value) (zs : List NOD) : Prop := (zs = [] ∧ ∃ ao cap, v = .slice ao 0 cap) ∨ ∃ g o cap, v = .slice (some ⟨g, o, none⟩) zs.length cap ∧ zs.length ≤ cap ∧ g < w.heap.size ∧ NODat w g o zs
theorem NODat.below {w w' : World} {g o : Nat} {zs : List NOD} (h : NODat w g o zs) {B : Nat} (hb : Below B w w') (hg : g < B) : NODat w' g o zs := by
  intro k hk
  have h2 := h k hk
  have e : ∀ x, w'.cell? ⟨g, x, none⟩ = w.cell? ⟨g, x, none⟩ := fun x => World.cell?_of_block (hb.block g hg)
  simp only [e]
  exact h2
theorem NODrow.below {w w' : World} {v : Value} {zs : List NOD} (h : NODrow w v zs) (hb : Below w.heap.size w w') : NODrow w' v zs := by
  rcases h with h | ⟨g, o, cap, hv, hc, hg, ha⟩
  · exact .inl h
  · exact .inr ⟨g, o, cap, hv, hc, Nat.lt_of_lt_of_le hg hb.size, ha.below hb hg⟩
theorem NODrow.sl {w : World} {v : Value} {zs : List NOD} (h : NODrow w v zs) : ∃ ao cap, v = .slice ao zs.length cap := by
  rcases h with ⟨rfl, ao, cap, rfl⟩ | ⟨g, o, cap, rfl, _⟩
  · exact ⟨_, _, rfl⟩
  · exact ⟨_, _, rfl⟩
theorem NODrow.of {w : World} {B : Nat} {v : Value} {zs : List NOD} (h : w.ownsRow B 97 7 v zs.length (nodR zs)) : NODrow w v zs := by
  rcases h.2 with ⟨rfl, e⟩ | ⟨g, cap, cur, rfl, hB, hg, hc, rest⟩
  · exact .inl ⟨List.length_eq_zero_iff.1 e, _, _, by rfl⟩
  · have h2 : w.ownsRow B 97 7 (.slice (some ⟨g, 0, none⟩) zs.length cap) zs.length (nodR zs) := h
    refine .inr ⟨g, 0, cap, rfl, hc, (Array.getElem?_eq_some_iff.1 hg).1, fun k hk => ?_⟩
    simp only [Nat.zero_add]
    have a0 := h2.cellAt (k * 7 + 0) (by omega)
    have a1 := h2.cellAt (k * 7 + 1) (by omega)
    have a2 := h2.cellAt (k * 7 + 2) (by omega)
    have a3 := h2.cellAt (k * 7 + 3) (by omega)
    have a4 := h2.cellAt (k * 7 + 4) (by omega)
    have a5 := h2.cellAt (k * 7 + 5) (by omega)
    have a6 := h2.cellAt (k * 7 + 6) (by omega)
    rw [nodR_at zs k hk _ (by omega)] at a0 a1 a2 a3 a4 a5 a6
    exact ⟨a0, a1, a2, a3, a4, a5, a6⟩
set_option maxRecDepth 100000 in
set_option maxHeartbeats 4000000 in
theorem eqNOD_ok (m : NOD) (w : World) : Calls Tryz.prog 66 #[nodA m, nodA m] w fun e w' => e = .returned (.bool true) ∧ Below w.heap.size w w' := by
  unfold nodA
  go_enter Tryz.func66, Tryz.ntmps66
  go_wp2
  go_ret
  exact ⟨rfl, ((Below.refl _ _).alloc (Nat.le_refl _) _).alloc (by simp) _⟩
set_option maxRecDepth 100000 in
set_option maxHeartbeats 4000000 in
theorem eqNODS_ok {w : World} {v u : Value} {zs : List NOD} (h : NODrow w v zs) (h' : NODrow w u zs) (hl : zs.length ≤ 1048576) :
    Calls Tryz.prog 41 #[v, u] w fun e w' => e = .returned (.bool true) ∧ Below w.heap.size w w' := by
  by_cases hz : zs = []
  · subst hz
    obtain ⟨a1, c1, rfl⟩ := h.sl
    obtain ⟨a2, c2, rfl⟩ := h'.sl
    clear h h' hl
    simp only [List.length_nil]
    go_enter Tryz.func41, Tryz.ntmps41
    go_wp2
    go_loopw [5] (fun i w5 => i = .int .i64 0 ∧ w5 = w) (fun _ _ => 0)
    case atStart => exact ⟨rfl, rfl⟩
    case round =>
      obtain ⟨rfl, rfl⟩ := hrel
      go_wp2
      go_ret
      exact ⟨rfl, Below.refl _ _⟩
  · obtain ⟨g, o, cap, rfl, _, hg, hc⟩ := h.resolve_left (fun h => hz h.1)
    obtain ⟨g', o', cap', rfl, _, hg', hc'⟩ := h'.resolve_left (fun h => hz h.1)
    clear h h' hz
    go_enter Tryz.func41, Tryz.ntmps41
    go_wp2
    go_loopw [5] (fun i w5 => ∃ k : Nat, k ≤ zs.length ∧ i = .int .i64 k ∧ Below w.heap.size w w5) (fun i _ => zs.length - (intOf i).toNat)
    case atStart => exact ⟨0, Nat.zero_le _, rfl, Below.refl _ _⟩
    case round =>
      obtain ⟨k, hk, rfl, hb⟩ := hrel
      by_cases hlt : k < zs.length
      · obtain ⟨d0, d1, d2, d3, d4, d5, d6⟩ := hc.below hb hg k hlt
        obtain ⟨e0, e1, e2, e3, e4, e5, e6⟩ := hc'.below hb hg' k hlt
        generalize zs[k] = z at *
        clear hc hc'
        have hk0 : (0 : Int) ≤ (k : Int) := by omega
        have hk1 : (k : Int) < (zs.length : Int) := by omega
        have hgw : g < wr.heap.size := Nat.lt_of_lt_of_le hg hb.size
        have hgw' : g' < wr.heap.size := Nat.lt_of_lt_of_le hg' hb.size
        have HE : Hid _ := fun w' => eqNOD_ok z w'
        have HB : Hid _ := hb
        unfold nodA at HE
        clear hb
        go_wp2
        go_region_held3 (fun w' => w'.cell? ⟨g, o + k * 7, none⟩ = some (.string z.name) ∧ w'.cell? ⟨g, o + k * 7 + 1, none⟩ = some (.int .i64 z.cpu) ∧ w'.cell? ⟨g, o + k * 7 + 2, none⟩ = some (.int .i64 z.mem) ∧ w'.cell? ⟨g, o + k * 7 + 3, none⟩ = some (.int .i64 z.zone) ∧ w'.cell? ⟨g, o + k * 7 + 4, none⟩ = some (.int .i64 z.beat) ∧ w'.cell? ⟨g, o + k * 7 + 5, none⟩ = some (.bool z.fenced) ∧ w'.cell? ⟨g, o + k * 7 + 6, none⟩ = some (.bool z.closed) ∧ w'.cell? ⟨g', o' + k * 7, none⟩ = some (.string z.name) ∧ w'.cell? ⟨g', o' + k * 7 + 1, none⟩ = some (.int .i64 z.cpu) ∧ w'.cell? ⟨g', o' + k * 7 + 2, none⟩ = some (.int .i64 z.mem) ∧ w'.cell? ⟨g', o' + k * 7 + 3, none⟩ = some (.int .i64 z.zone) ∧ w'.cell? ⟨g', o' + k * 7 + 4, none⟩ = some (.int .i64 z.beat) ∧ w'.cell? ⟨g', o' + k * 7 + 5, none⟩ = some (.bool z.fenced) ∧ w'.cell? ⟨g', o' + k * 7 + 6, none⟩ = some (.bool z.closed)) (go_keep) ((go_at_call 66; refine Calls.mono (HE.out wr.drew) ?_; rintro e u5 ⟨rfl, hu5⟩; have hb5 : Below wr.heap.size wr u5 := ⟨hu5.os, hu5.tape, hu5.output, hu5.size, hu5.block⟩; have HB5 : Hid (Below wr.heap.size wr u5) := hb5; have f0 := (World.cell?_of_block (hb5.block g hgw)).trans d0; have x0 := (World.cell?_of_block (hb5.block g' hgw')).trans e0; have f1 := (World.cell?_of_block (hb5.block g hgw)).trans d1; have x1 := (World.cell?_of_block (hb5.block g' hgw')).trans e1; have f2 := (World.cell?_of_block (hb5.block g hgw)).trans d2; have x2 := (World.cell?_of_block (hb5.block g' hgw')).trans e2; have f3 := (World.cell?_of_block (hb5.block g hgw)).trans d3; have x3 := (World.cell?_of_block (hb5.block g' hgw')).trans e3; have f4 := (World.cell?_of_block (hb5.block g hgw)).trans d4; have x4 := (World.cell?_of_block (hb5.block g' hgw')).trans e4; have f5 := (World.cell?_of_block (hb5.block g hgw)).trans d5; have x5 := (World.cell?_of_block (hb5.block g' hgw')).trans e5; have f6 := (World.cell?_of_block (hb5.block g hgw)).trans d6; have x6 := (World.cell?_of_block (hb5.block g' hgw')).trans e6; clear hu5 hb5))
        all_goals go_wp2
        all_goals go_roundw
        case rel => exact ⟨k + 1, hlt, by go_num, HB.out.trans (HB5.out.mono HB.out.size)⟩
        case measure => simp [intOf]; omega
      · obtain rfl : k = zs.length := by omega
        clear hc hc'
        go_wp2
        go_ret
        exact ⟨rfl, hb⟩

theorem nodR_set (zs : List NOD) (k : Nat) (m : NOD) (hk : k < zs.length) : ((((((((nodR zs).set (k * 7) (.string m.name)).set (k * 7 + 1) (.int .i64 m.cpu)).set (k * 7 + 2) (.int .i64 m.mem)).set (k * 7 + 3) (.int .i64 m.zone)).set (k * 7 + 4) (.int .i64 m.beat)).set (k * 7 + 5) (.bool m.fenced)).set (k * 7 + 6) (.bool m.closed)) = nodR (zs.set k m) := by
  induction zs generalizing k with
  | nil => simp at hk
  | cons z zs ih =>
    have e : nodR (z :: zs) = nodC z ++ nodR zs := rfl
    have hl : (nodC z).length = 7 := rfl
    cases k with
    | zero =>
      rw [e, List.set_cons_zero]
      show _ = nodC m ++ nodR zs
      rfl
    | succ k =>
      rw [e, List.set_cons_succ]
      show _ = nodC z ++ nodR (zs.set k m)
      rw [List.set_append_right _ _ (by omega), List.set_append_right _ _ (by omega), List.set_append_right _ _ (by omega), List.set_append_right _ _ (by omega), List.set_append_right _ _ (by omega), List.set_append_right _ _ (by omega), List.set_append_right _ _ (by omega), hl,
        show (k + 1) * 7 - 7 = k * 7 by omega, show (k + 1) * 7 + 1 - 7 = k * 7 + 1 by omega, show (k + 1) * 7 + 2 - 7 = k * 7 + 2 by omega, show (k + 1) * 7 + 3 - 7 = k * 7 + 3 by omega, show (k + 1) * 7 + 4 - 7 = k * 7 + 4 by omega, show (k + 1) * 7 + 5 - 7 = k * 7 + 5 by omega, show (k + 1) * 7 + 6 - 7 = k * 7 + 6 by omega, ih k (by simpa using hk)]
theorem gbNOD {w0 w u : World} {r : Option Nat} (h : w0.grownBy w r) (hg : w.grownBy u r) : w0.grownBy u r :=
  ⟨hg.os.trans h.os, hg.tape.trans h.tape, hg.output.trans h.output, Nat.le_trans h.size hg.size, fun k hk hn => (hg.block k (Nat.lt_of_lt_of_le hk h.size) hn).trans (h.block k hk hn)⟩
theorem nod_cells {w : World} {B g cap m : Nat} {zs : List NOD} (h : w.ownsRow B 97 7 (.slice (some ⟨g, 0, none⟩) m cap) m (nodR zs)) (hm : zs.length = m) (k : Nat) (hk : k < zs.length) : ∃ y : NOD, w.cell? ⟨g, k * 7, none⟩ = some (.string y.name) ∧ w.cell? ⟨g, k * 7 + 1, none⟩ = some (.int .i64 y.cpu) ∧ w.cell? ⟨g, k * 7 + 2, none⟩ = some (.int .i64 y.mem) ∧ w.cell? ⟨g, k * 7 + 3, none⟩ = some (.int .i64 y.zone) ∧ w.cell? ⟨g, k * 7 + 4, none⟩ = some (.int .i64 y.beat) ∧ w.cell? ⟨g, k * 7 + 5, none⟩ = some (.bool y.fenced) ∧ w.cell? ⟨g, k * 7 + 6, none⟩ = some (.bool y.closed) := by
  subst hm
  rcases NODrow.of h with ⟨e, _⟩ | ⟨g2, o, cap2, hv, _, _, hc⟩
  · rw [e] at hk
    simp at hk
  · injection hv with e1
    injection e1 with e2
    obtain ⟨rfl, rfl⟩ : g = g2 ∧ 0 = o := ⟨congrArg Addr.block e2, congrArg Addr.off e2⟩
    have h3 := hc k hk
    simp only [Nat.zero_add] at h3
    exact ⟨zs[k], h3⟩
/-- An element put. -/
theorem own_setNOD {w : World} {B g cap : Nat} {zs : List NOD} (h : w.ownsRow B 97 7 (.slice (some ⟨g, 0, none⟩) zs.length cap) zs.length (nodR zs)) (k : Nat) (hk : k < zs.length) (m : NOD) :
    (((((((w.setCell ⟨g, k * 7, none⟩ (.string m.name)).setCell ⟨g, k * 7 + 1, none⟩ (.int .i64 m.cpu)).setCell ⟨g, k * 7 + 2, none⟩ (.int .i64 m.mem)).setCell ⟨g, k * 7 + 3, none⟩ (.int .i64 m.zone)).setCell ⟨g, k * 7 + 4, none⟩ (.int .i64 m.beat)).setCell ⟨g, k * 7 + 5, none⟩ (.bool m.fenced)).setCell ⟨g, k * 7 + 6, none⟩ (.bool m.closed)).ownsRow B 97 7 (.slice (some ⟨g, 0, none⟩) zs.length cap) zs.length (nodR (zs.set k m)) ∧
    w.grownBy (((((((w.setCell ⟨g, k * 7, none⟩ (.string m.name)).setCell ⟨g, k * 7 + 1, none⟩ (.int .i64 m.cpu)).setCell ⟨g, k * 7 + 2, none⟩ (.int .i64 m.mem)).setCell ⟨g, k * 7 + 3, none⟩ (.int .i64 m.zone)).setCell ⟨g, k * 7 + 4, none⟩ (.int .i64 m.beat)).setCell ⟨g, k * 7 + 5, none⟩ (.bool m.fenced)).setCell ⟨g, k * 7 + 6, none⟩ (.bool m.closed)) (some g) := by
  have s1 := h.stored (k * 7) (.string m.name)
  have s2 := s1.1.stored (k * 7 + 1) (.int .i64 m.cpu)
  have s3 := s2.1.stored (k * 7 + 2) (.int .i64 m.mem)
  have s4 := s3.1.stored (k * 7 + 3) (.int .i64 m.zone)
  have s5 := s4.1.stored (k * 7 + 4) (.int .i64 m.beat)
  have s6 := s5.1.stored (k * 7 + 5) (.bool m.fenced)
  have s7 := s6.1.stored (k * 7 + 6) (.bool m.closed)
  rw [nodR_set zs k m hk] at s7
  exact ⟨s7.1, (gbNOD (gbNOD (gbNOD (gbNOD (gbNOD (gbNOD s1.2 s2.2) s3.2) s4.2) s5.2) s6.2) s7.2)⟩

def nod0 : NOD := ⟨⟨#[]⟩, 0, 0, 0, 0, false, false⟩
/-- So many are copied. -/
def nodJ (j : Nat) (zs : List NOD) : List NOD := zs.take j ++ List.replicate (zs.length - j) nod0
theorem nodJ_len (j : Nat) (zs : List NOD) (h : j ≤ zs.length) : (nodJ j zs).length = zs.length := by simp [nodJ]; omega
theorem nodJ_step (j : Nat) (zs : List NOD) (h : j < zs.length) : (nodJ j zs).set j zs[j] = nodJ (j + 1) zs := by
  unfold nodJ
  have hl : (zs.take j).length = j := by rw [List.length_take]; omega
  rw [List.set_append_right _ _ (by omega), hl, Nat.sub_self, show zs.length - j = (zs.length - (j + 1)) + 1 by omega, List.replicate_succ, List.set_cons_zero, List.take_succ_eq_append_getElem h, List.append_assoc]
  rfl
theorem nodJ_all (zs : List NOD) : nodJ zs.length zs = zs := by simp [nodJ]
theorem nodJ_zero (zs : List NOD) : nodJ 0 zs = List.replicate zs.length nod0 := by simp [nodJ]
theorem nod_made (m : Nat) : (madeCells #[.string ⟨#[]⟩, .int .i64 0, .int .i64 0, .int .i64 0, .int .i64 0, .bool false, .bool false] (m * 7)).toList = nodR (List.replicate m nod0) := by
  apply List.ext_getElem?
  intro i
  by_cases hi : i < m * 7
  · have hq : i = i / 7 * 7 + i % 7 := by omega
    have h2 := nodR_at (List.replicate m nod0) (i / 7) (by rw [List.length_replicate]; omega) (i % 7) (by omega)
    rw [← hq] at h2
    rw [h2, List.getElem_replicate]
    have hl : (madeCells #[.string ⟨#[]⟩, .int .i64 0, .int .i64 0, .int .i64 0, .int .i64 0, .bool false, .bool false] (m * 7)).toList.length = m * 7 := by simp [madeCells]
    rw [List.getElem?_eq_getElem (by omega)]
    have : i % 7 < 7 := Nat.mod_lt _ (by omega)
    generalize hr : i % 7 = r at *
    simp only [madeCells, Array.getElem_toList, Array.getElem_map, Array.getElem_range, List.size_toArray, List.length_cons, List.length_nil]
    rw [show i % (0 + 1 + 1 + 1 + 1 + 1 + 1 + 1) = r by simpa using hr]
    match r, this with
    | 0, _ => rfl
    | 1, _ => rfl
    | 2, _ => rfl
    | 3, _ => rfl
    | 4, _ => rfl
    | 5, _ => rfl
    | 6, _ => rfl
  · rw [List.getElem?_eq_none (by simp [madeCells]; omega), List.getElem?_eq_none (by rw [nodR_len]; simp; omega)]
theorem nod_zero : (Tryz.prog.info? 97).map (fun i => (i.zero, i.size)) = some (some (.agg #[.string ⟨#[]⟩, .int .i64 0, .int .i64 0, .int .i64 0, .int .i64 0, .bool false, .bool false]), 7) := by kernel_rfl
theorem nod_bytes : ∀ i, Tryz.prog.info? 97 = some i → i.bytes ≤ 64 := by
  intro i h
  have e : (Tryz.prog.info? 97).map (fun i => decide (i.bytes ≤ 64)) = some true := by kernel_rfl
  rw [h] at e
  simpa using e
theorem nod_mk (w : World) (m : Nat) (hm : m ≤ 1048576) : (Instr.makeSlice 33 (.int .i64 m) (.int .i64 m)).run Tryz.prog w = .ok (.slice (some ⟨w.heap.size, 0, none⟩) m m) (w.alloc (.cells (nodR (List.replicate m nod0)).toArray 97)) := by
  have h1 := nod_zero
  cases hq : Tryz.prog.info? 97 with
  | none => simp [hq] at h1
  | some i =>
    have hb := nod_bytes i hq
    simp [hq] at h1
    have h3 : i.bytes * m ≤ 64 * 1048576 := Nat.mul_le_mul hb hm
    have hbm : (i.bytes : Int) * (m : Int) ≤ 281474976710656 := by
      rw [← Int.natCast_mul]
      omega
    have hr := run_make (P := Tryz.prog) w 33 97 i _ Tryz.underlying33 hq h1.1 .i64 .i64 m m (by omega) (by omega) hbm (by omega)
    rw [hr, h1.2]
    simp only [Int.toNat_natCast, Value.cells]
    rw [← nod_made]
theorem nod_own0 (w : World) (m : Nat) (hm : m ≤ 1048576) : (w.alloc (.cells (nodR (List.replicate m nod0)).toArray 97)).ownsRow w.heap.size 97 7 (.slice (some ⟨w.heap.size, 0, none⟩) m m) m (nodR (List.replicate m nod0)) := by
  have hl := nodR_len (List.replicate m nod0)
  rw [List.length_replicate] at hl
  refine ⟨hl, .inr ⟨w.heap.size, m, _, rfl, Nat.le_refl _, (MapKept.heap_alloc w _).1, Nat.le_refl _, by unfold maxLen; omega, by simpa using hl, ?_⟩⟩
  rw [← hl]
  simp
set_option maxRecDepth 100000 in
set_option maxHeartbeats 4000000 in
theorem toNOD_any (m : NOD) (w : World) : Calls Tryz.prog 49 #[nodA m] w fun e w' => e = .returned (nodA m) ∧ Below w.heap.size w w' := by
  unfold nodA
  go_enter Tryz.func49, Tryz.ntmps49
  go_wp2
  refine bodyPost_ret (v := nodA m) (by simp [results, Tryz.results49, go_sem, nodA]) rfl ⟨rfl, ?_⟩
  exact (((Below.refl _ _).alloc (Nat.le_refl _) _).alloc (by simp) _).alloc (by simp; omega) _
set_option maxRecDepth 100000 in
set_option maxHeartbeats 4000000 in
theorem toNODS_any {w : World} {v : Value} {zs : List NOD} (h : NODrow w v zs) (hl : zs.length ≤ 1048576) :
    Calls Tryz.prog 32 #[v] w fun e w' => ∃ u, e = .returned u ∧ w'.ownsRow w.heap.size 97 7 u zs.length (nodR zs) ∧ Below w.heap.size w w' := by
  obtain ⟨ao, cap, rfl⟩ := h.sl
  have hmk := nod_mk w zs.length hl
  have HO : Hid ((w.alloc (.cells (nodR (List.replicate zs.length nod0)).toArray 97)).ownsRow w.heap.size 97 7 (.slice (some ⟨w.heap.size, 0, none⟩) zs.length zs.length) zs.length (nodR (List.replicate zs.length nod0))) := nod_own0 w zs.length hl
  have HR : Hid (NODrow w (.slice ao zs.length cap) zs) := h
  clear h
  go_enter Tryz.func32, Tryz.ntmps32
  go_wp2
  go_loopw [4] (fun i wr => ∃ k : Nat, k ≤ zs.length ∧ i = .int .i64 k ∧ wr.ownsRow w.heap.size 97 7 (.slice (some ⟨w.heap.size, 0, none⟩) zs.length zs.length) zs.length (nodR (nodJ k zs)) ∧ Below w.heap.size w wr) (fun i _ => zs.length - (intOf i).toNat)
  case atStart => exact ⟨0, Nat.zero_le _, rfl, by rw [nodJ_zero]; exact HO.out, (Below.refl _ _).alloc (Nat.le_refl _) _⟩
  case round =>
    obtain ⟨k, hk, rfl, hown, hb⟩ := hrel
    clear hmk
    by_cases hlt : k < zs.length
    · obtain ⟨g, o, cap2, hv, _, hg, hc⟩ := HR.out.resolve_left (fun h => by rw [h.1] at hlt; simp at hlt)
      injection hv with hv1 hv2 hv3
      subst hv1 hv3
      obtain ⟨d0, d1, d2, d3, d4, d5, d6⟩ := hc.below hb hg k hlt
      have hlen := nodJ_len k zs hk
      have hown2 : wr.ownsRow w.heap.size 97 7 (.slice (some ⟨w.heap.size, 0, none⟩) (nodJ k zs).length zs.length) (nodJ k zs).length (nodR (nodJ k zs)) := by rw [hlen]; exact hown
      have HOW : Hid (wr.ownsRow w.heap.size 97 7 (.slice (some ⟨w.heap.size, 0, none⟩) (nodJ k zs).length zs.length) (nodJ k zs).length (nodR (nodJ k zs))) := hown2
      have hTO := fun w' => toNOD_any zs[k] w'
      have HZ : Hid _ := nodJ_step k zs hlt
      generalize zs[k] = z at *
      have HB : Hid _ := hb
      have hk0 : (0 : Int) ≤ (k : Int) := by omega
      have hk1 : (k : Int) < (zs.length : Int) := by omega
      have hgw : g < wr.heap.size := Nat.lt_of_lt_of_le hg hb.size
      have HTO : Hid _ := hTO
      unfold nodA at HTO
      clear hc hown hown2 hb hTO
      go_wp2_with (go_at_call 49; refine Calls.mono (HTO.out _) ?_; rintro e u5 ⟨rfl, hu5⟩; have HB5 : Hid (Below wr.heap.size wr u5) := hu5; have HO5 : Hid (u5.ownsRow w.heap.size 97 7 (.slice (some ⟨w.heap.size, 0, none⟩) (nodJ k zs).length zs.length) (nodJ k zs).length (nodR (nodJ k zs))) := nod_below HOW.out hu5; obtain ⟨y, y0, y1, y2, y3, y4, y5, y6⟩ := nod_cells HO5.out rfl k (by omega); have hfz := HO5.out.frozenAt; clear hu5)
      have st := own_setNOD HO5.out k (by omega) z
      rw [HZ.out, hlen] at st
      have hb6 : Below w.heap.size w u5 := HB.out.trans (HB5.out.mono HB.out.size)
      refine ⟨⟨k + 1, hlt, by simp, st.1, hb6.grown st.2 hb6.size (fun j hj => by cases hj; exact Nat.le_refl _)⟩, ?_⟩
      simp [intOf]
      omega
    · obtain rfl : k = zs.length := by omega
      rw [nodJ_all] at hown
      have HO2 : Hid _ := hown
      clear hown
      go_wp2
      go_ret
      exact ⟨_, rfl, HO2.out, hb⟩

theorem cNOD : Tryz.prog.cellsOf 93 = 7 := by kernel_rfl
theorem ciNOD : Tryz.prog.cellsOf 2 = 1 := by kernel_rfl
theorem cbNOD : Tryz.prog.cellsOf 4 = 1 := by kernel_rfl
theorem csNOD : Tryz.prog.cellsOf 9 = 1 := by kernel_rfl
theorem listNOD {α : Type} {cs : List α} (h : cs.length = 7) : ∃ x0 x1 x2 x3 x4 x5 x6, cs = [x0, x1, x2, x3, x4, x5, x6] := by
  match cs, h with
  | [x0, x1, x2, x3, x4, x5, x6], _ => exact ⟨x0, x1, x2, x3, x4, x5, x6, rfl⟩
theorem nod_one {H : Type} {enc : TypeId × Value → H} {W : World} {fuel : Nat} {cs : List Value} {x : DataW H × List MemPlace} (h : DataW.trod enc Tryz.prog W 0 (fun _ => true) true fuel 93 cs = some x) : ∃ z : NOD, cs = nodC z ∧ z.name.size ≤ maxLen := by
  obtain ⟨xs, m, _, hx, hl, hlen, hel⟩ := DataW.trod_struct Tryz.underlying93 h
  obtain ⟨x0, x1, x2, x3, x4, x5, x6, rfl⟩ := listNOD (hl.trans cNOD)
  match xs, hlen, hel, hx with
  | [y0, y1, y2, y3, y4, y5, y6], _, hel, hx =>
    have g0 := hel 0 _ rfl
    have g1 := hel 1 _ rfl
    have g2 := hel 2 _ rfl
    have g3 := hel 3 _ rfl
    have g4 := hel 4 _ rfl
    have g5 := hel 5 _ rfl
    have g6 := hel 6 _ rfl
    obtain ⟨a0, e0, _, w0⟩ := DataW.trod_string Tryz.underlying9 g0
    obtain ⟨a1, e1, _, _⟩ := DataW.trod_int Tryz.underlying2 g1
    obtain ⟨a2, e2, _, _⟩ := DataW.trod_int Tryz.underlying2 g2
    obtain ⟨a3, e3, _, _⟩ := DataW.trod_int Tryz.underlying2 g3
    obtain ⟨a4, e4, _, _⟩ := DataW.trod_int Tryz.underlying2 g4
    obtain ⟨a5, e5, _⟩ := DataW.trod_bool Tryz.underlying4 g5
    obtain ⟨a6, e6, _⟩ := DataW.trod_bool Tryz.underlying4 g6
    simp [ciNOD, cbNOD, csNOD] at e0 e1 e2 e3 e4 e5 e6
    subst e0 e1 e2 e3 e4 e5 e6
    exact ⟨⟨a0, a1, a2, a3, a4, a5, a6⟩, rfl, w0⟩
instance : Inhabited NOD := ⟨nod0⟩
theorem open_nodS {H : Type} {enc : TypeId × Value → H} {W : World} {fuel : Nat} {c : Value} {x : DataW H × List MemPlace} (h : DataW.trod enc Tryz.prog W 0 (fun _ => true) true fuel 22 [c] = some x) : ∃ zs : List NOD, NODrow W c zs ∧ zs.length ≤ maxLen ∧ ∀ z ∈ zs, z.name.size ≤ maxLen := by
  rcases Go.Deep.open_slice Tryz.underlying22 h with ⟨hcs, _⟩ | ⟨a, len, cap, m, k, D, Pl, hcs, _, hl, hm, hmm, _, hel⟩
  · obtain rfl : c = .slice none 0 0 := by simpa using hcs
    exact ⟨[], .inl ⟨rfl, none, 0, rfl⟩, Nat.zero_le _, fun z hz => by cases hz⟩
  · obtain rfl : c = .slice (some a) len cap := by simpa using hcs
    rw [if_pos rfl] at hmm
    subst hmm
    rw [cNOD] at hel
    cases len with
    | zero => exact ⟨[], .inl ⟨rfl, _, _, rfl⟩, Nat.zero_le _, fun z hz => by cases hz⟩
    | succ len =>
      have each : ∀ i, i < len + 1 → ∃ z : NOD, (∀ j, j < 7 → W.cell? (a.add (i * 7 + j)) = (nodC z)[j]?) ∧ z.name.size ≤ maxLen := by
        intro i hi
        obtain ⟨cs', h1, h2⟩ := hel i (by omega)
        obtain ⟨z, rfl, q0⟩ := nod_one h2
        obtain ⟨_, _, h3⟩ := World.cells?_some h1
        refine ⟨z, fun j hj => ?_, q0⟩
        rw [← Go.Deep.add_add]
        exact h3 j hj
      obtain ⟨f, hf⟩ := Go.Deep.choose_lt each
      have h0 := (hf 0 (by omega)).1 0 (by omega)
      have hsp : a.spot = none := by
        cases hs : a.spot with
        | none => rfl
        | some q =>
          simp [Addr.add, World.cell?, hs, nodC] at h0
          cases hq : W.heap[a.block]? with
          | none => simp [hq] at h0
          | some ob => cases ob <;> simp [hq] at h0
      have hlt : a.block < W.heap.size := by
        simp [Addr.add, World.cell?, nodC] at h0
        cases hq : W.heap[a.block]? with
        | none => simp [hq] at h0
        | some ob => exact (Array.getElem?_eq_some_iff.1 hq).1
      obtain ⟨b, o, sp⟩ := a
      simp only at hsp hlt
      subst hsp
      have hadd : ∀ q, Addr.add ⟨b, o, none⟩ q = ⟨b, o + q, none⟩ := fun q => by
        unfold Addr.add
        split
        · subst_vars; rfl
        · rfl
      refine ⟨(List.range (len + 1)).map f, .inr ⟨b, o, m, by simp, by simpa using hl, hlt, fun i hi => ?_⟩, by simp; omega, fun z hz => ?_⟩
      case refine_2 =>
        obtain ⟨i, hi, rfl⟩ := List.mem_map.1 hz
        exact (hf i (by simpa using hi)).2
      have hi2 : i < len + 1 := by simpa using hi
      have hfi : ((List.range (len + 1)).map f)[i] = f i := by simp
      rw [hfi]
      have q := fun j hj => (hf i hi2).1 j hj
      simp only [hadd] at q
      exact ⟨(q 0 (by omega)), (by rw [Nat.add_assoc]; exact q 1 (by omega)), (by rw [Nat.add_assoc]; exact q 2 (by omega)), (by rw [Nat.add_assoc]; exact q 3 (by omega)), (by rw [Nat.add_assoc]; exact q 4 (by omega)), (by rw [Nat.add_assoc]; exact q 5 (by omega)), (by rw [Nat.add_assoc]; exact q 6 (by omega))⟩
end Go.Proofs.YtalpcjclahkgnaaGreat
