import Derived.Test.YtkmbhhkgfofcoaaOwnB
import Derived.Deep.QuietTactic
import Derived.BigRegion
import Derived.Deep.RegionHeld3
import Derived.Laws.MakeOwn
namespace Go.Proofs.Ytkmbhhkgfofcoaa
open Go.ChangeShapes Go.WideShapes Go.ChangeAt Go.RowKit

structure NOD where
  name : ByteArray
  cpu : Int
  mem : Int
  zone : Int
  beat : Int
  fenced : Bool
  closed : Bool
def nodA (m : NOD) : Value := .agg #[.string m.name, .int .i64 m.cpu, .int .i64 m.mem, .int .i64 m.zone, .int .i64 m.beat, .bool m.fenced, .bool m.closed]
def nodC (m : NOD) : List Value := [.string m.name, .int .i64 m.cpu, .int .i64 m.mem, .int .i64 m.zone, .int .i64 m.beat, .bool m.fenced, .bool m.closed]
def nodR (zs : List NOD) : List Value := zs.flatMap nodC
theorem nodR_app (xs ys : List NOD) : nodR (xs ++ ys) = nodR xs ++ nodR ys := by simp [nodR]
theorem nodR_len (zs : List NOD) : (nodR zs).length = zs.length * 7 := by
  induction zs with
  | nil => rfl
  | cons z zs ih =>
    have e : nodR (z :: zs) = nodC z ++ nodR zs := rfl
    rw [e, List.length_append, ih]
    simp [nodC]
    omega
theorem nodR_at (zs : List NOD) (k : Nat) (hk : k < zs.length) (j : Nat) (hj : j < 7) : (nodR zs)[k * 7 + j]? = (nodC zs[k])[j]? := by
  induction zs generalizing k with
  | nil => simp at hk
  | cons z zs ih =>
    have e : nodR (z :: zs) = nodC z ++ nodR zs := rfl
    have hl : (nodC z).length = 7 := rfl
    rw [e]
    cases k with
    | zero =>
      rw [List.getElem?_append_left (by omega)]
      simp
    | succ k =>
      rw [List.getElem?_append_right (by omega), hl, show (k + 1) * 7 + j - 7 = k * 7 + j by omega, ih k (by simpa using hk)]
      simp
theorem nod_sl {w : World} {B n : Nat} {v : Value} {xs : List Value} (h : w.ownsRow B 73 7 v n xs) : ∃ ao cap, v = .slice ao n cap := by
  rcases h.2 with ⟨rfl, e⟩ | ⟨g, cap, cur, rfl, _⟩
  · exact ⟨none, 0, by rw [e]⟩
  · exact ⟨_, cap, rfl⟩
theorem nod_below {w w' : World} {B n : Nat} {v : Value} {xs : List Value} (h : w.ownsRow B 73 7 v n xs) (hb : Below w.heap.size w w') : w'.ownsRow B 73 7 v n xs :=
  h.kept (row := none) ⟨hb.os, hb.tape, hb.output, hb.size, fun k hk _ => hb.block k hk⟩ (by cases v.ownBlock <;> simp)
theorem nod_weak {w : World} {B B' : Nat} {v : Value} {n : Nat} {xs : List Value} (h : w.ownsRow B 73 7 v n xs) (hb : B' ≤ B) : w.ownsRow B' 73 7 v n xs := by
  obtain ⟨hl, h | ⟨g, cap, cur, hv, hg, h1, h2, h3, h4, h5⟩⟩ := h
  · exact ⟨hl, .inl h⟩
  · exact ⟨hl, .inr ⟨g, cap, cur, hv, Nat.le_trans hb hg, h1, h2, h3, h4, h5⟩⟩
theorem nod_cast {w : World} {B n n' : Nat} {v : Value} {xs xs' : List Value} (h : w.ownsRow B 73 7 v n xs) (hn : n = n') (hx : xs = xs') : w.ownsRow B 73 7 v n' xs' := by
  subst hn
  subst hx
  exact h
/-- Where a row lies. -/
def NODat (w : World) (g o : Nat) (zs : List NOD) : Prop := ∀ (k : Nat) (hk : k < zs.length), w.cell? ⟨g, o + k * 7, none⟩ = some (.string zs[k].name) ∧ w.cell? ⟨g, o + k * 7 + 1, none⟩ = some (.int .i64 zs[k].cpu) ∧ w.cell? ⟨g, o + k * 7 + 2, none⟩ = some (.int .i64 zs[k].mem) ∧ w.cell? ⟨g, o + k * 7 + 3, none⟩ = some (.int .i64 zs[k].zone) ∧ w.cell? ⟨g, o + k * 7 + 4, none⟩ = some (.int .i64 zs[k].beat) ∧ w.cell? ⟨g, o + k * 7 + 5, none⟩ = some (.bool zs[k].fenced) ∧ w.cell? ⟨g, o + k * 7 + 6, none⟩ = some (.bool zs[k].closed)
/-- A row that may be read. -/
def NODrow (w : World) (v : Value) (zs : List NOD) : Prop := (zs = [] ∧ ∃ ao cap, v = .slice ao 0 cap) ∨ ∃ g o cap, v = .slice (some ⟨g, o, none⟩) zs.length cap ∧ zs.length ≤ cap ∧ g < w.heap.size ∧ NODat w g o zs
theorem NODat.below {w w' : World} {g o : Nat} {zs : List NOD} (h : NODat w g o zs) {B : Nat} (hb : Below B w w') (hg : g < B) : NODat w' g o zs := by
  intro k hk
  have h2 := h k hk
  have e : ∀ x, w'.cell? ⟨g, x, none⟩ = w.cell? ⟨g, x, none⟩ := fun x => World.cell?_of_block (hb.block g hg)
  simp only [e]
  exact h2
theorem NODrow.below {w w' : World} {v : Value} {zs : List NOD} (h : NODrow w v zs) (hb : Below w.heap.size w w') : NODrow w' v zs := by
  rcases h with h | ⟨g, o, cap, hv, hc, hg, ha⟩
  · exact .inl h
  · exact .inr ⟨g, o, cap, hv, hc, Nat.lt_of_lt_of_le hg hb.size, ha.below hb hg⟩
theorem NODrow.sl {w : World} {v : Value} {zs : List NOD} (h : NODrow w v zs) : ∃ ao cap, v = .slice ao zs.length cap := by
  rcases h with ⟨rfl, ao, cap, rfl⟩ | ⟨g, o, cap, rfl, _⟩
  · exact ⟨_, _, rfl⟩
  · exact ⟨_, _, rfl⟩
theorem NODrow.of {w : World} {B : Nat} {v : Value} {zs : List NOD} (h : w.ownsRow B 73 7 v zs.length (nodR zs)) : NODrow w v zs := by
  rcases h.2 with ⟨rfl, e⟩ | ⟨g, cap, cur, rfl, hB, hg, hc, rest⟩
  · exact .inl ⟨List.length_eq_zero_iff.1 e, _, _, by rfl⟩
  · have h2 : w.ownsRow B 73 7 (.slice (some ⟨g, 0, none⟩) zs.length cap) zs.length (nodR zs) := h
    refine .inr ⟨g, 0, cap, rfl, hc, (Array.getElem?_eq_some_iff.1 hg).1, fun k hk => ?_⟩
    simp only [Nat.zero_add]
    have a0 := h2.cellAt (k * 7 + 0) (by omega)
    have a1 := h2.cellAt (k * 7 + 1) (by omega)
    have a2 := h2.cellAt (k * 7 + 2) (by omega)
    have a3 := h2.cellAt (k * 7 + 3) (by omega)
    have a4 := h2.cellAt (k * 7 + 4) (by omega)
    have a5 := h2.cellAt (k * 7 + 5) (by omega)
    have a6 := h2.cellAt (k * 7 + 6) (by omega)
    rw [nodR_at zs k hk _ (by omega)] at a0 a1 a2 a3 a4 a5 a6
    exact ⟨a0, a1, a2, a3, a4, a5, a6⟩
set_option maxRecDepth 100000 in
set_option maxHeartbeats 4000000 in
theorem eqNOD_ok (m : NOD) (w : World) : Calls Try.prog 50 #[nodA m, nodA m] w fun e w' => e = .returned (.bool true) ∧ Below w.heap.size w w' := by
  unfold nodA
  go_enter Try.func50, Try.ntmps50
  go_wp2
  go_ret
  exact ⟨rfl, ((Below.refl _ _).alloc (Nat.le_refl _) _).alloc (by simp) _⟩
set_option maxRecDepth 100000 in
set_option maxHeartbeats 4000000 in
theorem eqNODS_ok {w : World} {v u : Value} {zs : List NOD} (h : NODrow w v zs) (h' : NODrow w u zs) (hl : zs.length ≤ 1048576) :
    Calls Try.prog 29 #[v, u] w fun e w' => e = .returned (.bool true) ∧ Below w.heap.size w w' := by
  by_cases hz : zs = []
  · subst hz
    obtain ⟨a1, c1, rfl⟩ := h.sl
    obtain ⟨a2, c2, rfl⟩ := h'.sl
    clear h h' hl
    simp only [List.length_nil]
    go_enter Try.func29, Try.ntmps29
    go_wp2
    go_loopw [5] (fun i w5 => i = .int .i64 0 ∧ w5 = w) (fun _ _ => 0)
    case atStart => exact ⟨rfl, rfl⟩
    case round =>
      obtain ⟨rfl, rfl⟩ := hrel
      go_wp2
      go_ret
      exact ⟨rfl, Below.refl _ _⟩
  · obtain ⟨g, o, cap, rfl, _, hg, hc⟩ := h.resolve_left (fun h => hz h.1)
    obtain ⟨g', o', cap', rfl, _, hg', hc'⟩ := h'.resolve_left (fun h => hz h.1)
    clear h h' hz
    go_enter Try.func29, Try.ntmps29
    go_wp2
    go_loopw [5] (fun i w5 => ∃ k : Nat, k ≤ zs.length ∧ i = .int .i64 k ∧ Below w.heap.size w w5) (fun i _ => zs.length - (intOf i).toNat)
    case atStart => exact ⟨0, Nat.zero_le _, rfl, Below.refl _ _⟩
    case round =>
      obtain ⟨k, hk, rfl, hb⟩ := hrel
      by_cases hlt : k < zs.length
      · obtain ⟨d0, d1, d2, d3, d4, d5, d6⟩ := hc.below hb hg k hlt
        obtain ⟨e0, e1, e2, e3, e4, e5, e6⟩ := hc'.below hb hg' k hlt
        generalize zs[k] = z at *
        clear hc hc'
        have hk0 : (0 : Int) ≤ (k : Int) := by omega
        have hk1 : (k : Int) < (zs.length : Int) := by omega
        have hgw : g < wr.heap.size := Nat.lt_of_lt_of_le hg hb.size
        have hgw' : g' < wr.heap.size := Nat.lt_of_lt_of_le hg' hb.size
        have HE : Hid _ := fun w' => eqNOD_ok z w'
        have HB : Hid _ := hb
        unfold nodA at HE
        clear hb
        go_wp2
        go_region_held3 (fun w' => w'.cell? ⟨g, o + k * 7, none⟩ = some (.string z.name) ∧ w'.cell? ⟨g, o + k * 7 + 1, none⟩ = some (.int .i64 z.cpu) ∧ w'.cell? ⟨g, o + k * 7 + 2, none⟩ = some (.int .i64 z.mem) ∧ w'.cell? ⟨g, o + k * 7 + 3, none⟩ = some (.int .i64 z.zone) ∧ w'.cell? ⟨g, o + k * 7 + 4, none⟩ = some (.int .i64 z.beat) ∧ w'.cell? ⟨g, o + k * 7 + 5, none⟩ = some (.bool z.fenced) ∧ w'.cell? ⟨g, o + k * 7 + 6, none⟩ = some (.bool z.closed) ∧ w'.cell? ⟨g', o' + k * 7, none⟩ = some (.string z.name) ∧ w'.cell? ⟨g', o' + k * 7 + 1, none⟩ = some (.int .i64 z.cpu) ∧ w'.cell? ⟨g', o' + k * 7 + 2, none⟩ = some (.int .i64 z.mem) ∧ w'.cell? ⟨g', o' + k * 7 + 3, none⟩ = some (.int .i64 z.zone) ∧ w'.cell? ⟨g', o' + k * 7 + 4, none⟩ = some (.int .i64 z.beat) ∧ w'.cell? ⟨g', o' + k * 7 + 5, none⟩ = some (.bool z.fenced) ∧ w'.cell? ⟨g', o' + k * 7 + 6, none⟩ = some (.bool z.closed)) (go_keep) ((go_at_call 50; refine Calls.mono (HE.out wr.drew) ?_; rintro e u5 ⟨rfl, hu5⟩; have hb5 : Below wr.heap.size wr u5 := ⟨hu5.os, hu5.tape, hu5.output, hu5.size, hu5.block⟩; have HB5 : Hid (Below wr.heap.size wr u5) := hb5; have f0 := (World.cell?_of_block (hb5.block g hgw)).trans d0; have x0 := (World.cell?_of_block (hb5.block g' hgw')).trans e0; have f1 := (World.cell?_of_block (hb5.block g hgw)).trans d1; have x1 := (World.cell?_of_block (hb5.block g' hgw')).trans e1; have f2 := (World.cell?_of_block (hb5.block g hgw)).trans d2; have x2 := (World.cell?_of_block (hb5.block g' hgw')).trans e2; have f3 := (World.cell?_of_block (hb5.block g hgw)).trans d3; have x3 := (World.cell?_of_block (hb5.block g' hgw')).trans e3; have f4 := (World.cell?_of_block (hb5.block g hgw)).trans d4; have x4 := (World.cell?_of_block (hb5.block g' hgw')).trans e4; have f5 := (World.cell?_of_block (hb5.block g hgw)).trans d5; have x5 := (World.cell?_of_block (hb5.block g' hgw')).trans e5; have f6 := (World.cell?_of_block (hb5.block g hgw)).trans d6; have x6 := (World.cell?_of_block (hb5.block g' hgw')).trans e6; clear hu5 hb5))
        all_goals go_wp2
        all_goals go_roundw
        case rel => exact ⟨k + 1, hlt, by go_num, HB.out.trans (HB5.out.mono HB.out.size)⟩
        case measure => simp [intOf]; omega
      · obtain rfl : k = zs.length := by omega
        clear hc hc'
        go_wp2
        go_ret
        exact ⟨rfl, hb⟩
end Go.Proofs.Ytkmbhhkgfofcoaa
