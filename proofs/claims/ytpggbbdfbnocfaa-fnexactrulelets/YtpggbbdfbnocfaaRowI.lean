import Derived.Test.YtpggbbdfbnocfaaOwnB
import Derived.Deep.QuietTactic
import Derived.BigRegion
import Derived.Deep.RegionHeld3
import Derived.Laws.MakeOwn
import Derived.Deep.Slices
namespace Go.Proofs.Ytpggbbdfbnocfaa
open Go.ChangeShapes Go.WideShapes Go.ChangeAt Go.RowKit

/-- The cells of a row of numbers. -/
def iR (zs : List Int) : List Value := zs.map (Value.int .i64)
theorem iR_len (zs : List Int) : (iR zs).length = zs.length * 1 := by simp [iR]
theorem i_sl {w : World} {B n : Nat} {v : Value} {xs : List Value} (h : w.ownsRow B 2 1 v n xs) : ∃ ao cap, v = .slice ao n cap := by
  rcases h.2 with ⟨rfl, e⟩ | ⟨g, cap, cur, rfl, _⟩
  · exact ⟨none, 0, by rw [e]⟩
  · exact ⟨_, cap, rfl⟩
def Iat (w : World) (g o : Nat) (zs : List Int) : Prop := ∀ (k : Nat) (hk : k < zs.length), w.cell? ⟨g, o + k, none⟩ = some (.int .i64 zs[k])
def Irow (w : World) (v : Value) (zs : List Int) : Prop := (zs = [] ∧ ∃ ao cap, v = .slice ao 0 cap) ∨ ∃ g o cap, v = .slice (some ⟨g, o, none⟩) zs.length cap ∧ zs.length ≤ cap ∧ g < w.heap.size ∧ Iat w g o zs
theorem Iat.below {w w' : World} {g o : Nat} {zs : List Int} (h : Iat w g o zs) {B : Nat} (hb : Below B w w') (hg : g < B) : Iat w' g o zs := by
  intro k hk
  have h2 := h k hk
  have e : ∀ x, w'.cell? ⟨g, x, none⟩ = w.cell? ⟨g, x, none⟩ := fun x => World.cell?_of_block (hb.block g hg)
  simp only [e]
  exact h2
theorem Irow.below {w w' : World} {v : Value} {zs : List Int} (h : Irow w v zs) (hb : Below w.heap.size w w') : Irow w' v zs := by
  rcases h with h | ⟨g, o, cap, hv, hc, hg, ha⟩
  · exact .inl h
  · exact .inr ⟨g, o, cap, hv, hc, Nat.lt_of_lt_of_le hg hb.size, ha.below hb hg⟩
theorem Irow.sl {w : World} {v : Value} {zs : List Int} (h : Irow w v zs) : ∃ ao cap, v = .slice ao zs.length cap := by
  rcases h with ⟨rfl, ao, cap, rfl⟩ | ⟨g, o, cap, rfl, _⟩
  · exact ⟨_, _, rfl⟩
  · exact ⟨_, _, rfl⟩
theorem Irow.of {w : World} {B : Nat} {v : Value} {zs : List Int} (h : w.ownsRow B 2 1 v zs.length (iR zs)) : Irow w v zs := by
  rcases h.2 with ⟨rfl, e⟩ | ⟨g, cap, cur, rfl, hB, hg, hc, rest⟩
  · exact .inl ⟨List.length_eq_zero_iff.1 e, _, _, by rfl⟩
  · have h2 : w.ownsRow B 2 1 (.slice (some ⟨g, 0, none⟩) zs.length cap) zs.length (iR zs) := h
    refine .inr ⟨g, 0, cap, rfl, hc, (Array.getElem?_eq_some_iff.1 hg).1, fun k hk => ?_⟩
    have a0 := h2.cellAt k (by omega)
    simp only [Nat.zero_add]
    rw [a0]
    simp [iR, List.getElem?_eq_getElem hk]
set_option maxRecDepth 100000 in
set_option maxHeartbeats 4000000 in
theorem eqIS_ok {w : World} {v u : Value} {zs : List Int} (h : Irow w v zs) (h' : Irow w u zs) (hl : zs.length ≤ 1048576) :
    Calls Try.prog 80 #[v, u] w fun e w' => e = .returned (.bool true) ∧ Below w.heap.size w w' := by
  obtain ⟨a1, c1, rfl⟩ := h.sl
  obtain ⟨a2, c2, rfl⟩ := h'.sl
  have HR : Hid (Irow w (.slice a1 zs.length c1) zs) := h
  have HR' : Hid (Irow w (.slice a2 zs.length c2) zs) := h'
  clear h h'
  go_enter Try.func80, Try.ntmps80
  go_wp2
  go_loopw [5] (fun i w5 => ∃ k : Nat, k ≤ zs.length ∧ i = .int .i64 k ∧ w5.heap = w.heap ∧ Below w.heap.size w w5) (fun i _ => zs.length - (intOf i).toNat)
  case atStart => exact ⟨0, Nat.zero_le _, rfl, rfl, Below.refl _ _⟩
  case round =>
    obtain ⟨k, hk, rfl, hh, hb⟩ := hrel
    by_cases hlt : k < zs.length
    · obtain ⟨g, o, cap2, hv, _, hg, hc⟩ := HR.out.resolve_left (fun h => by rw [h.1] at hlt; simp at hlt)
      injection hv with hv1 hv2 hv3
      subst hv1 hv3
      obtain ⟨g', o', cap3, hv, _, hg', hc'⟩ := HR'.out.resolve_left (fun h => by rw [h.1] at hlt; simp at hlt)
      injection hv with hv1 hv2 hv3
      subst hv1 hv3
      have d1 := hc.below hb hg k hlt
      have d2 := hc'.below hb hg' k hlt
      generalize zs[k] = z at *
      clear hc hc'
      have hk0 : (0 : Int) ≤ (k : Int) := by omega
      have hk1 : (k : Int) < (zs.length : Int) := by omega
      go_wp2
      go_region
      all_goals go_wp2
      go_roundw
      case rel => exact ⟨k + 1, hlt, by go_num, hh, hb.trans ⟨rfl, rfl, rfl, Nat.le_refl _, fun _ _ => rfl⟩⟩
      case measure => simp [intOf]; omega
    · obtain rfl : k = zs.length := by omega
      go_wp2
      go_ret
      exact ⟨rfl, hb⟩
set_option maxRecDepth 100000 in
set_option maxHeartbeats 4000000 in
theorem szIS_any (ao : Option Addr) (m cap : Nat) (l : Int) (w : World) (h0 : 0 ≤ l) (h1 : l ≤ 1048576) (hm : m ≤ maxLen) : Calls Try.prog 67 #[.slice ao m cap, .int .i64 l] w fun e w' => e = .returned (.int .i64 (if l < (m : Int) then -1 else l - m)) ∧ w' = w := by
  unfold maxLen at hm
  by_cases h : l < (m : Int)
  · rw [if_pos h]
    have h2 : l - (m : Int) < 0 := by omega
    have hw : IntKind.i64.wrap (l - (m : Int)) = l - (m : Int) := by rw [IntKind.wrap_i64]; omega
    have HH : Hid _ := h
    clear hm h h1 h0
    go_enter Try.func67, Try.ntmps67
    go_wp2
    go_ret
    exact ⟨rfl, rfl⟩
  · rw [if_neg h]
    have h2 : ¬ l - (m : Int) < 0 := by omega
    have hw : IntKind.i64.wrap (l - (m : Int)) = l - (m : Int) := by rw [IntKind.wrap_i64]; omega
    clear hm h h1 h0
    go_enter Try.func67, Try.ntmps67
    go_wp2
    go_ret
    exact ⟨rfl, rfl⟩
/-- So many are copied. -/
def iJ (j : Nat) (zs : List Int) : List Int := zs.take j ++ List.replicate (zs.length - j) 0
theorem iJ_len (j : Nat) (zs : List Int) (h : j ≤ zs.length) : (iJ j zs).length = zs.length := by simp [iJ]; omega
theorem iJ_step (j : Nat) (zs : List Int) (h : j < zs.length) : (iR (iJ j zs)).set j (.int .i64 zs[j]) = iR (iJ (j + 1) zs) := by
  unfold iJ iR
  have hl : (zs.take j).length = j := by rw [List.length_take]; omega
  rw [← List.map_set, List.set_append_right _ _ (by omega), hl, Nat.sub_self, show zs.length - j = (zs.length - (j + 1)) + 1 by omega, List.replicate_succ, List.set_cons_zero, List.take_succ_eq_append_getElem h, List.append_assoc]
  rfl
theorem iJ_all (zs : List Int) : iJ zs.length zs = zs := by simp [iJ]
theorem iJ_zero (zs : List Int) : iJ 0 zs = List.replicate zs.length 0 := by simp [iJ]
theorem i_made (m : Nat) : madeCells #[.int .i64 0] m = (iR (List.replicate m 0)).toArray := by
  apply Array.ext
  · simp [madeCells, iR]
  · intro i h1 h2
    simp [madeCells, iR, Nat.mod_one]
theorem i_mk (w : World) (m : Nat) (hm : m ≤ 1048576) : (Instr.makeSlice 79 (.int .i64 m) (.int .i64 m)).run Try.prog w = .ok (.slice (some ⟨w.heap.size, 0, none⟩) m m) (w.alloc (.cells (iR (List.replicate m 0)).toArray 2)) := by
  obtain ⟨i0, hi, hz0, hz1, hz2⟩ := info_parts Try.info2
  have hr := run_make (P := Try.prog) w 79 2 i0 (.int .i64 0) Try.underlying79 hi hz0 .i64 .i64 m m (by omega) (by omega) (by rw [hz2]; omega) (by omega)
  rw [hr, hz1, Int.toNat_natCast, Nat.mul_one, ← i_made]
  rfl
theorem i_own0 (w : World) (m : Nat) (hm : m ≤ 1048576) : (w.alloc (.cells (iR (List.replicate m 0)).toArray 2)).ownsRow w.heap.size 2 1 (.slice (some ⟨w.heap.size, 0, none⟩) m m) m (iR (List.replicate m 0)) := by
  have hl := iR_len (List.replicate m 0)
  rw [List.length_replicate] at hl
  refine ⟨hl, .inr ⟨w.heap.size, m, _, rfl, Nat.le_refl _, (MapKept.heap_alloc w _).1, Nat.le_refl _, by unfold maxLen; omega, by simpa using hl, ?_⟩⟩
  rw [← hl]
  simp
set_option maxRecDepth 100000 in
set_option maxHeartbeats 4000000 in
theorem toIS_any {w : World} {v : Value} {zs : List Int} (h : Irow w v zs) (hl : zs.length ≤ 1048576) :
    Calls Try.prog 69 #[v] w fun e w' => ∃ u, e = .returned u ∧ w'.ownsRow w.heap.size 2 1 u zs.length (iR zs) ∧ Below w.heap.size w w' := by
  obtain ⟨ao, cap, rfl⟩ := h.sl
  have hmk := i_mk w zs.length hl
  have HO : Hid ((w.alloc (.cells (iR (List.replicate zs.length 0)).toArray 2)).ownsRow w.heap.size 2 1 (.slice (some ⟨w.heap.size, 0, none⟩) zs.length zs.length) zs.length (iR (List.replicate zs.length 0))) := i_own0 w zs.length hl
  have HR : Hid (Irow w (.slice ao zs.length cap) zs) := h
  clear h
  go_enter Try.func69, Try.ntmps69
  go_wp2
  go_loopw [4] (fun i wr => ∃ k : Nat, k ≤ zs.length ∧ i = .int .i64 k ∧ wr.ownsRow w.heap.size 2 1 (.slice (some ⟨w.heap.size, 0, none⟩) zs.length zs.length) zs.length (iR (iJ k zs)) ∧ Below w.heap.size w wr) (fun i _ => zs.length - (intOf i).toNat)
  case atStart => exact ⟨0, Nat.zero_le _, rfl, by rw [iJ_zero]; exact HO.out, (Below.refl _ _).alloc (Nat.le_refl _) _⟩
  case round =>
    obtain ⟨k, hk, rfl, hown, hb⟩ := hrel
    clear hmk
    by_cases hlt : k < zs.length
    · obtain ⟨g, o, cap2, hv, _, hg, hc⟩ := HR.out.resolve_left (fun h => by rw [h.1] at hlt; simp at hlt)
      injection hv with hv1 hv2 hv3
      subst hv1 hv3
      have d0 := hc.below hb hg k hlt
      have st := hown.stored k (.int .i64 zs[k])
      rw [iJ_step k zs hlt] at st
      obtain ⟨y, hy⟩ : ∃ y, wr.cell? ⟨w.heap.size, k, none⟩ = some y := by
        have := hown.cellAt k (by omega)
        rw [List.getElem?_eq_getElem (by rw [iR_len, iJ_len k zs hk]; omega)] at this
        exact ⟨_, this⟩
      have hfz := hown.frozenAt k
      generalize zs[k] = z at *
      have ST : Hid _ := st
      have HB : Hid _ := hb
      have hk0 : (0 : Int) ≤ (k : Int) := by omega
      have hk1 : (k : Int) < (zs.length : Int) := by omega
      have hgw : g < wr.heap.size := Nat.lt_of_lt_of_le hg hb.size
      have hne : g ≠ w.heap.size := by omega
      clear hc hown hb st
      go_wp2
      refine ⟨⟨k + 1, hlt, by simp, ST.out.1, HB.out.grown ST.out.2 HB.out.size (fun j hj => by cases hj; exact Nat.le_refl _)⟩, ?_⟩
      simp [intOf]
      omega
    · obtain rfl : k = zs.length := by omega
      rw [iJ_all] at hown
      have HO2 : Hid (wr.ownsRow w.heap.size 2 1 (.slice (some ⟨w.heap.size, 0, none⟩) zs.length zs.length) zs.length (iR zs)) := hown
      clear hown
      go_wp2
      go_ret
      exact ⟨_, rfl, HO2.out, hb⟩
theorem ciI : Try.prog.cellsOf 2 = 1 := by kernel_rfl
theorem open_iS {H : Type} {enc : TypeId × Value → H} {W : World} {fuel : Nat} {c : Value} {x : DataW H × List MemPlace} (h : DataW.trod enc Try.prog W 0 (fun _ => true) true fuel 79 [c] = some x) : ∃ zs : List Int, Irow W c zs ∧ zs.length ≤ maxLen := by
  rcases open_ints Try.underlying79 Try.underlying2 ciI h with ⟨hcs, _⟩ | ⟨a, len, cap, zs, hcs, _, hl, hm, hz, _, hcell, _⟩
  · obtain rfl : c = .slice none 0 0 := by simpa using hcs
    exact ⟨[], .inl ⟨rfl, none, 0, rfl⟩, Nat.zero_le _⟩
  · obtain rfl : c = .slice (some a) len cap := by simpa using hcs
    rw [if_pos rfl] at hz
    cases len with
    | zero => exact ⟨[], .inl ⟨rfl, _, _, rfl⟩, Nat.zero_le _⟩
    | succ len =>
      have h0 := hcell 0 (by omega)
      have hsp : a.spot = none := by
        cases hs : a.spot with
        | none => rfl
        | some q =>
          simp [Addr.add, World.cell?, hs] at h0
          cases hq : W.heap[a.block]? with
          | none => simp [hq] at h0
          | some ob => cases ob <;> simp [hq] at h0
      have hlt : a.block < W.heap.size := by
        simp [Addr.add, World.cell?] at h0
        cases hq : W.heap[a.block]? with
        | none => simp [hq] at h0
        | some ob => exact (Array.getElem?_eq_some_iff.1 hq).1
      obtain ⟨b, o, sp⟩ := a
      simp only at hsp hlt
      subst hsp
      have hadd : ∀ q, Addr.add ⟨b, o, none⟩ q = ⟨b, o + q, none⟩ := fun q => by
        unfold Addr.add
        split
        · subst_vars; rfl
        · rfl
      have htl : (zs.take (len + 1)).length = len + 1 := by rw [List.length_take]; omega
      refine ⟨zs.take (len + 1), .inr ⟨b, o, cap, by rw [htl], by omega, hlt, fun k hk => ?_⟩, by omega⟩
      have h1 := hcell k (by omega)
      rw [hadd] at h1
      rw [h1, List.getElem_take]
      simp [List.getD, List.getElem?_eq_getElem (show k < zs.length by omega)]
end Go.Proofs.Ytpggbbdfbnocfaa
