import Derived.Test.YtmmodmanfoipiaaDoorOwnB
import Derived.Deep.QuietTactic
import Derived.BigRegion
import Derived.Deep.RegionHeld3
import Derived.Laws.MakeOwn
import Derived.Deep.Slices
import Derived.SliceStrings
namespace Go.Proofs.YtmmodmanfoipiaaDoor
open Go.ChangeShapes Go.WideShapes Go.ChangeAt Go.RowKit

/-- The cells of a row of texts. -/
def sR (zs : List ByteArray) : List Value := zs.map Value.string
theorem sR_len (zs : List ByteArray) : (sR zs).length = zs.length * 1 := by simp [sR]
theorem s_sl {w : World} {B n : Nat} {v : Value} {xs : List Value} (h : w.ownsRow B 9 1 v n xs) : ∃ ao cap, v = .slice ao n cap := by
  rcases h.2 with ⟨rfl, e⟩ | ⟨g, cap, cur, rfl, _⟩
  · exact ⟨none, 0, by rw [e]⟩
  · exact ⟨_, cap, rfl⟩
def Sat (w : World) (g o : Nat) (zs : List ByteArray) : Prop := ∀ (k : Nat) (hk : k < zs.length), w.cell? ⟨g, o + k, none⟩ = some (.string zs[k])
def Srow (w : World) (v : Value) (zs : List ByteArray) : Prop := (zs = [] ∧ ∃ ao cap, v = .slice ao 0 cap) ∨ ∃ g o cap, v = .slice (some ⟨g, o, none⟩) zs.length cap ∧ zs.length ≤ cap ∧ g < w.heap.size ∧ Sat w g o zs
theorem Sat.below {w w' : World} {g o : Nat} {zs : List ByteArray} (h : Sat w g o zs) {B : Nat} (hb : Below B w w') (hg : g < B) : Sat w' g o zs := by
  intro k hk
  have h2 := h k hk
  have e : ∀ x, w'.cell? ⟨g, x, none⟩ = w.cell? ⟨g, x, none⟩ := fun x => World.cell?_of_block (hb.block g hg)
  simp only [e]
  exact h2
theorem Srow.below {w w' : World} {v : Value} {zs : List ByteArray} (h : Srow w v zs) (hb : Below w.heap.size w w') : Srow w' v zs := by
  rcases h with h | ⟨g, o, cap, hv, hc, hg, ha⟩
  · exact .inl h
  · exact .inr ⟨g, o, cap, hv, hc, Nat.lt_of_lt_of_le hg hb.size, ha.below hb hg⟩
theorem Srow.sl {w : World} {v : Value} {zs : List ByteArray} (h : Srow w v zs) : ∃ ao cap, v = .slice ao zs.length cap := by
  rcases h with ⟨rfl, ao, cap, rfl⟩ | ⟨g, o, cap, rfl, _⟩
  · exact ⟨_, _, rfl⟩
  · exact ⟨_, _, rfl⟩
theorem Srow.of {w : World} {B : Nat} {v : Value} {zs : List ByteArray} (h : w.ownsRow B 9 1 v zs.length (sR zs)) : Srow w v zs := by
  rcases h.2 with ⟨rfl, e⟩ | ⟨g, cap, cur, rfl, hB, hg, hc, rest⟩
  · exact .inl ⟨List.length_eq_zero_iff.1 e, _, _, by rfl⟩
  · have h2 : w.ownsRow B 9 1 (.slice (some ⟨g, 0, none⟩) zs.length cap) zs.length (sR zs) := h
    refine .inr ⟨g, 0, cap, rfl, hc, (Array.getElem?_eq_some_iff.1 hg).1, fun k hk => ?_⟩
    have a0 := h2.cellAt k (by omega)
    simp only [Nat.zero_add]
    rw [a0]
    simp [sR, List.getElem?_eq_getElem hk]
/-- So many are copied. -/
def sJ (j : Nat) (zs : List ByteArray) : List ByteArray := zs.take j ++ List.replicate (zs.length - j) ⟨#[]⟩
theorem sJ_len (j : Nat) (zs : List ByteArray) (h : j ≤ zs.length) : (sJ j zs).length = zs.length := by simp [sJ]; omega
theorem sJ_step (j : Nat) (zs : List ByteArray) (h : j < zs.length) : (sR (sJ j zs)).set j (.string zs[j]) = sR (sJ (j + 1) zs) := by
  unfold sJ sR
  have hl : (zs.take j).length = j := by rw [List.length_take]; omega
  rw [← List.map_set, List.set_append_right _ _ (by omega), hl, Nat.sub_self, show zs.length - j = (zs.length - (j + 1)) + 1 by omega, List.replicate_succ, List.set_cons_zero, List.take_succ_eq_append_getElem h, List.append_assoc]
  rfl
theorem sJ_all (zs : List ByteArray) : sJ zs.length zs = zs := by simp [sJ]
theorem sJ_zero (zs : List ByteArray) : sJ 0 zs = List.replicate zs.length ⟨#[]⟩ := by simp [sJ]
theorem s_made (m : Nat) : madeCells #[.string ⟨#[]⟩] m = (sR (List.replicate m ⟨#[]⟩)).toArray := by
  apply Array.ext
  · simp [madeCells, sR]
  · intro i h1 h2
    simp [madeCells, sR, Nat.mod_one]
theorem Tryd.info9 : (Tryd.prog.info? 9).map (fun i => (i.zero, i.size, i.bytes)) = some (some (.string ⟨#[]⟩), 1, 16) := by kernel_rfl
theorem s_mk (w : World) (m : Nat) (hm : m ≤ 1048576) : (Instr.makeSlice 67 (.int .i64 m) (.int .i64 m)).run Tryd.prog w = .ok (.slice (some ⟨w.heap.size, 0, none⟩) m m) (w.alloc (.cells (sR (List.replicate m ⟨#[]⟩)).toArray 9)) := by
  obtain ⟨i0, hi, hz0, hz1, hz2⟩ := info_parts Tryd.info9
  have hr := run_make (P := Tryd.prog) w 67 9 i0 (.string ⟨#[]⟩) Tryd.underlying67 hi hz0 .i64 .i64 m m (by omega) (by omega) (by rw [hz2]; omega) (by omega)
  rw [hr, hz1, Int.toNat_natCast, Nat.mul_one, ← s_made]
  rfl
theorem s_own0 (w : World) (m : Nat) (hm : m ≤ 1048576) : (w.alloc (.cells (sR (List.replicate m ⟨#[]⟩)).toArray 9)).ownsRow w.heap.size 9 1 (.slice (some ⟨w.heap.size, 0, none⟩) m m) m (sR (List.replicate m ⟨#[]⟩)) := by
  have hl := sR_len (List.replicate m ⟨#[]⟩)
  rw [List.length_replicate] at hl
  refine ⟨hl, .inr ⟨w.heap.size, m, _, rfl, Nat.le_refl _, (MapKept.heap_alloc w _).1, Nat.le_refl _, by unfold maxLen; omega, by simpa using hl, ?_⟩⟩
  rw [← hl]
  simp
theorem csS : Tryd.prog.cellsOf 9 = 1 := by kernel_rfl
theorem open_sS {H : Type} {enc : TypeId × Value → H} {W : World} {fuel : Nat} {c : Value} {x : DataW H × List MemPlace} (h : DataW.trod enc Tryd.prog W 0 (fun _ => true) true fuel 67 [c] = some x) : ∃ zs : List ByteArray, Srow W c zs ∧ zs.length ≤ maxLen ∧ ∀ z ∈ zs, z.size ≤ maxLen := by
  rcases open_strings Tryd.underlying67 Tryd.underlying9 csS h with ⟨hcs, _⟩ | ⟨a, len, cap, zs, hcs, _, hl, hm, hz, _, hcell, hsz⟩
  · obtain rfl : c = .slice none 0 0 := by simpa using hcs
    exact ⟨[], .inl ⟨rfl, none, 0, rfl⟩, Nat.zero_le _, by simp⟩
  · obtain rfl : c = .slice (some a) len cap := by simpa using hcs
    rw [if_pos rfl] at hz
    cases len with
    | zero => exact ⟨[], .inl ⟨rfl, _, _, rfl⟩, Nat.zero_le _, by simp⟩
    | succ len =>
      have h0 := hcell 0 (by omega)
      have hsp : a.spot = none := by
        cases hs : a.spot with
        | none => rfl
        | some q =>
          simp [Addr.add, World.cell?, hs] at h0
          cases hq : W.heap[a.block]? with
          | none => simp [hq] at h0
          | some ob => cases ob <;> simp [hq] at h0
      have hlt : a.block < W.heap.size := by
        simp [Addr.add, World.cell?] at h0
        cases hq : W.heap[a.block]? with
        | none => simp [hq] at h0
        | some ob => exact (Array.getElem?_eq_some_iff.1 hq).1
      obtain ⟨b, o, sp⟩ := a
      simp only at hsp hlt
      subst hsp
      have hadd : ∀ q, Addr.add ⟨b, o, none⟩ q = ⟨b, o + q, none⟩ := fun q => by
        unfold Addr.add
        split
        · subst_vars; rfl
        · rfl
      have htl : (zs.take (len + 1)).length = len + 1 := by rw [List.length_take]; omega
      refine ⟨zs.take (len + 1), .inr ⟨b, o, cap, by rw [htl], by omega, hlt, fun k hk => ?_⟩, by omega, fun z hz2 => hsz z (List.mem_of_mem_take hz2)⟩
      have h1 := hcell k (by omega)
      rw [hadd] at h1
      rw [h1, List.getElem_take]
      simp [List.getD, List.getElem?_eq_getElem (show k < zs.length by omega)]
end Go.Proofs.YtmmodmanfoipiaaDoor
