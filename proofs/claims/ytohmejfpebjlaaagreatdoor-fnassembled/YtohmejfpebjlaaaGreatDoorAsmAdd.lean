import Derived.Test.YtohmejfpebjlaaaGreatDoorLines
import Derived.Test.YtohmejfpebjlaaaGreatDoorShelfT
import Derived.Test.YtohmejfpebjlaaaGreatDoorPEnc
namespace Go.Proofs.YtohmejfpebjlaaaGreatDoor
open Go.ChangeShapes Go.WideShapes Go.ChangeAt Go.WideMaps Go.WideElems Go.RowKit

/-- The assembler's box, laid at the end of w; no name is used. -/
structure AS (w : World) (base : Int) (mb : Nat) (lb : Value) (wr : World) (v : Value) (zs : List Int) : Prop where
  bel : Below w.heap.size w wr
  box : wr.heap[w.heap.size]? = some (.cells #[.int .i64 base, .map (some mb), lb, .slice none 0 0, v] 75 (0, 0))
  own : wr.ownsRow (w.heap.size + 1) 2 1 v zs.length (zs.map (Value.int .i64))
theorem AS.lt {w wr : World} {base : Int} {mb : Nat} {lb v : Value} {zs : List Int} (h : AS w base mb lb wr v zs) : w.heap.size < wr.heap.size := (Array.getElem?_eq_some_iff.1 h.box).1
theorem AS.step {w wr u : World} {base : Int} {mb : Nat} {lb v : Value} {zs : List Int} (h : AS w base mb lb wr v zs) (hu : Below wr.heap.size wr u) : AS w base mb lb u v zs :=
  ⟨h.bel.trans (hu.mono h.bel.size), (hu.block _ h.lt).trans h.box, h.own.kept (row := none) ⟨hu.os, hu.tape, hu.output, hu.size, fun k hk _ => hu.block k hk⟩ (by cases v.ownBlock <;> simp)⟩
theorem AS.cells {w wr : World} {base : Int} {mb : Nat} {lb v : Value} {zs : List Int} (h : AS w base mb lb wr v zs) : wr.cell? ⟨w.heap.size, 0, none⟩ = some (.int .i64 base) ∧ wr.cell? ⟨w.heap.size, 1, none⟩ = some (.map (some mb)) ∧ wr.cell? ⟨w.heap.size, 3, none⟩ = some (.slice none 0 0) ∧ wr.cell? ⟨w.heap.size, 4, none⟩ = some v ∧ ∀ o, wr.frozen? ⟨w.heap.size, o, none⟩ = false := by
  have := h.box
  simp [World.cell?, World.frozen?, this]
theorem AS.sl {w wr : World} {base : Int} {mb : Nat} {lb v : Value} {zs : List Int} (h : AS w base mb lb wr v zs) : ∃ ao cap, v = .slice ao zs.length cap := by
  rcases h.own.2 with ⟨rfl, e⟩ | ⟨g, cap, cur, rfl, _⟩
  · exact ⟨none, 0, by rw [e]⟩
  · exact ⟨_, cap, rfl⟩
theorem AS.put {w wr w2 : World} {base : Int} {mb : Nat} {lb v v' : Value} {zs : List Int} {n : Int} (h : AS w base mb lb wr v zs) (hg : wr.grownBy w2 v.ownBlock) (ho : w2.ownsRow (w.heap.size + 1) 2 1 v' (zs.length + 1) (zs.map (Value.int .i64) ++ [.int .i64 n])) :
    AS w base mb lb (w2.setCell ⟨w.heap.size, 4, none⟩ v') v' (zs ++ [n]) := by
  have hb2 : w2.heap[w.heap.size]? = some (.cells #[.int .i64 base, .map (some mb), lb, .slice none 0 0, v] 75 (0, 0)) :=
    (hg.block _ h.lt (fun e => by have := (h.own.lt _ e.symm).1; omega)).trans h.box
  refine ⟨?_, ?_, ?_⟩
  · exact (Below.grown h.bel hg (Nat.le_of_lt h.lt) (fun k hk => by have := (h.own.lt k hk).1; omega)).setCell (Nat.le_refl _) _
  · simp [World.setCell, Array.getElem?_modify, hb2]
  · have hk := ho.kept (w' := w2.setCell ⟨w.heap.size, 4, none⟩ v') (row := some w.heap.size) ⟨rfl, rfl, rfl, by simp [World.setCell], fun k _ hn => Below.heap_setCell _ _ _ _ (fun e => hn (congrArg some e))⟩ (.inr fun e => by have := (ho.lt _ e).1; omega)
    simpa using hk

theorem Tryz.info2 : (Tryz.prog.info? 2).map (fun i => (i.zero, i.size, i.bytes)) = some (some (.int .i64 0), 1, 8) := by kernel_rfl
set_option maxRecDepth 100000 in
set_option maxHeartbeats 1000000 in
theorem addWords_ok {w wr : World} {base : Int} {mb : Nat} {lb v : Value} {zs : List Int} (h : AS w base mb lb wr v zs) (hz : zs.length < 999) (b : Nat) (n : Int) (t : Nat) (fr : Nat × Nat) (hb : wr.heap[b]? = some (.cells #[.int .i64 n] t fr)) :
    Calls Tryz.prog 81 #[.pointer (some ⟨w.heap.size, 0, none⟩), .slice (some ⟨b, 0, none⟩) 1 1] wr fun e u => e = .returned (.int .i64 0) ∧ ∃ v', AS w base mb lb u v' (zs ++ [n]) := by
  obtain ⟨i0, hi, hz0, hz1, hz2⟩ := info_parts Tryz.info2
  obtain ⟨ao, cap, hv⟩ := h.sl
  obtain ⟨_, _, _, c4, hf⟩ := h.cells
  rw [hv] at c4
  have hl4 : ((zs.length : Int) + 1) ≤ 1000 := by omega
  have HA : Hid (AS w base mb lb wr v zs) := h
  have HB : Hid (wr.heap[b]? = some (.cells #[.int .i64 n] t fr)) := hb
  have HV : Hid (v = .slice ao zs.length cap) := hv
  have HL : Hid (zs.length < 999) := hz
  clear hv h hb hz
  go_enter Tryz.func81, Tryz.ntmps81
  go_wp2_with (at_builtin; refine wpList_append_own _ rfl _ _ 33 rfl (w.heap.size + 1) 2 i0 (.int .i64 0) 1 8 Tryz.underlying33 hi hz0 hz1 hz2 rfl (by decide) v zs.length (zs.map (Value.int .i64)) (by rw [HV.out]; rfl) HA.out.own ⟨b, 0, none⟩ 1 1 [.int .i64 n] rfl rfl ?c1 ?c2 ?c3 ?c4 ?c5 ?_)
  case c1 => exact World.news_of_block (cs := #[.int .i64 n]) HB.out
  case c2 => intro u hu; simp at hu; subst hu; rfl
  case c3 => have := HL.out; unfold maxLen; omega
  case c4 => have := HL.out; omega
  case c5 => exact HA.out.lt
  intro v' w2 hown2 hgrow _
  have hb2 : w2.heap[w.heap.size]? = wr.heap[w.heap.size]? := hgrow.block _ HA.out.lt (fun e => by have := (HA.out.own.lt _ e.symm).1; omega)
  have d4 : w2.cell? ⟨w.heap.size, 4, none⟩ = some (.slice ao zs.length cap) := (World.cell?_of_block hb2).trans c4
  have df : w2.frozen? ⟨w.heap.size, 4, none⟩ = false := (World.frozen?_of_block hb2).trans (hf 4)
  have HP : Hid _ := HA.out.put hgrow hown2
  obtain ⟨ao', cap', hv1⟩ := HP.out.sl
  have hv' : v' = .slice ao' (zs.length + 1) cap' := by simpa using hv1
  clear hv1
  subst hv'
  clear hown2 hgrow hb2 c4 hf
  go_wp2
  go_ret
  exact ⟨rfl, _, HP.out⟩

set_option maxRecDepth 100000 in
set_option maxHeartbeats 1000000 in
theorem addInstr_ok {w wr : World} {base : Int} {mb : Nat} {lb v : Value} {zs : List Int} (h : AS w base mb lb wr v zs) (hz : zs.length < 999) (op a b c imm k : Int) (hok : isOk op a b c imm = true) (hn : Names w) (hw0 : 0 < w.heap.size) (hm : MaxAt w) (hw : 2 < w.heap.size) (ht : Tab w) (hw1 : 1 < w.heap.size) (hown : w.ownsMap Tryz.prog 9 (plainElem Tryz.prog 2) mb 55 (nmD 55)) :
    Calls Tryz.prog 60 #[.pointer (some ⟨w.heap.size, 0, none⟩), .string (txt op a b c imm ⟨#[]⟩), .int .i64 k] wr fun e u => e = .returned (.int .i64 0) ∧ ∃ v', AS w base mb lb u v' (zs ++ [encV op a b c imm]) := by
  obtain ⟨bo, _⟩ := isOk_b hok
  have hread := readNamed_ok op a b c imm mb wr hok (hm.below h.bel hw) (Nat.lt_of_lt_of_le hw h.bel.size) (ht.below h.bel hw1) (Nat.lt_of_lt_of_le hw1 h.bel.size) (map_below hown h.bel)
  unfold namV at hread
  obtain ⟨_, c1, _, _, _⟩ := h.cells
  have HA : Hid (AS w base mb lb wr v zs) := h
  have HN : Hid (Names w) := hn
  have HL : Hid (zs.length < 999) := hz
  clear h hz hn hm hw ht hw1 hown hok
  generalize txt op a b c imm ⟨#[]⟩ = tx at *
  go_enter Tryz.func60, Tryz.ntmps60
  go_wp2_with (first | (go_at_call 32; refine Calls.mono hread ?_; rintro e u1 ⟨rfl, hu1⟩; replace HA : Hid _ := HA.out.step hu1) | (go_at_call 7; refine (implEncode_any op a b c imm _ ((HN.out.below HA.out.bel hw0).alloc _ (by have := HA.out.lt; omega)) (by simp) (by omega) (by omega)).mono ?_; rintro e u2 ⟨rfl, hu2⟩; replace HA : Hid _ := (HA.out.step ((Below.refl _ _).alloc (Nat.le_refl _) _)).step hu2) | (go_at_call 81; refine (addWords_ok (HA.out.step ((Below.refl _ _).alloc (Nat.le_refl _) _)) HL.out _ _ _ _ (heap_new _ _)).mono ?_; rintro e u3 ⟨rfl, v', HR⟩))
  go_ret
  exact ⟨rfl, v', HR⟩
end Go.Proofs.YtohmejfpebjlaaaGreatDoor
