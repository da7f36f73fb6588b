import Derived.Test.YtmmodmanfoipiaaDoorKw1
import Derived.Test.YtmmodmanfoipiaaDoorLG
import Derived.Test.YtmmodmanfoipiaaDoorGetWordI
import Derived.Deep.DeepCutAuto
import Derived.Deep.RegionWith
import Derived.Laws.StructEq
import Derived.Laws.DeepStrings4
namespace Go.Proofs.YtmmodmanfoipiaaDoor
open Go.ChangeShapes Go.WideShapes Go.ChangeAt Go.RowKit

theorem l01Word_any (s : ByteArray) (k : Nat) (w : World) (h : k + 4 ≤ s.size) (hs : s.size ≤ 65536) :
    Calls Tryd.prog 51 #[.string s, .int .i64 k] w fun e w' => e = .returned (.int .i64 (wv s k)) ∧ ∃ q, w' = w.drewN q := by
  have i0 := fun w => idx_str s k (by omega) w k rfl
  have i1 := fun w => idx_str s (k + 1) (by omega) w (k + 1) (by omega)
  have i2 := fun w => idx_str s (k + 2) (by omega) w (k + 2) (by omega)
  have i3 := fun w => idx_str s (k + 3) (by omega) w (k + 3) (by omega)
  obtain ⟨a0, c0⟩ := bt_b s k
  obtain ⟨a1, c1⟩ := bt_b s (k + 1)
  obtain ⟨a2, c2⟩ := bt_b s (k + 2)
  obtain ⟨a3, c3⟩ := bt_b s (k + 3)
  go_enter Tryd.func51, Tryd.ntmps51
  go_wp2
  go_quiet (fail)
  go_wp2
  go_ret
  exact ⟨rfl, nq, rfl⟩
theorem bt_cut (s : ByteArray) (a b i : Nat) (hb : b ≤ s.size) (h : a + i < b) : bt (s.extract a b) i = bt s (a + i) := by
  unfold bt
  rw [dif_pos (by rw [ByteArray.size_extract]; omega), dif_pos (by omega)]
  congr 2
  rw [ByteArray.getElem_extract]
theorem wv_cut (s : ByteArray) (a : Nat) (h : a + 4 ≤ s.size) : wv (s.extract a (a + 4)) 0 = wv s a := by
  unfold wv
  rw [bt_cut s a (a + 4) 0 h (by omega), bt_cut s a (a + 4) (0 + 1) h (by omega), bt_cut s a (a + 4) (0 + 2) h (by omega), bt_cut s a (a + 4) (0 + 3) h (by omega)]
  rfl
/-- A text that is cut, in its box: so much is read; it ended early. -/
structure CX (w u : World) (b : Nat) (s : ByteArray) (a : Nat) (sh : Bool) : Prop where
  box : u.heap[b]? = some (.cells #[.string s, .int .i64 (a : Int), .bool sh] 60 (0, 0))
  gr : w.grownBy u (some b)
theorem CX.lt {w u : World} {b a : Nat} {s : ByteArray} {sh : Bool} (h : CX w u b s a sh) : b < u.heap.size := (Array.getElem?_eq_some_iff.1 h.box).1
theorem CX.cel {w u : World} {b a : Nat} {s : ByteArray} {sh : Bool} (h : CX w u b s a sh) : u.cell? ⟨b, 0, none⟩ = some (.string s) ∧ u.cell? ⟨b, 1, none⟩ = some (.int .i64 (a : Int)) ∧ u.cell? ⟨b, 2, none⟩ = some (.bool sh) := by simp [World.cell?, h.box]
theorem CX.frz {w u : World} {b a : Nat} {s : ByteArray} {sh : Bool} (h : CX w u b s a sh) (k : Nat) : u.frozen? ⟨b, k, none⟩ = false := by simp [World.frozen?, h.box]
theorem gb_rf (w : World) (r : Option Nat) : w.grownBy w r := ⟨rfl, rfl, rfl, Nat.le_refl _, fun _ _ _ => rfl⟩
theorem gb_bl {w0 w u : World} {r : Option Nat} (h : w0.grownBy w r) (hb : Below w.heap.size w u) : w0.grownBy u r :=
  ⟨hb.os.trans h.os, hb.tape.trans h.tape, hb.output.trans h.output, Nat.le_trans h.size hb.size, fun k hk hn => (hb.block k (Nat.lt_of_lt_of_le hk h.size)).trans (h.block k hk hn)⟩
theorem gb_gr {w0 w u : World} {r : Option Nat} (h : w0.grownBy w r) (hg : w.grownBy u r) : w0.grownBy u r :=
  ⟨hg.os.trans h.os, hg.tape.trans h.tape, hg.output.trans h.output, Nat.le_trans h.size hg.size, fun k hk hn => (hg.block k (Nat.lt_of_lt_of_le hk h.size) hn).trans (h.block k hk hn)⟩
theorem gb_st {w u : World} {b o : Nat} {y : Value} (h : w.grownBy u (some b)) : w.grownBy (u.setCell ⟨b, o, none⟩ y) (some b) :=
  ⟨h.os, h.tape, h.output, Nat.le_trans h.size (by simp [World.setCell]), fun k hk hn => (Below.heap_setCell _ _ _ _ (fun e => hn (congrArg some e))).trans (h.block k hk hn)⟩
theorem CX.below {w u u' : World} {b a : Nat} {s : ByteArray} {sh : Bool} (h : CX w u b s a sh) (hb : Below u.heap.size u u') : CX w u' b s a sh := ⟨(hb.block _ h.lt).trans h.box, gb_bl h.gr hb⟩
theorem CX.drewN {w u : World} {b a : Nat} {s : ByteArray} {sh : Bool} (h : CX w u b s a sh) (q : Nat) : CX w (u.drewN q) b s a sh := h.below (bdn (Below.refl _ _) q)
theorem CX.short {w u : World} {b a : Nat} {s : ByteArray} {sh : Bool} (h : CX w u b s a sh) : CX w (u.setCell ⟨b, 2, none⟩ (.bool true)) b s a true := by
  refine ⟨?_, gb_st h.gr⟩
  simp [World.setCell, Array.getElem?_modify, h.box]
theorem CX.on {w u : World} {b a : Nat} {s : ByteArray} {sh : Bool} (h : CX w u b s a sh) (a' : Nat) : CX w (u.setCell ⟨b, 1, none⟩ (.int .i64 (a' : Int))) b s a' sh := by
  refine ⟨?_, gb_st h.gr⟩
  simp [World.setCell, Array.getElem?_modify, h.box]
theorem CX.on' {w u : World} {b a : Nat} {s : ByteArray} {sh : Bool} (h : CX w u b s a sh) (a' : Nat) (y : Int) (hy : y = (a' : Int)) : CX w (u.setCell ⟨b, 1, none⟩ (.int .i64 y)) b s a' sh := by
  subst hy
  exact h.on a'
theorem CX.same {w u : World} {b a : Nat} {s : ByteArray} {sh : Bool} (h : CX w u b s a sh) : CX u u b s a sh := ⟨h.box, gb_rf _ _⟩
theorem sl_mid (s : ByteArray) (a n : Nat) (h : a + n ≤ s.size) (w : World) : Sem.run Tryd.prog (Instr.slice 9 (.string s) (some (.int .i64 (a : Int))) (some (.int .i64 ((a : Int) + (n : Int)))) none) w = .ok (.string (s.extract a (a + n))) w := by
  rw [run_slice_string_if _ _ _ _ _ _ _ Tryd.underlying9, if_pos (by omega), if_pos (by omega), show (a : Int).toNat = a by omega, show ((a : Int) + (n : Int)).toNat = a + n by omega]
set_option maxRecDepth 100000 in
set_option maxHeartbeats 4000000 in
theorem take_no {w : World} {b a n : Nat} {s : ByteArray} {sh : Bool} (h : CX w w b s a sh) (ha : a ≤ s.size) (hs : s.size ≤ 1048576) (hb : sh = true ∨ s.size < a + n) : Calls Tryd.prog 27 #[.pointer (some ⟨b, 0, none⟩), .int .i64 (n : Int)] w fun e w' => e = .returned (.string ⟨#[]⟩) ∧ CX w w' b s a true := by
  obtain ⟨c0, c1, c2⟩ := h.cel
  have hl := h.lt
  have hf := h.frz
  have HX : Hid (CX w w b s a sh) := h
  clear h
  have hai : (a : Int) ≤ 1048576 := by omega
  have hsi : (s.size : Int) ≤ 1048576 := by omega
  have ha0 : (0 : Int) ≤ (a : Int) := by omega
  have hs0 : (0 : Int) ≤ (s.size : Int) := by omega
  cases sh
  · have hd : decide ((s.size : Int) - (a : Int) < (n : Int)) = true := decide_eq_true (by rcases hb with hb | hb; exact absurd hb (by decide); omega)
    clear hb
    go_enter Tryd.func27, Tryd.ntmps27
    go_wp2_with fail
    go_quiet (fail)
    go_wp2
    go_ret
    exact ⟨rfl, (HX.out.drewN _).short⟩
  · clear hb
    go_enter Tryd.func27, Tryd.ntmps27
    go_wp2_with fail
    go_quiet (fail)
    go_wp2
    go_ret
    exact ⟨rfl, (HX.out.drewN _).short⟩
set_option maxRecDepth 100000 in
set_option maxHeartbeats 4000000 in
theorem take_yes {w : World} {b a n : Nat} {s : ByteArray} (h : CX w w b s a false) (hs : s.size ≤ 1048576) (hb : a + n ≤ s.size) : Calls Tryd.prog 27 #[.pointer (some ⟨b, 0, none⟩), .int .i64 (n : Int)] w fun e w' => e = .returned (.string (s.extract a (a + n))) ∧ CX w w' b s (a + n) false := by
  obtain ⟨c0, c1, c2⟩ := h.cel
  have hl := h.lt
  have hf := h.frz
  have HX : Hid (CX w w b s a false) := h
  have hsl := sl_mid s a n hb
  clear h
  have hai : (a : Int) ≤ 1048576 := by omega
  have hni : (n : Int) ≤ 1048576 := by omega
  have hsi : (s.size : Int) ≤ 1048576 := by omega
  have ha0 : (0 : Int) ≤ (a : Int) := by omega
  have hs0 : (0 : Int) ≤ (s.size : Int) := by omega
  have hn0 : (0 : Int) ≤ (n : Int) := by omega
  have hd : decide ((s.size : Int) - (a : Int) < (n : Int)) = false := decide_eq_false (by omega)
  go_enter Tryd.func27, Tryd.ntmps27
  go_wp2_with fail
  go_quiet (fail)
  go_wp2_with fail
  go_quiet (fail)
  go_wp2
  go_ret
  exact ⟨rfl, (HX.out.drewN _).on' (a + n) _ (by omega)⟩
def cW (s : ByteArray) (st : Nat × Bool) : Nat × Bool := if st.2 = true ∨ s.size < st.1 + 4 then (st.1, true) else (st.1 + 4, false)
def cV (s : ByteArray) (st : Nat × Bool) : Int := if st.2 = true ∨ s.size < st.1 + 4 then 0 else wv s st.1
/-- Where a text stands behind so many words. -/
def cS (s : ByteArray) (st : Nat × Bool) : Nat → Nat × Bool
  | 0 => st
  | k + 1 => cW s (cS s st k)
def cL (s : ByteArray) (st : Nat × Bool) (n : Nat) : List Int := (List.range n).map fun k => cV s (cS s st k)
theorem cW_le {s : ByteArray} {st : Nat × Bool} (h : st.1 ≤ s.size) : (cW s st).1 ≤ s.size := by
  unfold cW
  split
  · exact h
  · simp only
    omega
theorem cS_le {s : ByteArray} {st : Nat × Bool} (h : st.1 ≤ s.size) (k : Nat) : (cS s st k).1 ≤ s.size := by
  induction k with
  | zero => exact h
  | succ k ih => exact cW_le ih
theorem cL_len (s : ByteArray) (st : Nat × Bool) (n : Nat) : (cL s st n).length = n := by simp [cL]
theorem cL_succ (s : ByteArray) (st : Nat × Bool) (n : Nat) : cL s st (n + 1) = cL s st n ++ [cV s (cS s st n)] := by simp [cL, List.range_succ]
set_option maxRecDepth 100000 in
set_option maxHeartbeats 4000000 in
theorem word_any {w : World} {b : Nat} {s : ByteArray} {st : Nat × Bool} (h : CX w w b s st.1 st.2) (ha : st.1 ≤ s.size) (hs : s.size ≤ 65536) : Calls Tryd.prog 29 #[.pointer (some ⟨b, 0, none⟩)] w fun e w' => e = .returned (.int .i64 (cV s st)) ∧ CX w w' b s (cW s st).1 (cW s st).2 := by
  obtain ⟨a, sh⟩ := st
  simp only at h ha
  by_cases hb : sh = true ∨ s.size < a + 4
  · have E : Hid (cV s (a, sh) = 0) := (show cV s (a, sh) = 0 by unfold cV; rw [if_pos hb])
    have E2 : Hid (cW s (a, sh) = (a, true)) := (show cW s (a, sh) = _ by unfold cW; rw [if_pos hb])
    have HT : Hid (Calls Tryd.prog 27 #[.pointer (some ⟨b, 0, none⟩), .int .i64 4] w fun e w' => e = .returned (.string ⟨#[]⟩) ∧ CX w w' b s a true) := take_no (n := 4) h ha (by omega) hb
    clear h hb
    go_enter Tryd.func29, Tryd.ntmps29
    go_wp2_with (go_at_call 27; refine Calls.mono HT.out ?_; rintro e u1 ⟨rfl, hu⟩; have HU : Hid (CX w u1 b s a true) := hu; clear hu)
    go_ret
    exact ⟨ret_int E.out.symm, by rw [E2.out]; exact HU.out⟩
  · obtain ⟨hb1, hb2⟩ := not_or.1 hb
    have hsh : sh = false := by simpa using hb1
    subst hsh
    have h4 : a + 4 ≤ s.size := by omega
    have E : Hid (cV s (a, false) = wv s a) := (show cV s (a, false) = _ by unfold cV; rw [if_neg hb])
    have E2 : Hid (cW s (a, false) = (a + 4, false)) := (show cW s (a, false) = _ by unfold cW; rw [if_neg hb])
    have HT : Hid (Calls Tryd.prog 27 #[.pointer (some ⟨b, 0, none⟩), .int .i64 4] w fun e w' => e = .returned (.string (s.extract a (a + 4))) ∧ CX w w' b s (a + 4) false) := take_yes (n := 4) h (by omega) h4
    have hz : (s.extract a (a + 4)).size = 4 := by rw [ByteArray.size_extract]; omega
    have HL : Hid (∀ u, Calls Tryd.prog 51 #[.string (s.extract a (a + 4)), .int .i64 0] u fun e w' => e = .returned (.int .i64 (wv s a)) ∧ ∃ q, w' = u.drewN q) := fun u => by
      have h9 := l01Word_any (s.extract a (a + 4)) 0 u (by omega) (by omega)
      rw [wv_cut s a h4] at h9
      exact h9
    have hne : ((s.extract a (a + 4)).toList == []) = false := by
      rw [ByteArray.toList_eq]
      have : (s.extract a (a + 4)).data.toList.length = 4 := hz
      cases hd : (s.extract a (a + 4)).data.toList with
      | nil => rw [hd] at this; simp at this
      | cons x l => rfl
    generalize s.extract a (a + 4) = p at *
    clear h hb hb1 hb2 h4 hz ha
    go_enter Tryd.func29, Tryd.ntmps29
    go_wp2_with (first | (go_at_call 27; refine Calls.mono HT.out ?_; rintro e u1 ⟨rfl, hu⟩; have HU : Hid (CX w u1 b s (a + 4) false) := hu; clear hu) | (go_at_call 51; refine Calls.mono (HL.out _) ?_; rintro e u2 ⟨rfl, q, rfl⟩))
    go_ret
    exact ⟨ret_int E.out.symm, by rw [E2.out]; exact HU.out.drewN q⟩
/-- One number more. -/
theorem app1I {w : World} {B n : Nat} {v : Value} {xs : List Value} (H0 : w.ownsRow B 2 1 v n xs) (x : Int) (hn : n ≤ 1048576) (hB : B ≤ w.heap.size) :
    ∃ v' u', (Builtin.append_ #[37, 37] 37 #[v, .slice (some ⟨w.heap.size, 0, none⟩) 1 1]).run Tryd.prog (w.alloc (.cells #[.int .i64 x] 2)) = .ok v' u' ∧ (u'.ownsRow B 2 1 v' (n + 1) (xs ++ [.int .i64 x]) ∧ (w.alloc (.cells #[.int .i64 x] 2)).grownBy u' v.ownBlock) := by
  obtain ⟨i0, hi0, hz0, hz1, hz2⟩ := info_parts Tryd.info2
  obtain ⟨v', w', hr, h2, h3, _, _⟩ := run_append_own_at (P := Tryd.prog) (w.alloc (.cells #[.int .i64 x] 2)) B 37 37 2 i0 (.int .i64 0) 1 8 Tryd.underlying37 hi0 hz0 hz1 hz2 rfl (by decide) v n xs (World.ownsRow.alloc H0 _) ⟨w.heap.size, 0, none⟩ 1 1 [.int .i64 x] rfl (by
    intro j u hj
    match j, hj with
    | 0, hj =>
      simp at hj
      subst hj
      simp [Addr.add_lit]) (by intro u hu; simp at hu; subst hu; rfl) (by unfold maxLen; omega) (by omega) (by simp; omega)
  exact ⟨v', w', hr, h2, h3⟩
end Go.Proofs.YtmmodmanfoipiaaDoor
