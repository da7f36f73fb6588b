import Derived.Test.YtmmodmanfoipiaaDoorCc1
import Derived.Test.YtmmodmanfoipiaaDoorWr2
import Derived.Test.YtmmodmanfoipiaaDoorJoined
import Derived.Test.YtmmodmanfoipiaaDoorLG
import Derived.Test.YtmmodmanfoipiaaDoorHl
import Derived.Test.YtmmodmanfoipiaaDoorUw1
import Derived.Test.YtmmodmanfoipiaaDoorMix
namespace Go.Proofs.YtmmodmanfoipiaaDoor
open Go.ChangeShapes Go.WideShapes Go.ChangeAt Go.RowKit

theorem isWithinT_any (n a : Nat) (z : Int) (w : World) (hn : n ≤ 1048576) (h0 : 0 ≤ z) (h1 : z ≤ 1048576) : Calls Tryd.prog 54 #[.int .i64 (n : Nat), .int .i64 (a : Nat), .int .i64 z] w fun e w' => e = .returned (.bool (decide ((a : Int) + z ≤ (n : Int)))) ∧ w' = w := by
  have ha : (0 : Int) ≤ (a : Int) := by omega
  have hn0 : (0 : Int) ≤ (n : Int) := by omega
  have hn1 : (n : Int) ≤ 1048576 := by omega
  have hd : decide ((a : Int) + z ≤ (n : Int)) = decide ((a : Int) ≤ (n : Int) - z) := by
    by_cases h : (a : Int) + z ≤ (n : Int)
    · rw [decide_eq_true h, decide_eq_true (by omega)]
    · rw [decide_eq_false h, decide_eq_false (by omega)]
  rw [hd]
  clear hd
  go_enter Tryd.func54, Tryd.ntmps54
  go_wp2
  go_ret
  exact ⟨rfl, rfl⟩
theorem ret_str9 {a b : ByteArray} (h : a = b) : Ending.returned (.string a) = Ending.returned (.string b) := by rw [h]
theorem join1T (u : World) (x : ByteArray) (hx : x.size ≤ 1048576) : Calls Tryd.prog 16 #[.slice (some ⟨u.heap.size, 0, none⟩) 1 1] (u.alloc (.cells #[.string x] 9)) fun e w' => e = .returned (.string x) ∧ Below u.heap.size u w' := by
  refine (joined_any u.heap.size 1 1 [x] (u.alloc (.cells #[.string x] 9)) rfl (by simp) ?_ (by decide) ?_).mono ?_
  · intro i hi
    obtain rfl : i = 0 := by omega
    exact (LG.new u #[.string x] 9).cel 0 _ rfl
  · simp [catB]; omega
  · rintro e w' ⟨rfl, hb⟩
    exact ⟨ret_str9 (by simp [catB]), (bx1 u _).trans (hb.mono (by simp))⟩
/-- A reader of a text. -/
structure TR (w u : World) (b : Nat) (s : ByteArray) (a : Nat) : Prop where
  box : u.heap[b]? = some (.cells #[.string s, .int .i64 (a : Int)] 79 (0, 0))
  gr : w.grownBy u (some b)
theorem TR.lt {w u : World} {b a : Nat} {s : ByteArray} (h : TR w u b s a) : b < u.heap.size := (Array.getElem?_eq_some_iff.1 h.box).1
theorem TR.cel {w u : World} {b a : Nat} {s : ByteArray} (h : TR w u b s a) : u.cell? ⟨b, 0, none⟩ = some (.string s) ∧ u.cell? ⟨b, 1, none⟩ = some (.int .i64 (a : Int)) := by simp [World.cell?, h.box]
theorem TR.frz {w u : World} {b a : Nat} {s : ByteArray} (h : TR w u b s a) (k : Nat) : u.frozen? ⟨b, k, none⟩ = false := by simp [World.frozen?, h.box]
theorem TR.step {w u u' : World} {b a : Nat} {s : ByteArray} (h : TR w u b s a) (hb : Below u.heap.size u u') : TR w u' b s a := ⟨(hb.block _ h.lt).trans h.box, gb_bl h.gr hb⟩
theorem TR.on {w u : World} {b a : Nat} {s : ByteArray} (h : TR w u b s a) (a' : Nat) (y : Int) (hy : y = (a' : Int)) : TR w (u.setCell ⟨b, 1, none⟩ (.int .i64 y)) b s a' := by
  subst hy
  refine ⟨?_, gb_st h.gr⟩
  simp [World.setCell, Array.getElem?_modify, h.box]
theorem TR.same {w u : World} {b a : Nat} {s : ByteArray} (h : TR w u b s a) : TR u u b s a := ⟨h.box, gb_rf _ _⟩
theorem TR.trans {w u u' : World} {b a a' : Nat} {s : ByteArray} (h : TR w u b s a) (h' : TR u u' b s a') : TR w u' b s a' := ⟨h'.box, gb_gr h.gr h'.gr⟩
/-- A stop of a code. -/
def EX (u : World) (e : Nat) (c : Int) : Prop := ∃ y : Int, u.heap[e]? = some (.cells #[.int .i64 c, .int .i64 y] 57 (0, 0))
def sTop (e : Nat) : Value := .iface 53 (.pointer (some ⟨e, 0, none⟩))
theorem EX.new (u : World) (c y : Int) : EX (u.alloc (.cells #[.int .i64 c, .int .i64 y] 57)) u.heap.size c := ⟨y, heap_new _ _⟩
theorem EX.lt {u : World} {e : Nat} {c : Int} (h : EX u e c) : e < u.heap.size := by
  obtain ⟨y, h⟩ := h
  exact (Array.getElem?_eq_some_iff.1 h).1
theorem EX.step {u u' : World} {e : Nat} {c : Int} (h : EX u e c) (hb : Below u.heap.size u u') : EX u' e c := by
  obtain ⟨y, h⟩ := h
  exact ⟨y, (hb.block _ (Array.getElem?_eq_some_iff.1 h).1).trans h⟩
set_option maxRecDepth 100000 in
set_option maxHeartbeats 4000000 in
theorem bytes_no {w : World} {b a : Nat} {z : Int} {s : ByteArray} (h : TR w w b s a) (hs : s.size ≤ 1048576) (h0 : 0 ≤ z) (h1 : z ≤ 1048576) (hb : (s.size : Int) < (a : Int) + z) : Calls Tryd.prog 45 #[.pointer (some ⟨b, 0, none⟩), .int .i64 z] w fun e w' => ∃ q, e = .returned (.tuple #[.string ⟨#[]⟩, sTop q]) ∧ TR w w' b s a ∧ EX w' q 3 := by
  have HW : Hid (∀ u, Calls Tryd.prog 54 #[.int .i64 (s.size : Nat), .int .i64 (a : Nat), .int .i64 z] u fun e w' => e = .returned (.bool false) ∧ w' = u) := fun u => by
    have h9 := isWithinT_any s.size a z u hs h0 h1
    rw [decide_eq_false (by omega)] at h9
    exact h9
  obtain ⟨c0, c1⟩ := h.cel
  have hl := h.lt
  have HX : Hid (TR w w b s a) := h
  clear h hb
  unfold sTop
  go_enter Tryd.func45, Tryd.ntmps45
  go_wp2_with (go_at_call 54; refine Calls.mono (HW.out _) ?_; rintro e u1 ⟨rfl, rfl⟩)
  go_ret2
  exact ⟨_, rfl, HX.out.step (bx1 _ _), EX.new _ _ _⟩
set_option maxRecDepth 100000 in
set_option maxHeartbeats 8000000 in
theorem bytes_yes {w : World} {b a n : Nat} {s : ByteArray} (h : TR w w b s a) (hs : s.size ≤ 1048576) (hb : a + n ≤ s.size) : Calls Tryd.prog 45 #[.pointer (some ⟨b, 0, none⟩), .int .i64 (n : Int)] w fun e w' => e = .returned (.tuple #[.string (s.extract a (a + n)), .nilIface]) ∧ TR w w' b s (a + n) := by
  have HW : Hid (∀ u, Calls Tryd.prog 54 #[.int .i64 (s.size : Nat), .int .i64 (a : Nat), .int .i64 (n : Int)] u fun e w' => e = .returned (.bool true) ∧ w' = u) := fun u => by
    have h9 := isWithinT_any s.size a n u hs (by omega) (by omega)
    rw [decide_eq_true (by omega)] at h9
    exact h9
  obtain ⟨c0, c1⟩ := h.cel
  have hl := h.lt
  have HX : Hid (TR w w b s a) := h
  have hsl := sl_mid s a n hb
  have hn9 : (n : Int) ≤ 1048576 := by omega
  have ha9 : (a : Int) ≤ 1048576 := by omega
  have hn0 : (0 : Int) ≤ (n : Int) := by omega
  have ha0 : (0 : Int) ≤ (a : Int) := by omega
  clear h
  go_enter Tryd.func45, Tryd.ntmps45
  go_upto_region 4 with (go_at_call 54; refine Calls.mono (HW.out _) ?_; rintro e u1 ⟨rfl, rfl⟩)
  clear c0 c1 hl
  have HD : Hid (TR u1 u1.drew b s a) := HX.out.step (Below.refl _ _).drew
  refine wp_region_held (S := fun w9 => TR u1 w9 b s a) (by kernel_rfl) ?_
  change wpAnyH _ _ _ _ _ _ _ _ (World.drew _)
  generalize u1.drew = wd at *
  refine wpAnyH_take (i := 0) (v := .pointer (some ⟨b, 0, none⟩)) rfl (by kernel_rfl) (by kernel_rfl) (by kernel_rfl) (fun _ _ _ h => h) (Or.inl ⟨by kernel_rfl, fun w9 h9 => ?_⟩) HD.out ?_
  · go_simp
  refine wpAnyH_take (i := 1) (v := .pointer (some ⟨b, 0, none⟩)) rfl (by kernel_rfl) (by kernel_rfl) (by kernel_rfl) (fun _ _ _ h => h) (Or.inl ⟨by kernel_rfl, fun w9 h9 => ?_⟩) HD.out ?_
  · go_simp
  refine wpAnyH_take (i := 2) (v := .pointer (some ⟨b, 0, none⟩)) rfl (by kernel_rfl) (by kernel_rfl) (by kernel_rfl) (fun _ _ _ h => h) (Or.inl ⟨by kernel_rfl, fun w9 h9 => ?_⟩) HD.out ?_
  · go_simp
  refine wpAnyH_take (i := 3) (v := .string s) rfl (by kernel_rfl) (by kernel_rfl) (by kernel_rfl) (fun _ _ _ h => h) (Or.inl ⟨by kernel_rfl, fun w9 h9 => ?_⟩) HD.out ?_
  · obtain ⟨y0, y1⟩ := h9.cel; have yl := h9.lt; go_simp
  refine wpAnyH_take (i := 4) (v := .pointer (some ⟨b, 0, none⟩)) rfl (by kernel_rfl) (by kernel_rfl) (by kernel_rfl) (fun _ _ _ h => h) (Or.inl ⟨by kernel_rfl, fun w9 h9 => ?_⟩) HD.out ?_
  · go_simp
  refine wpAnyH_take (i := 5) (v := .pointer (some ⟨b, 0, none⟩)) rfl (by kernel_rfl) (by kernel_rfl) (by kernel_rfl) (fun _ _ _ h => h) (Or.inl ⟨by kernel_rfl, fun w9 h9 => ?_⟩) HD.out ?_
  · go_simp
  refine wpAnyH_take (i := 6) (v := .pointer (some ⟨b, 1, none⟩)) rfl (by kernel_rfl) (by kernel_rfl) (by kernel_rfl) (fun _ _ _ h => h) (Or.inl ⟨by kernel_rfl, fun w9 h9 => ?_⟩) HD.out ?_
  · go_simp
  refine wpAnyH_take (i := 7) (v := .int .i64 (a : Int)) rfl (by kernel_rfl) (by kernel_rfl) (by kernel_rfl) (fun _ _ _ h => h) (Or.inl ⟨by kernel_rfl, fun w9 h9 => ?_⟩) HD.out ?_
  · obtain ⟨y0, y1⟩ := h9.cel; have yl := h9.lt; go_simp
  refine wpAnyH_take (i := 8) (v := .pointer (some ⟨b, 0, none⟩)) rfl (by kernel_rfl) (by kernel_rfl) (by kernel_rfl) (fun _ _ _ h => h) (Or.inl ⟨by kernel_rfl, fun w9 h9 => ?_⟩) HD.out ?_
  · go_simp
  refine wpAnyH_take (i := 9) (v := .pointer (some ⟨b, 0, none⟩)) rfl (by kernel_rfl) (by kernel_rfl) (by kernel_rfl) (fun _ _ _ h => h) (Or.inl ⟨by kernel_rfl, fun w9 h9 => ?_⟩) HD.out ?_
  · go_simp
  refine wpAnyH_take (i := 10) (v := .pointer (some ⟨b, 1, none⟩)) rfl (by kernel_rfl) (by kernel_rfl) (by kernel_rfl) (fun _ _ _ h => h) (Or.inl ⟨by kernel_rfl, fun w9 h9 => ?_⟩) HD.out ?_
  · go_simp
  refine wpAnyH_take (i := 11) (v := .int .i64 (a : Int)) rfl (by kernel_rfl) (by kernel_rfl) (by kernel_rfl) (fun _ _ _ h => h) (Or.inl ⟨by kernel_rfl, fun w9 h9 => ?_⟩) HD.out ?_
  · obtain ⟨y0, y1⟩ := h9.cel; have yl := h9.lt; go_simp
  refine wpAnyH_take (i := 12) (v := .int .i64 (n : Int)) rfl (by kernel_rfl) (by kernel_rfl) (by kernel_rfl) (fun _ _ _ h => h) (Or.inl ⟨by kernel_rfl, fun w9 h9 => ?_⟩) HD.out ?_
  · go_simp
  refine wpAnyH_take (i := 13) (v := .int .i64 ((a : Int) + (n : Int))) rfl (by kernel_rfl) (by kernel_rfl) (by kernel_rfl) (fun _ _ _ h => h) (Or.inl ⟨by kernel_rfl, fun w9 h9 => ?_⟩) HD.out ?_
  · go_simp; first | (rw [IntKind.wrap_i64]; omega) | omega
  refine wpAnyH_take (i := 14) (v := .string (s.extract a (a + n))) rfl (by kernel_rfl) (by kernel_rfl) (by kernel_rfl) (fun _ _ _ h => h) (Or.inl ⟨by kernel_rfl, fun w9 h9 => ?_⟩) HD.out ?_
  · go_simp
  refine held_one 15 (by kernel_rfl) rfl (by kernel_rfl) fun K hK => ?_
  have HA : Hid (TR u1 (wd.alloc (.cells #[.string (s.extract a (a + n))] 9)) b s a) := HD.out.step (bx1 _ _)
  go_simp
  refine hK _ _ HA.out ?_
  clear hK K
  refine held_one 16 (by kernel_rfl) rfl (by kernel_rfl) fun K hK => ?_
  go_simp
  go_wp2_with (go_at_call 16; refine Calls.mono (join1T wd (s.extract a (a + n)) (by rw [ByteArray.size_extract]; omega)) ?_; rintro e u2 ⟨rfl, hb⟩; have H1 : Hid (TR u1 u2 b s a) := HD.out.step hb; clear hb)
  refine hK _ _ H1.out ?_
  clear hK K
  refine wpAnyH_take (i := 17) (v := .string (s.extract a (a + n))) rfl (by kernel_rfl) (by kernel_rfl) (by kernel_rfl) (fun _ _ _ h => h) (Or.inl ⟨by kernel_rfl, fun w9 h9 => ?_⟩) H1.out ?_
  · go_simp
  refine wpAnyH_done (by kernel_rfl) ?_ _
  go_simp
  obtain ⟨c0, c1⟩ := H1.out.cel
  have hl := H1.out.lt
  have hf := H1.out.frz 1
  go_wp2
  go_ret2
  exact ⟨rfl, H1.out.on (a + n) _ (by omega)⟩
end Go.Proofs.YtmmodmanfoipiaaDoor
