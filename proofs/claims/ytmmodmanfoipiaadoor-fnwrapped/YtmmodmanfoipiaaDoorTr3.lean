import Derived.Test.YtmmodmanfoipiaaDoorTr2
namespace Go.Proofs.YtmmodmanfoipiaaDoor
open Go.ChangeShapes Go.WideShapes Go.ChangeAt Go.RowKit

set_option maxRecDepth 100000 in
set_option maxHeartbeats 4000000 in
theorem word_no {w : World} {b a : Nat} {s : ByteArray} (h : TR w w b s a) (hs : s.size ≤ 1048576) (hb : s.size < a + 4) : Calls Tryd.prog 55 #[.pointer (some ⟨b, 0, none⟩)] w fun e w' => ∃ q, e = .returned (.tuple #[.int .i64 0, sTop q]) ∧ TR w w' b s a ∧ EX w' q 3 := by
  have HB : Hid _ := bytes_no (z := 4) h hs (by omega) (by omega) (by omega)
  clear h hb
  unfold sTop at HB ⊢
  go_enter Tryd.func55, Tryd.ntmps55
  go_wp2_with (go_at_call 45; refine Calls.mono HB.out ?_; rintro e u1 ⟨q, rfl, ht, he⟩; have HT : Hid _ := ht; have HE : Hid _ := he; clear ht he)
  go_ret2
  exact ⟨_, rfl, HT.out, HE.out⟩
theorem fldN (g : Bool) (x : Int) (w : World) : Sem.run Tryd.prog (Instr.field 119 (.agg #[.bool g, .int .i64 x]) 1) w = .ok (.int .i64 x) w := by kernel_rfl
set_option maxRecDepth 100000 in
set_option maxHeartbeats 4000000 in
theorem word_yes {w : World} {b a : Nat} {s : ByteArray} (h : TR w w b s a) (hs : s.size ≤ 1048576) (hb : a + 4 ≤ s.size) : Calls Tryd.prog 55 #[.pointer (some ⟨b, 0, none⟩)] w fun e w' => e = .returned (.tuple #[.int .i64 (wv s a), .nilIface]) ∧ TR w w' b s (a + 4) := by
  have HB : Hid _ := bytes_yes (n := 4) h hs hb
  have hz : (s.extract a (a + 4)).size = 4 := by rw [ByteArray.size_extract]; omega
  have HG : Hid (∀ u, Calls Tryd.prog 60 #[.string (s.extract a (a + 4)), .int .i64 0] u fun e w' => e = .returned (.agg #[.bool true, .int .i64 (wv s a)]) ∧ Below u.heap.size u w') := fun u => by
    have h9 := implGetWord_yes (s.extract a (a + 4)) 0 u (by unfold hwd; exact decide_eq_true (by omega)) (by omega) (by omega)
    rw [wv_cut s a hb] at h9
    exact h9
  have hf := fun u => fldN true (wv s a) u
  clear h hb
  generalize s.extract a (a + 4) = t at *
  go_enter Tryd.func55, Tryd.ntmps55
  go_wp2_with (first
    | (go_at_call 45; refine Calls.mono HB.out ?_; rintro e u1 ⟨rfl, ht⟩; have HT : Hid _ := ht; clear ht HB)
    | (go_at_call 60; refine Calls.mono (HG.out _) ?_; rintro e u2 ⟨rfl, hb⟩; have HT2 : Hid (TR w u2 b s (a + 4)) := HT.out.step hb; clear hb))
  go_ret2
  exact ⟨rfl, HT2.out⟩
/-- The mark of a wrapped frame. -/
def nvB (s : ByteArray) : Bool := decide (2 ≤ s.size) && ((s.extract 0 2).toList == [78, 86])
set_option maxRecDepth 100000 in
set_option maxHeartbeats 2000000 in
theorem litePre2 (s : ByteArray) (w : World) : Calls Tryd.prog 59 #[.string s, .string ⟨#[78, 86]⟩] w fun e w' => e = .returned (.bool (nvB s)) ∧ w' = w := by
  have hc : (({ data := #[78, 86] } : ByteArray).size : Int) = 2 := rfl
  by_cases h : 2 ≤ s.size
  · have hsl : ∀ w, Sem.run Tryd.prog (Instr.slice 9 (.string s) none (some (.int .i64 2)) none) w = .ok (.string (s.extract 0 2)) w := fun w => by
      rw [run_slice_string_to_if _ _ _ _ _ Tryd.underlying9, if_pos (by omega)]
      rfl
    have hz : (2 : Int) ≤ (s.size : Int) := by omega
    have E : Hid (nvB s = ((s.extract 0 2).toList == [78, 86])) := (show nvB s = _ by unfold nvB; rw [decide_eq_true h]; rfl)
    clear h
    go_enter Tryd.func59, Tryd.ntmps59
    go_wp2
    go_ret
    exact ⟨by rw [E.out]; rfl, rfl⟩
  · have hz : ¬ (2 : Int) ≤ (s.size : Int) := by omega
    have E : Hid (nvB s = false) := (show nvB s = _ by unfold nvB; rw [decide_eq_false h]; rfl)
    clear h
    go_enter Tryd.func59, Tryd.ntmps59
    go_wp2
    go_ret
    exact ⟨by rw [E.out]; rfl, rfl⟩
set_option maxRecDepth 100000 in
set_option maxHeartbeats 2000000 in
theorem hasPre2 (s : ByteArray) (w : World) : Calls Tryd.prog 52 #[.string s, .string ⟨#[78, 86]⟩] w fun e w' => e = .returned (.bool (nvB s)) ∧ w' = w := by
  have hp := litePre2 s
  go_enter Tryd.func52, Tryd.ntmps52
  go_wp2_with (go_at_call 59; refine Calls.mono (hp _) ?_; rintro e u1 ⟨rfl, rfl⟩)
  go_ret
  exact ⟨rfl, rfl⟩
set_option maxRecDepth 100000 in
set_option maxHeartbeats 4000000 in
theorem mark_any {w : World} {b : Nat} {s : ByteArray} (h : TR w w b s 0) : Calls Tryd.prog 43 #[.pointer (some ⟨b, 0, none⟩), .string ⟨#[78, 86]⟩] w fun e w' => (nvB s = true ∧ e = .returned .nilIface ∧ TR w w' b s 2) ∨ (nvB s = false ∧ ∃ q, e = .returned (sTop q) ∧ TR w w' b s 0 ∧ EX w' q 3) := by
  have HP : Hid _ := hasPre2 s
  have HX : Hid (TR w w b s 0) := h
  obtain ⟨c0, c1⟩ := h.cel
  have hl := h.lt
  have hf := h.frz 1
  clear h
  cases hv : nvB s
  · have HV : Hid (nvB s = false) := hv
    rw [hv] at HP
    clear hv
    go_enter Tryd.func43, Tryd.ntmps43
    go_wp2_with (go_at_call 52; refine Calls.mono (HP.out _) ?_; rintro e u1 ⟨rfl, rfl⟩)
    go_ret
    exact .inr ⟨trivial, _, rfl, HX.out.step (bx1 _ _), EX.new _ _ _⟩
  · rw [hv] at HP
    clear hv
    have hc : (({ data := #[78, 86] } : ByteArray).size : Int) = 2 := rfl
    go_enter Tryd.func43, Tryd.ntmps43
    go_wp2_with (go_at_call 52; refine Calls.mono (HP.out _) ?_; rintro e u1 ⟨rfl, rfl⟩)
    go_ret
    exact .inl ⟨trivial, rfl, HX.out.on 2 _ rfl⟩
/-- What the end of a text is told with. -/
def endC (s : ByteArray) (a : Nat) (sd : Int) : Int := if s.size ≠ a + 4 then 3 else if wv s a ≠ mixv (s.extract 0 a) sd then 10 else 0
set_option maxRecDepth 100000 in
set_option maxHeartbeats 8000000 in
theorem end_any {w : World} {b a : Nat} {s : ByteArray} (h : TR w w b s a) (hs : s.size ≤ 1048576) (ha : a ≤ s.size) (sd : Int) : Calls Tryd.prog 46 #[.pointer (some ⟨b, 0, none⟩), .int .i64 sd] w fun e w' => ∃ a', TR w w' b s a' ∧ ((endC s a sd = 0 ∧ e = .returned .nilIface) ∨ (endC s a sd ≠ 0 ∧ ∃ q, e = .returned (sTop q) ∧ EX w' q (endC s a sd))) := by
  have HX : Hid (TR w w b s a) := h
  obtain ⟨c0, c1⟩ := h.cel
  have hl := h.lt
  by_cases h1 : s.size < a + 4
  · have HW : Hid _ := word_no h hs h1
    have E : Hid (endC s a sd = 3) := if_pos (by omega)
    clear h h1
    unfold sTop at HW ⊢
    go_enter Tryd.func46, Tryd.ntmps46
    go_wp2_with (go_at_call 55; refine Calls.mono HW.out ?_; rintro e u1 ⟨q, rfl, ht, he⟩; have HT : Hid _ := ht; have HE : Hid _ := he; clear ht he)
    go_ret
    exact ⟨_, HT.out, .inr ⟨by rw [E.out]; decide, _, rfl, by rw [E.out]; exact HE.out⟩⟩
  have HW : Hid _ := word_yes h hs (by omega)
  have ha9 : (a : Int) ≤ 1048576 := by omega
  have hs9 : (s.size : Int) ≤ 1048576 := by omega
  have ha0 : (0 : Int) ≤ (a : Int) := by omega
  clear h
  by_cases h2 : s.size = a + 4
  rotate_left
  · have E : Hid (endC s a sd = 3) := if_pos h2
    have hlt : (a : Int) + 4 < (s.size : Int) := by omega
    clear h1 h2
    unfold sTop
    go_enter Tryd.func46, Tryd.ntmps46
    go_upto_region 5 with (go_at_call 55; refine Calls.mono HW.out ?_; rintro e u1 ⟨rfl, ht⟩; have HT : Hid _ := ht; clear ht c0 c1 hl; obtain ⟨c0, c1⟩ := HT.out.cel; have hl := HT.out.lt)
    have HD : Hid (TR w u1.drew b s (a + 4)) := HT.out.step (Below.refl _ _).drew
    refine wp_region_held (S := fun w9 => TR w w9 b s (a + 4)) (by kernel_rfl) ?_
    change wpAnyH _ _ _ _ _ _ _ _ (World.drew _)
    generalize u1.drew = wd at *
    refine wpAnyH_take (i := 0) (v := .pointer (some ⟨b, 0, none⟩)) rfl (by kernel_rfl) (by kernel_rfl) (by kernel_rfl) (fun _ _ _ h => h) (Or.inl ⟨by kernel_rfl, fun w9 h9 => ?_⟩) HD.out ?_
    · go_simp
    refine wpAnyH_take (i := 1) (v := .pointer (some ⟨b, 0, none⟩)) rfl (by kernel_rfl) (by kernel_rfl) (by kernel_rfl) (fun _ _ _ h => h) (Or.inl ⟨by kernel_rfl, fun w9 h9 => ?_⟩) HD.out ?_
    · go_simp
    refine wpAnyH_take (i := 2) (v := .pointer (some ⟨b, 1, none⟩)) rfl (by kernel_rfl) (by kernel_rfl) (by kernel_rfl) (fun _ _ _ h => h) (Or.inl ⟨by kernel_rfl, fun w9 h9 => ?_⟩) HD.out ?_
    · go_simp
    refine wpAnyH_take (i := 3) (v := .int .i64 ((a + 4 : Nat) : Int)) rfl (by kernel_rfl) (by kernel_rfl) (by kernel_rfl) (fun _ _ _ h => h) (Or.inl ⟨by kernel_rfl, fun w9 h9 => ?_⟩) HD.out ?_
    · obtain ⟨y0, y1⟩ := h9.cel; have yl := h9.lt; go_simp
    refine wpAnyH_take (i := 4) (v := .pointer (some ⟨b, 0, none⟩)) rfl (by kernel_rfl) (by kernel_rfl) (by kernel_rfl) (fun _ _ _ h => h) (Or.inl ⟨by kernel_rfl, fun w9 h9 => ?_⟩) HD.out ?_
    · go_simp
    refine wpAnyH_take (i := 5) (v := .pointer (some ⟨b, 0, none⟩)) rfl (by kernel_rfl) (by kernel_rfl) (by kernel_rfl) (fun _ _ _ h => h) (Or.inl ⟨by kernel_rfl, fun w9 h9 => ?_⟩) HD.out ?_
    · go_simp
    refine wpAnyH_take (i := 6) (v := .pointer (some ⟨b, 0, none⟩)) rfl (by kernel_rfl) (by kernel_rfl) (by kernel_rfl) (fun _ _ _ h => h) (Or.inl ⟨by kernel_rfl, fun w9 h9 => ?_⟩) HD.out ?_
    · go_simp
    refine wpAnyH_take (i := 7) (v := .string s) rfl (by kernel_rfl) (by kernel_rfl) (by kernel_rfl) (fun _ _ _ h => h) (Or.inl ⟨by kernel_rfl, fun w9 h9 => ?_⟩) HD.out ?_
    · obtain ⟨y0, y1⟩ := h9.cel; have yl := h9.lt; go_simp
    refine wpAnyH_take (i := 8) (v := .int .i64 (s.size : Int)) rfl (by kernel_rfl) (by kernel_rfl) (by kernel_rfl) (fun _ _ _ h => h) (Or.inl ⟨by kernel_rfl, fun w9 h9 => ?_⟩) HD.out ?_
    · go_simp
    refine wpAnyH_take (i := 9) (v := .bool true) rfl (by kernel_rfl) (by kernel_rfl) (by kernel_rfl) (fun _ _ _ h => h) (Or.inl ⟨by kernel_rfl, fun w9 h9 => ?_⟩) HD.out ?_
    · go_simp; first | done | omega | (simp; omega)
    refine wpAnyH_done (by kernel_rfl) ?_ _
    go_simp
    clear c0 c1 hl
    obtain ⟨c0, c1⟩ := HD.out.cel
    have hl := HD.out.lt
    go_wp2
    go_ret
    exact ⟨_, HD.out.step (bx1 _ _), .inr ⟨by rw [E.out]; decide, _, rfl, by rw [E.out]; exact EX.new _ _ _⟩⟩
  have HM : Hid (∀ u, Calls Tryd.prog 19 #[.string (s.extract 0 a), .int .i64 sd] u fun e w' => e = .returned (.int .i64 (mixv (s.extract 0 a) sd)) ∧ w' = u) := fun u => implMix_any (s.extract 0 a) sd u (by rw [ByteArray.size_extract]; omega)
  have hsl : ∀ w, Sem.run Tryd.prog (Instr.slice 9 (.string s) none (some (.int .i64 (a : Int))) none) w = .ok (.string (s.extract 0 a)) w := fun w => by
    rw [run_slice_string_to_if _ _ _ _ _ Tryd.underlying9, if_pos (by omega)]
    rfl
  have hlt : ¬ (a : Int) + 4 < (s.size : Int) := by omega
  by_cases h3 : wv s a = mixv (s.extract 0 a) sd
  · have E : Hid (endC s a sd = 0) := (show endC s a sd = 0 by unfold endC; rw [if_neg (by omega), if_neg (by omega)])
    have hne : (wv s a != mixv (s.extract 0 a) sd) = false := by simp [h3]
    clear h1 h2 h3
    generalize mixv (s.extract 0 a) sd = mx at *
    generalize wv s a = wx at *
    go_enter Tryd.func46, Tryd.ntmps46
    go_upto_region 5 with (go_at_call 55; refine Calls.mono HW.out ?_; rintro e u1 ⟨rfl, ht⟩; have HT : Hid _ := ht; clear ht c0 c1 hl; obtain ⟨c0, c1⟩ := HT.out.cel; have hl := HT.out.lt)
    have HD : Hid (TR w u1.drew b s (a + 4)) := HT.out.step (Below.refl _ _).drew
    refine wp_region_held (S := fun w9 => TR w w9 b s (a + 4)) (by kernel_rfl) ?_
    change wpAnyH _ _ _ _ _ _ _ _ (World.drew _)
    generalize u1.drew = wd at *
    refine wpAnyH_take (i := 0) (v := .pointer (some ⟨b, 0, none⟩)) rfl (by kernel_rfl) (by kernel_rfl) (by kernel_rfl) (fun _ _ _ h => h) (Or.inl ⟨by kernel_rfl, fun w9 h9 => ?_⟩) HD.out ?_
    · go_simp
    refine wpAnyH_take (i := 1) (v := .pointer (some ⟨b, 0, none⟩)) rfl (by kernel_rfl) (by kernel_rfl) (by kernel_rfl) (fun _ _ _ h => h) (Or.inl ⟨by kernel_rfl, fun w9 h9 => ?_⟩) HD.out ?_
    · go_simp
    refine wpAnyH_take (i := 2) (v := .pointer (some ⟨b, 1, none⟩)) rfl (by kernel_rfl) (by kernel_rfl) (by kernel_rfl) (fun _ _ _ h => h) (Or.inl ⟨by kernel_rfl, fun w9 h9 => ?_⟩) HD.out ?_
    · go_simp
    refine wpAnyH_take (i := 3) (v := .int .i64 ((a + 4 : Nat) : Int)) rfl (by kernel_rfl) (by kernel_rfl) (by kernel_rfl) (fun _ _ _ h => h) (Or.inl ⟨by kernel_rfl, fun w9 h9 => ?_⟩) HD.out ?_
    · obtain ⟨y0, y1⟩ := h9.cel; have yl := h9.lt; go_simp
    refine wpAnyH_take (i := 4) (v := .pointer (some ⟨b, 0, none⟩)) rfl (by kernel_rfl) (by kernel_rfl) (by kernel_rfl) (fun _ _ _ h => h) (Or.inl ⟨by kernel_rfl, fun w9 h9 => ?_⟩) HD.out ?_
    · go_simp
    refine wpAnyH_take (i := 5) (v := .pointer (some ⟨b, 0, none⟩)) rfl (by kernel_rfl) (by kernel_rfl) (by kernel_rfl) (fun _ _ _ h => h) (Or.inl ⟨by kernel_rfl, fun w9 h9 => ?_⟩) HD.out ?_
    · go_simp
    refine wpAnyH_take (i := 6) (v := .pointer (some ⟨b, 0, none⟩)) rfl (by kernel_rfl) (by kernel_rfl) (by kernel_rfl) (fun _ _ _ h => h) (Or.inl ⟨by kernel_rfl, fun w9 h9 => ?_⟩) HD.out ?_
    · go_simp
    refine wpAnyH_take (i := 7) (v := .string s) rfl (by kernel_rfl) (by kernel_rfl) (by kernel_rfl) (fun _ _ _ h => h) (Or.inl ⟨by kernel_rfl, fun w9 h9 => ?_⟩) HD.out ?_
    · obtain ⟨y0, y1⟩ := h9.cel; have yl := h9.lt; go_simp
    refine wpAnyH_take (i := 8) (v := .int .i64 (s.size : Int)) rfl (by kernel_rfl) (by kernel_rfl) (by kernel_rfl) (fun _ _ _ h => h) (Or.inl ⟨by kernel_rfl, fun w9 h9 => ?_⟩) HD.out ?_
    · go_simp
    refine wpAnyH_take (i := 9) (v := .bool false) rfl (by kernel_rfl) (by kernel_rfl) (by kernel_rfl) (fun _ _ _ h => h) (Or.inl ⟨by kernel_rfl, fun w9 h9 => ?_⟩) HD.out ?_
    · go_simp; first | done | omega | (simp; omega)
    refine wpAnyH_done (by kernel_rfl) ?_ _
    go_simp
    clear c0 c1 hl
    obtain ⟨c0, c1⟩ := HD.out.cel
    have hl := HD.out.lt
    go_wp2_with (go_at_call 19; refine Calls.mono (HM.out _) ?_; rintro e u2 ⟨rfl, rfl⟩)
    go_ret
    exact ⟨_, HD.out, .inl ⟨E.out, rfl⟩⟩
  · have E : Hid (endC s a sd = 10) := (show endC s a sd = 10 by unfold endC; rw [if_neg (by omega), if_pos h3])
    have hne : (wv s a != mixv (s.extract 0 a) sd) = true := by simp [h3]
    clear h1 h2 h3
    generalize mixv (s.extract 0 a) sd = mx at *
    generalize wv s a = wx at *
    unfold sTop
    go_enter Tryd.func46, Tryd.ntmps46
    go_upto_region 5 with (go_at_call 55; refine Calls.mono HW.out ?_; rintro e u1 ⟨rfl, ht⟩; have HT : Hid _ := ht; clear ht c0 c1 hl; obtain ⟨c0, c1⟩ := HT.out.cel; have hl := HT.out.lt)
    have HD : Hid (TR w u1.drew b s (a + 4)) := HT.out.step (Below.refl _ _).drew
    refine wp_region_held (S := fun w9 => TR w w9 b s (a + 4)) (by kernel_rfl) ?_
    change wpAnyH _ _ _ _ _ _ _ _ (World.drew _)
    generalize u1.drew = wd at *
    refine wpAnyH_take (i := 0) (v := .pointer (some ⟨b, 0, none⟩)) rfl (by kernel_rfl) (by kernel_rfl) (by kernel_rfl) (fun _ _ _ h => h) (Or.inl ⟨by kernel_rfl, fun w9 h9 => ?_⟩) HD.out ?_
    · go_simp
    refine wpAnyH_take (i := 1) (v := .pointer (some ⟨b, 0, none⟩)) rfl (by kernel_rfl) (by kernel_rfl) (by kernel_rfl) (fun _ _ _ h => h) (Or.inl ⟨by kernel_rfl, fun w9 h9 => ?_⟩) HD.out ?_
    · go_simp
    refine wpAnyH_take (i := 2) (v := .pointer (some ⟨b, 1, none⟩)) rfl (by kernel_rfl) (by kernel_rfl) (by kernel_rfl) (fun _ _ _ h => h) (Or.inl ⟨by kernel_rfl, fun w9 h9 => ?_⟩) HD.out ?_
    · go_simp
    refine wpAnyH_take (i := 3) (v := .int .i64 ((a + 4 : Nat) : Int)) rfl (by kernel_rfl) (by kernel_rfl) (by kernel_rfl) (fun _ _ _ h => h) (Or.inl ⟨by kernel_rfl, fun w9 h9 => ?_⟩) HD.out ?_
    · obtain ⟨y0, y1⟩ := h9.cel; have yl := h9.lt; go_simp
    refine wpAnyH_take (i := 4) (v := .pointer (some ⟨b, 0, none⟩)) rfl (by kernel_rfl) (by kernel_rfl) (by kernel_rfl) (fun _ _ _ h => h) (Or.inl ⟨by kernel_rfl, fun w9 h9 => ?_⟩) HD.out ?_
    · go_simp
    refine wpAnyH_take (i := 5) (v := .pointer (some ⟨b, 0, none⟩)) rfl (by kernel_rfl) (by kernel_rfl) (by kernel_rfl) (fun _ _ _ h => h) (Or.inl ⟨by kernel_rfl, fun w9 h9 => ?_⟩) HD.out ?_
    · go_simp
    refine wpAnyH_take (i := 6) (v := .pointer (some ⟨b, 0, none⟩)) rfl (by kernel_rfl) (by kernel_rfl) (by kernel_rfl) (fun _ _ _ h => h) (Or.inl ⟨by kernel_rfl, fun w9 h9 => ?_⟩) HD.out ?_
    · go_simp
    refine wpAnyH_take (i := 7) (v := .string s) rfl (by kernel_rfl) (by kernel_rfl) (by kernel_rfl) (fun _ _ _ h => h) (Or.inl ⟨by kernel_rfl, fun w9 h9 => ?_⟩) HD.out ?_
    · obtain ⟨y0, y1⟩ := h9.cel; have yl := h9.lt; go_simp
    refine wpAnyH_take (i := 8) (v := .int .i64 (s.size : Int)) rfl (by kernel_rfl) (by kernel_rfl) (by kernel_rfl) (fun _ _ _ h => h) (Or.inl ⟨by kernel_rfl, fun w9 h9 => ?_⟩) HD.out ?_
    · go_simp
    refine wpAnyH_take (i := 9) (v := .bool false) rfl (by kernel_rfl) (by kernel_rfl) (by kernel_rfl) (fun _ _ _ h => h) (Or.inl ⟨by kernel_rfl, fun w9 h9 => ?_⟩) HD.out ?_
    · go_simp; first | done | omega | (simp; omega)
    refine wpAnyH_done (by kernel_rfl) ?_ _
    go_simp
    clear c0 c1 hl
    obtain ⟨c0, c1⟩ := HD.out.cel
    have hl := HD.out.lt
    go_wp2_with (go_at_call 19; refine Calls.mono (HM.out _) ?_; rintro e u2 ⟨rfl, rfl⟩)
    go_ret
    exact ⟨_, HD.out.step (bx1 _ _), .inr ⟨by rw [E.out]; decide, _, rfl, by rw [E.out]; exact EX.new _ _ _⟩⟩
end Go.Proofs.YtmmodmanfoipiaaDoor
