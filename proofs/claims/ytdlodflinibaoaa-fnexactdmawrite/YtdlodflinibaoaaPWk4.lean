import Derived.Test.YtdlodflinibaoaaPWk3
namespace Go.Proofs.Ytdlodflinibaoaa
open Go.ChangeShapes Go.WideShapes Go.ChangeAt Go.RowKit

/-- What findEntry comes to. -/
def feV (s : ByteArray) (root va : Nat) : Int × List Int × Nat × Bool :=
  if (root + 1) * 256 ≤ s.size then
    if wv s (root * 256 + 4 * (va / 8192)) % 16 = 1 then
      if (wv s (root * 256 + 4 * (va / 8192)) / 256 + 1) * 256 ≤ (s.size : Int) then (0, [(root : Int), wv s (root * 256 + 4 * (va / 8192)) / 256], (wv s (root * 256 + 4 * (va / 8192)) / 256).toNat * 256 + 4 * (va / 256 % 32), false)
      else (2, [(root : Int)], 0, false)
    else (0, [(root : Int)], root * 256 + 4 * (va / 8192), true)
  else (2, [], 0, false)
theorem WSt.read0 {w0 wr : World} {b B n : Nat} {s : ByteArray} {rv : Value} {zs : List Int} {x : WS} (h : WSt w0 b B n s wr rv zs x) (hn : s.size = n * 256) (t : Int) (h0 : 0 ≤ t) (i : Int) (hi0 : 0 ≤ i) (hi : i ≤ 31) (hs : s.size ≤ 65536) (hz : zs.length ≤ 10) :
    Calls Try.prog 125 #[.pointer (some ⟨B, 0, none⟩), .int .i64 t, .int .i64 i] wr fun e u =>
      ((t + 1) * 256 ≤ (s.size : Int) → e = .returned (.int .i64 0) ∧ ∃ rv', WSt w0 b B n s u rv' (zs ++ [t]) { x with at_ := t * 256 + 4 * i, e := wv s (t * 256 + 4 * i).toNat }) ∧
      (¬ (t + 1) * 256 ≤ (s.size : Int) → e = .returned (.int .i64 2) ∧ u = wr) := by
  by_cases ht : (t + 1) * 256 ≤ (s.size : Int)
  · obtain ⟨T, rfl⟩ := Int.eq_ofNat_of_zero_le h0
    obtain ⟨I, rfl⟩ := Int.eq_ofNat_of_zero_le hi0
    refine (readM_yes h hn hs T I T I rfl rfl (by omega) (by omega) hz).mono ?_
    rintro e u ⟨rfl, rv', h2⟩
    refine ⟨fun _ => ⟨rfl, rv', ?_⟩, fun h3 => absurd ht h3⟩
    have e1 : (T : Int) * 256 + 4 * (I : Int) = ((T * 256 + 4 * I : Nat) : Int) := by omega
    rw [e1, Int.toNat_natCast]
    exact h2
  · refine (readM_no h t i (by omega)).mono ?_
    rintro e u ⟨rfl, rfl⟩
    exact ⟨fun h3 => absurd h3 ht, fun _ => ⟨rfl, rfl⟩⟩
set_option maxRecDepth 100000 in
set_option maxHeartbeats 4000000 in
/-- The root is not in memory, or its own entry counts, or it leads to a table. -/
theorem findEntryM {w0 wr : World} {b B n : Nat} {s : ByteArray} {rv : Value} {x : WS} (h : WSt w0 b B n s wr rv [] x) (hn : s.size = n * 256) (hs : s.size ≤ 65536) (root : Nat) (hr : root ≤ 100000) (hv : x.va ≤ 262143) :
    Calls Try.prog 111 #[.pointer (some ⟨B, 0, none⟩), .int .i64 root] wr fun e u => e = .returned (.int .i64 (feV s root x.va).1) ∧ ∃ rv' x', WSt w0 b B n s u rv' (feV s root x.va).2.1 x' ∧ x'.va = x.va ∧ x'.acc = x.acc ∧ x'.user = x.user ∧ ((feV s root x.va).1 = 0 → x'.at_ = ((feV s root x.va).2.2.1 : Int) ∧ x'.e = wv s (feV s root x.va).2.2.1 ∧ x'.lg = (feV s root x.va).2.2.2 ∧ (feV s root x.va).2.2.1 + 4 ≤ s.size ∧ (feV s root x.va).2.2.1 % 4 = 0) := by
  obtain ⟨c0, c1, c2, c3, c4, c5, c6, c7, c8, cf⟩ := h.box.cells
  obtain ⟨va, acc, user, at_, e, lg, pa⟩ := x
  simp only at *
  have V : Hid (va ≤ 262143) := hv
  have hF := fun w => firstIndex_any va w hv
  by_cases hr1 : (root + 1) * 256 ≤ s.size
  · have HR : Hid _ := fun q => (h.drew q).read0 hn root (by omega) ((va : Int) / 8192) (by omega) (by omega) hs (by simp)
    obtain ⟨y, hy⟩ : ∃ y, wv s (root * 256 + 4 * (va / 8192)) = y := ⟨_, rfl⟩
    obtain ⟨y0, y1⟩ := wv_b s (root * 256 + 4 * (va / 8192))
    have ek : ((root : Int) * 256 + 4 * ((va : Int) / 8192)).toNat = root * 256 + 4 * (va / 8192) := by omega
    rw [hy] at y0 y1
    have ht := fun w => isTable_any y w y0 y1
    by_cases h16 : y % 16 = 1
    · have hd : decide (y % 16 = 1) = true := by simpa using h16
      rw [hd] at ht
      by_cases hT : (y / 256 + 1) * 256 ≤ (s.size : Int)
      · have E : Hid (feV s root va = (0, [(root : Int), y / 256], (y / 256).toNat * 256 + 4 * (va / 256 % 32), false)) := by
          show feV s root va = _
          unfold feV
          rw [if_pos hr1, hy, if_pos h16, if_pos hT]
        rw [E.out]
        have HY : Hid _ := hy
        have EK : Hid _ := ek
        have HHn : Hid (s.size = n * 256) := hn
        have HHs : Hid (s.size ≤ 65536) := hs
        clear hv h hd h16 hy ek hn hs
        go_enter Try.func111, Try.ntmps111
        go_wp2_with (first | (go_at_call 126; refine Calls.mono (hF _) ?_; rintro e u ⟨rfl, q, hu⟩; rw [hu]; clear hu u) | (go_at_call 125; refine Calls.mono (HR.out q) ?_; rintro e u ⟨hyes, _⟩; obtain ⟨rfl, rv', hst⟩ := hyes (by omega); rw [EK.out, HY.out] at hst; have HS : Hid _ := hst; obtain ⟨d0, d1, d2, d3, d4, d5, d6, d7, d8, df⟩ := hst.box.cells; simp only at d5; clear hst hyes; clear HR) | (go_at_call 127; refine Calls.mono (ht _) ?_; rintro e u ⟨rfl, hu⟩; rw [hu]; clear hu u))
        have H6 : Hid (WSt w0 b B n s (u.setCell ⟨B, 6, none⟩ (.bool false)) rv' ([] ++ [(root : Int)]) _) := HS.out.put6 false
        have H2 : Hid (∀ v, Below (u.setCell ⟨B, 6, none⟩ (.bool false)).heap.size (u.setCell ⟨B, 6, none⟩ (.bool false)) v → _) := fun v hv => (H6.out.below hv).read0 HHn.out (y / 256) (by omega) ((va : Int) / 256 % 32) (by omega) (by omega) HHs.out (by simp)
        have HV6 : Hid _ := fun v hv => H6.out.below (u := v) hv
        go_region_with (first | (go_at_call 128; refine (frameOf_any _ _).mono ?_; rintro e u3 ⟨rfl, hu3⟩; rw [hu3]; clear hu3 u3) | (go_at_call 129; refine (secondIndex_any _ _ V.out).mono ?_; rintro e u4 ⟨rfl, q4, hu4⟩; rw [hu4]; clear hu4 u4) | (go_at_call 125; refine Calls.mono (H2.out _ (by exact ⟨rfl, rfl, rfl, Nat.le_refl _, fun _ _ => rfl⟩)) ?_; rintro e u5 ⟨hyes, _⟩; obtain ⟨rfl, rv2, hst2⟩ := hyes (by omega); have HF : Hid _ := hst2; clear hst2 hyes))
        all_goals
          go_wp2
          go_ret
          refine ⟨rfl, _, _, HF.out, rfl, rfl, rfl, fun _ => ⟨?_, ?_, rfl, ?_, ?_⟩⟩
          · show y / 256 * 256 + 4 * ((va : Int) / 256 % 32) = _
            omega
          · show wv s (y / 256 * 256 + 4 * ((va : Int) / 256 % 32)).toNat = _
            congr 1
            omega
          · omega
          · omega
      · have E : Hid (feV s root va = (2, [(root : Int)], 0, false)) := by
          show feV s root va = _
          unfold feV
          rw [if_pos hr1, hy, if_pos h16, if_neg hT]
        rw [E.out]
        have HY : Hid _ := hy
        have EK : Hid _ := ek
        have HHn : Hid (s.size = n * 256) := hn
        have HHs : Hid (s.size ≤ 65536) := hs
        clear hv h hd h16 hy ek hn hs
        go_enter Try.func111, Try.ntmps111
        go_wp2_with (first | (go_at_call 126; refine Calls.mono (hF _) ?_; rintro e u ⟨rfl, q, hu⟩; rw [hu]; clear hu u) | (go_at_call 125; refine Calls.mono (HR.out q) ?_; rintro e u ⟨hyes, _⟩; obtain ⟨rfl, rv', hst⟩ := hyes (by omega); rw [EK.out, HY.out] at hst; have HS : Hid _ := hst; obtain ⟨d0, d1, d2, d3, d4, d5, d6, d7, d8, df⟩ := hst.box.cells; simp only at d5; clear hst hyes; clear HR) | (go_at_call 127; refine Calls.mono (ht _) ?_; rintro e u ⟨rfl, hu⟩; rw [hu]; clear hu u))
        have H6 : Hid (WSt w0 b B n s (u.setCell ⟨B, 6, none⟩ (.bool false)) rv' ([] ++ [(root : Int)]) _) := HS.out.put6 false
        have H2 : Hid (∀ v, Below (u.setCell ⟨B, 6, none⟩ (.bool false)).heap.size (u.setCell ⟨B, 6, none⟩ (.bool false)) v → _) := fun v hv => (H6.out.below hv).read0 HHn.out (y / 256) (by omega) ((va : Int) / 256 % 32) (by omega) (by omega) HHs.out (by simp)
        have HV6 : Hid _ := fun v hv => H6.out.below (u := v) hv
        go_region_with (first | (go_at_call 128; refine (frameOf_any _ _).mono ?_; rintro e u3 ⟨rfl, hu3⟩; rw [hu3]; clear hu3 u3) | (go_at_call 129; refine (secondIndex_any _ _ V.out).mono ?_; rintro e u4 ⟨rfl, q4, hu4⟩; rw [hu4]; clear hu4 u4) | (go_at_call 125; refine Calls.mono (H2.out _ (by exact ⟨rfl, rfl, rfl, Nat.le_refl _, fun _ _ => rfl⟩)) ?_; rintro e u5 ⟨_, hno⟩; obtain ⟨rfl, hu5⟩ := hno (by omega); have HF : Hid _ := HV6.out u5 (by rw [hu5]; exact ⟨rfl, rfl, rfl, Nat.le_refl _, fun _ _ => rfl⟩); clear hu5 hno))
        all_goals
          go_wp2
          go_ret
          exact ⟨rfl, _, _, HF.out, rfl, rfl, rfl, fun h => by cases h⟩
    · have hd : decide (y % 16 = 1) = false := by simpa using h16
      rw [hd] at ht
      have E : Hid (feV s root va = (0, [(root : Int)], root * 256 + 4 * (va / 8192), true)) := by
        show feV s root va = _
        unfold feV
        rw [if_pos hr1, hy, if_neg h16]
      rw [E.out]
      have HY : Hid _ := hy
      have EK : Hid _ := ek
      clear hv h hd h16 hy ek hn hs
      go_enter Try.func111, Try.ntmps111
      go_wp2_with (first | (go_at_call 126; refine Calls.mono (hF _) ?_; rintro e u ⟨rfl, q, hu⟩; rw [hu]; clear hu u) | (go_at_call 125; refine Calls.mono (HR.out q) ?_; rintro e u ⟨hyes, _⟩; obtain ⟨rfl, rv', hst⟩ := hyes (by omega); rw [EK.out, HY.out] at hst; have HS : Hid _ := hst; obtain ⟨d0, d1, d2, d3, d4, d5, d6, d7, d8, df⟩ := hst.box.cells; simp only at d5; clear hst hyes; clear HR) | (go_at_call 127; refine Calls.mono (ht _) ?_; rintro e u ⟨rfl, hu⟩; rw [hu]; clear hu u))
      go_ret
      refine ⟨rfl, _, _, HS.out.put6 true, rfl, rfl, rfl, fun _ => ⟨?_, HY.out.symm, rfl, ?_, ?_⟩⟩
      · show (root : Int) * 256 + 4 * ((va : Int) / 8192) = _
        omega
      · have := V.out
        omega
      · omega
  · have HR : Hid _ := fun q => (h.drew q).read0 hn root (by omega) ((va : Int) / 8192) (by omega) (by omega) hs (by simp)
    have HD : Hid _ := fun q => h.drew q
    have E : Hid (feV s root va = (2, [], 0, false)) := by
      show feV s root va = _
      unfold feV
      rw [if_neg hr1]
    rw [E.out]
    clear hv h hn hs
    go_enter Try.func111, Try.ntmps111
    go_wp2_with (first | (go_at_call 126; refine Calls.mono (hF _) ?_; rintro e u ⟨rfl, q, hu⟩; rw [hu]; clear hu u) | (go_at_call 125; refine Calls.mono (HR.out q) ?_; rintro e u ⟨_, hno⟩; obtain ⟨rfl, hu⟩ := hno (by omega); rw [hu]; clear hu hno))
    go_ret
    exact ⟨rfl, _, _, HD.out q, rfl, rfl, rfl, fun h => by cases h⟩
end Go.Proofs.Ytdlodflinibaoaa
