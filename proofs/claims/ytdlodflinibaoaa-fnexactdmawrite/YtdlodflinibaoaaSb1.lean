import Derived.Test.YtdlodflinibaoaaRowBU1
import Derived.Test.YtdlodflinibaoaaPk0
namespace Go.Proofs.Ytdlodflinibaoaa
open Go.ChangeShapes Go.WideShapes Go.ChangeAt Go.RowKit

/-- A buffer is in memory. -/
def buB (n : Nat) (z : BU) : Bool := inW n z.pos z.len
/-- Memory is right, and all buffers are in it. -/
def bsB (s : ByteArray) (zs : List BU) : Bool := memOk s && decide (zs.length ≤ 1000) && zs.all (buB s.size)
theorem bsB_no {s : ByteArray} {zs : List BU} {k : Nat} (hk : k < zs.length) (h : inW s.size zs[k].pos zs[k].len = false) : bsB s zs = false := by
  have : zs.all (buB s.size) = false := by
    rw [List.all_eq_false]
    exact ⟨zs[k], List.getElem_mem hk, by unfold buB; rw [h]; simp⟩
  unfold bsB
  rw [this, Bool.and_false]
/-- The first k are in memory. -/
def BuTo (n : Nat) (zs : List BU) (k : Nat) : Prop := ∀ j (hj : j < zs.length), j < k → inW n zs[j].pos zs[j].len = true
theorem BuTo.zero (n : Nat) (zs : List BU) : BuTo n zs 0 := fun j _ h => by omega
theorem BuTo.next {n : Nat} {zs : List BU} {k : Nat} (h : BuTo n zs k) (hk : k < zs.length) (h1 : inW n zs[k].pos zs[k].len = true) : BuTo n zs (k + 1) := by
  intro j hj hjk
  by_cases e : j = k
  · subst e
    exact h1
  · exact h j hj (by omega)
theorem bsB_yes {s : ByteArray} {zs : List BU} (h0 : memOk s = true) (h1 : zs.length ≤ 1000) (h : BuTo s.size zs zs.length) : bsB s zs = true := by
  unfold bsB
  rw [h0, decide_eq_true h1]
  simp only [Bool.true_and]
  rw [List.all_eq_true]
  intro z hz
  obtain ⟨j, hj, rfl⟩ := List.getElem_of_mem hz
  exact h j hj hj
theorem bsB_b {s : ByteArray} {zs : List BU} (h : bsB s zs = true) : memOk s = true ∧ zs.length ≤ 1000 ∧ ∀ j (hj : j < zs.length), inW s.size zs[j].pos zs[j].len = true := by
  unfold bsB at h
  simp only [Bool.and_eq_true, decide_eq_true_eq, List.all_eq_true] at h
  exact ⟨h.1.1, h.1.2, fun j hj => h.2 _ (List.getElem_mem hj)⟩
set_option maxRecDepth 100000 in
set_option maxHeartbeats 4000000 in
theorem l10Bufs_any {w : World} {v : Value} {zs : List BU} (s : ByteArray) (h : BUrow w v zs) (hl : zs.length ≤ 1048576) (hs : s.size ≤ 1048576) :
    Calls Try.prog 61 #[.string s, v] w fun e w' => e = .returned (.bool (bsB s zs)) ∧ Below w.heap.size w w' := by
  have HM : Hid _ := fun u => specMemFault_any s u (by omega)
  obtain ⟨a1, c1, rfl⟩ := h.sl
  have HR : Hid (BUrow w (.slice a1 zs.length c1) zs) := h
  clear h
  cases hm : memOk s
  · rw [memC_no hm] at HM
    have E : Hid (bsB s zs = false) := (show bsB s zs = false by unfold bsB; rw [hm]; rfl)
    clear hm
    go_enter Try.func61, Try.ntmps61
    go_wp2_with (go_at_call 81; refine Calls.mono (HM.out _) ?_; rintro e u1 ⟨rfl, hu1⟩; rw [hu1]; clear hu1)
    go_ret
    exact ⟨ret_bool E.out.symm, Below.refl _ _⟩
  rw [memC_ok hm] at HM
  by_cases hn : 1000 < zs.length
  · have hn2 : decide (1000 < (zs.length : Int)) = true := decide_eq_true (by omega)
    have E : Hid (bsB s zs = false) := (show bsB s zs = false by unfold bsB; rw [hm, decide_eq_false (show ¬ zs.length ≤ 1000 by omega)]; rfl)
    clear hm hn
    go_enter Try.func61, Try.ntmps61
    go_wp2_with (go_at_call 81; refine Calls.mono (HM.out _) ?_; rintro e u1 ⟨rfl, hu1⟩; rw [hu1]; clear hu1)
    go_ret
    exact ⟨ret_bool E.out.symm, Below.refl _ _⟩
  have hn2 : decide (1000 < (zs.length : Int)) = false := decide_eq_false (by omega)
  have HN : Hid (zs.length ≤ 1000) := (show zs.length ≤ 1000 by omega)
  have HMM : Hid (memOk s = true) := hm
  clear hm hn
  go_enter Try.func61, Try.ntmps61
  go_wp2_with (go_at_call 81; refine Calls.mono (HM.out _) ?_; rintro e u1 ⟨rfl, hu1⟩; rw [hu1]; clear hu1)
  go_loopw [5] (fun i w5 => ∃ k : Nat, k ≤ zs.length ∧ i = .int .i64 k ∧ Below w.heap.size w w5 ∧ Hid (BuTo s.size zs k)) (fun i _ => zs.length - (intOf i).toNat)
  case atStart => exact ⟨0, Nat.zero_le _, rfl, Below.refl _ _, BuTo.zero _ _⟩
  case round =>
    obtain ⟨k, hk, rfl, hb, hx⟩ := hrel
    have HB : Hid _ := hb
    clear HM
    by_cases hlt : k < zs.length
    · obtain ⟨g, o, cap2, hv, _, hg, hc⟩ := HR.out.resolve_left (fun h => by rw [h.1] at hlt; simp at hlt)
      injection hv with hv1 hv2 hv3
      subst hv1 hv3
      obtain ⟨d0, d1, d2⟩ := hc.below hb hg k hlt
      have HI : Hid _ := fun u => l10In_any s zs[k].pos zs[k].len u hs
      have HXN : Hid (inW s.size zs[k].pos zs[k].len = true → BuTo s.size zs (k + 1)) := fun h => hx.out.next hlt h
      have HXF : Hid (inW s.size zs[k].pos zs[k].len = false → bsB s zs = false) := fun h => bsB_no hlt h
      clear hc hx hb
      generalize zs[k] = z at *
      have hk0 : (0 : Int) ≤ (k : Int) := by omega
      have hk1 : (k : Int) < (zs.length : Int) := by omega
      have hgw : g < wr.heap.size := Nat.lt_of_lt_of_le hg HB.out.size
      cases hi : inW s.size z.pos z.len
      · rw [hi] at HI
        have E : Hid (bsB s zs = false) := HXF.out hi
        clear hi HXF HXN
        go_wp2_with fail
        go_quiet ((go_at_call 91; exact Calls.quiet_of_same (HI.out _)))
        go_wp2_with fail
        go_ret
        exact ⟨ret_bool E.out.symm, bdn HB.out _⟩
      · rw [hi] at HI
        have HX : Hid (BuTo s.size zs (k + 1)) := HXN.out hi
        clear hi HXF HXN
        go_wp2_with fail
        go_quiet ((go_at_call 91; exact Calls.quiet_of_same (HI.out _)))
        go_wp2_with fail
        go_roundw
        case rel => exact ⟨k + 1, hlt, by go_num, bdn HB.out _, HX.out⟩
        case measure => simp [intOf]; omega
    · obtain rfl : k = zs.length := by omega
      have E : Hid (bsB s zs = true) := bsB_yes HMM.out HN.out hx.out
      go_wp2_with fail
      go_ret
      exact ⟨ret_bool E.out.symm, HB.out⟩
set_option maxRecDepth 100000 in
set_option maxHeartbeats 4000000 in
theorem holdsBufs_any {w : World} {v : Value} {zs : List BU} (s : ByteArray) (h : BUrow w v zs) (hl : zs.length ≤ 1048576) (hs : s.size ≤ 1048576) (hz : ∀ z ∈ zs, i64B z.len) :
    Calls Try.prog 60 #[.string s, v] w fun e w' => e = .returned (.bool (bsB s zs)) ∧ Below w.heap.size w w' := by
  have HM : Hid _ := fun u => implMemFault_any s u (by omega)
  obtain ⟨a1, c1, rfl⟩ := h.sl
  have HR : Hid (BUrow w (.slice a1 zs.length c1) zs) := h
  clear h
  cases hm : memOk s
  · rw [memC_no hm] at HM
    have E : Hid (bsB s zs = false) := (show bsB s zs = false by unfold bsB; rw [hm]; rfl)
    clear hm hz
    go_enter Try.func60, Try.ntmps60
    go_wp2_with (go_at_call 83; refine Calls.mono (HM.out _) ?_; rintro e u1 ⟨rfl, hu1⟩; rw [hu1]; clear hu1)
    go_ret
    exact ⟨ret_bool E.out.symm, Below.refl _ _⟩
  rw [memC_ok hm] at HM
  by_cases hn : 1000 < zs.length
  · have hn2 : decide (1000 < (zs.length : Int)) = true := decide_eq_true (by omega)
    have E : Hid (bsB s zs = false) := (show bsB s zs = false by unfold bsB; rw [hm, decide_eq_false (show ¬ zs.length ≤ 1000 by omega)]; rfl)
    clear hm hn hz
    go_enter Try.func60, Try.ntmps60
    go_wp2_with (go_at_call 83; refine Calls.mono (HM.out _) ?_; rintro e u1 ⟨rfl, hu1⟩; rw [hu1]; clear hu1)
    go_ret
    exact ⟨ret_bool E.out.symm, Below.refl _ _⟩
  have hn2 : decide (1000 < (zs.length : Int)) = false := decide_eq_false (by omega)
  have HN : Hid (zs.length ≤ 1000) := (show zs.length ≤ 1000 by omega)
  have HMM : Hid (memOk s = true) := hm
  have HZ : Hid (∀ z ∈ zs, i64B z.len) := hz
  clear hm hn hz
  go_enter Try.func60, Try.ntmps60
  go_wp2_with (go_at_call 83; refine Calls.mono (HM.out _) ?_; rintro e u1 ⟨rfl, hu1⟩; rw [hu1]; clear hu1)
  go_loopw [17] (fun i w5 => ∃ k : Nat, k ≤ zs.length ∧ i = .int .i64 k ∧ Below w.heap.size w w5 ∧ Hid (BuTo s.size zs k)) (fun i _ => zs.length - (intOf i).toNat)
  case atStart => exact ⟨0, Nat.zero_le _, rfl, Below.refl _ _, BuTo.zero _ _⟩
  case round =>
    obtain ⟨k, hk, rfl, hb, hx⟩ := hrel
    have HB : Hid _ := hb
    clear HM
    by_cases hlt : k < zs.length
    · obtain ⟨g, o, cap2, hv, _, hg, hc⟩ := HR.out.resolve_left (fun h => by rw [h.1] at hlt; simp at hlt)
      injection hv with hv1 hv2 hv3
      subst hv1 hv3
      obtain ⟨d0, d1, d2⟩ := hc.below hb hg k hlt
      have HI : Hid _ := fun u => isWithin_any s.size zs[k].pos zs[k].len u hs (HZ.out _ (List.getElem_mem hlt))
      have HXN : Hid (inW s.size zs[k].pos zs[k].len = true → BuTo s.size zs (k + 1)) := fun h => hx.out.next hlt h
      have HXF : Hid (inW s.size zs[k].pos zs[k].len = false → bsB s zs = false) := fun h => bsB_no hlt h
      clear hc hx hb
      generalize zs[k] = z at *
      obtain ⟨zp, zl, zw⟩ := z
      simp only at d0 d1 d2 HI HXN HXF
      have hk0 : (0 : Int) ≤ (k : Int) := by omega
      have hk1 : (k : Int) < (zs.length : Int) := by omega
      have hgw : g < wr.heap.size := Nat.lt_of_lt_of_le hg HB.out.size
      have HB2 : Hid (Below w.heap.size w (wr.alloc (.cells #[.int .i64 zp, .int .i64 zl, .bool zw] 53))) := HB.out.alloc HB.out.size _
      cases hi : inW s.size zp zl
      · rw [hi] at HI
        have E : Hid (bsB s zs = false) := HXF.out hi
        clear hi HXF HXN
        go_wp2_with (go_at_call 90; refine Calls.mono (HI.out _) ?_; rintro e u1 ⟨rfl, hu1⟩; rw [hu1]; clear hu1)
        go_ret
        exact ⟨ret_bool E.out.symm, HB2.out⟩
      · rw [hi] at HI
        have HX : Hid (BuTo s.size zs (k + 1)) := HXN.out hi
        clear hi HXF HXN
        go_wp2_with (go_at_call 90; refine Calls.mono (HI.out _) ?_; rintro e u1 ⟨rfl, hu1⟩; rw [hu1]; clear hu1)
        go_roundw
        case rel => exact ⟨k + 1, hlt, by go_num, HB2.out, HX.out⟩
        case measure => simp [intOf]; omega
    · obtain rfl : k = zs.length := by omega
      have E : Hid (bsB s zs = true) := bsB_yes HMM.out HN.out hx.out
      go_wp2_with fail
      go_ret
      exact ⟨ret_bool E.out.symm, HB.out⟩
end Go.Proofs.Ytdlodflinibaoaa
