import Derived.Test.YtdlodflinibaoaaSp1
namespace Go.Proofs.Ytdlodflinibaoaa
open Go.ChangeShapes Go.WideShapes Go.ChangeAt Go.RowKit

/-- What SpreadBufs answers. -/
def spV (s : ByteArray) (zs : List BU) (d : ByteArray) : ByteArray := if 65536 < d.size then ⟨#[]⟩ else if bsB s zs = true then (spK s d zs zs.length).1 else ⟨#[]⟩
theorem sr_eq {a b : ByteArray} (h : a = b) : Ending.returned (.string a) = .returned (.string b) := by rw [h]
set_option maxRecDepth 100000 in
set_option maxHeartbeats 4000000 in
theorem specSpread_any {w : World} {v : Value} {zs : List BU} (s d : ByteArray) (h : BUrow w v zs) (hl : zs.length ≤ 1048576) (hs : s.size ≤ 1048576) (hd : d.size ≤ 1048576) :
    Calls Try.prog 26 #[.string s, v, .string d] w fun e w' => e = .returned (.string (spV s zs d)) ∧ Below w.heap.size w w' := by
  have HK : Hid _ := fun u (hu : BUrow u v zs) => l10Bufs_any s hu hl hs
  obtain ⟨a1, c1, rfl⟩ := h.sl
  have HR : Hid (BUrow w (.slice a1 zs.length c1) zs) := h
  clear h
  by_cases h1 : 65536 < d.size
  · have hdd : decide (65536 < (d.size : Int)) = true := decide_eq_true (by omega)
    have E : Hid (spV s zs d = ⟨#[]⟩) := (show spV s zs d = ⟨#[]⟩ by unfold spV; rw [if_pos h1])
    clear h1
    go_enter Try.func26, Try.ntmps26
    go_wp2_with fail
    go_ret
    exact ⟨sr_eq E.out.symm, Below.refl _ _⟩
  have hdd : decide (65536 < (d.size : Int)) = false := decide_eq_false (by omega)
  cases hb : bsB s zs
  · rw [hb] at HK
    have E : Hid (spV s zs d = ⟨#[]⟩) := (show spV s zs d = ⟨#[]⟩ by unfold spV; rw [if_neg h1, hb]; rfl)
    clear h1 hb
    go_enter Try.func26, Try.ntmps26
    go_wp2_with (go_at_call 61; refine Calls.mono (HK.out _ HR.out) ?_; rintro e u1 ⟨rfl, hu1⟩; have HB1 : Hid _ := hu1; clear hu1)
    go_ret
    exact ⟨sr_eq E.out.symm, HB1.out⟩
  rw [hb] at HK
  obtain ⟨hm, hn, hz⟩ := bsB_b hb
  obtain ⟨m1, m2, m3⟩ := memOk_b hm
  have E : Hid (spV s zs d = (spK s d zs zs.length).1) := (show spV s zs d = _ by unfold spV; rw [if_neg h1, hb, if_pos rfl])
  have HSZ : Hid _ := spK_size s d zs s.size rfl hz
  have HZ : Hid (∀ j (hj : j < zs.length), inW s.size zs[j].pos zs[j].len = true) := hz
  have HM2 : Hid (s.size ≤ 65536) := m2
  have HD : Hid (d.size ≤ 65536) := (show d.size ≤ 65536 by omega)
  clear h1 hb hm hz m1 m2 m3 hs hd
  go_enter Try.func26, Try.ntmps26
  go_wp2_with (go_at_call 61; refine Calls.mono (HK.out _ HR.out) ?_; rintro e u1 ⟨rfl, hu1⟩; have HB1 : Hid _ := hu1; clear hu1)
  go_loopw [0, 2, 7] (fun x y i w5 => ∃ k : Nat, k ≤ zs.length ∧ x = .string (spK s d zs k).1 ∧ y = .string (spK s d zs k).2 ∧ i = .int .i64 k ∧ Below w.heap.size w w5) (fun _ _ i _ => zs.length - (intOf i).toNat)
  case atStart => exact ⟨0, Nat.zero_le _, rfl, rfl, rfl, HB1.out⟩
  case round =>
    obtain ⟨k, hk, rfl, rfl, rfl, hb⟩ := hrel
    have HB : Hid _ := hb
    clear HK
    by_cases hlt : k < zs.length
    · obtain ⟨g, o, cap2, hv, _, hg, hc⟩ := HR.out.resolve_left (fun h => by rw [h.1] at hlt; simp at hlt)
      injection hv with hv1 hv2 hv3
      subst hv1 hv3
      obtain ⟨d0, d1, d2⟩ := hc.below hb hg k hlt
      obtain ⟨q1, q2⟩ := HSZ.out k hk
      have hw := inW_iff.1 (HZ.out k hlt)
      have HN : Hid _ := spK_next s d zs k hlt
      have hm2 := HM2.out
      have hd2 := HD.out
      clear hc hb
      generalize zs[k] = z at *
      generalize spK s d zs k = M at *
      obtain ⟨zp, zl, zw⟩ := z
      obtain ⟨m, y⟩ := M
      simp only at d0 d1 d2 q1 q2 hw
      obtain ⟨hw1, hw2, hw3⟩ := hw
      obtain ⟨P, rfl⟩ := Int.eq_ofNat_of_zero_le hw1
      obtain ⟨L, rfl⟩ := Int.eq_ofNat_of_zero_le hw2
      have hk0 : (0 : Int) ≤ (k : Int) := by omega
      have hk1 : (k : Int) < (zs.length : Int) := by omega
      have hgw : g < wr.heap.size := Nat.lt_of_lt_of_le hg HB.out.size
      cases zw
      · have hN2 : Hid (spK s d zs (k + 1) = (m, y)) := HN.out
        clear HN q1 q2 hw1 hw2 hw3 hm2 hd2
        go_wp2_with fail
        go_roundw
        case rel => exact ⟨k + 1, hlt, by rw [hN2.out], by rw [hN2.out], by go_num, HB.out⟩
        case measure => simp [intOf]; omega
      · have hmn : Nat.min y.size L ≤ y.size := Nat.min_le_left _ _
        have hmn2 : Nat.min y.size L ≤ L := Nat.min_le_right _ _
        have hN2 : Hid (spK s d zs (k + 1) = (put m P (y.extract 0 (Nat.min y.size L)), y.extract (Nat.min y.size L) y.size)) := (HN.out.trans (by unfold spS mn; simp))
        have HMI : Hid _ := fun u => l01Min_any L y.size u
        have sz1 := ex_size m 0 P (by omega)
        have sz2 := ex_size y 0 (Nat.min y.size L) hmn
        unfold put at hN2
        rw [sz2] at hN2
        simp only [Nat.sub_zero] at hN2 sz1 sz2
        generalize Nat.min y.size L = n at *
        have s1 := fun w => slTo m P (by omega) w
        have s2 := fun w => slTo y n hmn w
        have s3 := fun w => slFrom m (P + n) ((P : Int) + (n : Int)) (by omega) (by omega) w
        have s4 := fun w => slFrom y n (n : Int) rfl hmn w
        have sz3 := ex_size m (P + n) m.size (Nat.le_refl _)
        have a1 := fun w => run_string_add_sum (P := Try.prog) w (m.extract 0 P) (y.extract 0 n) (by omega)
        have a2 := fun w => run_string_add_sum (P := Try.prog) w (m.extract 0 P ++ y.extract 0 n) (m.extract (P + n) m.size) (by rw [ByteArray.size_append']; omega)
        have hPb : (P : Int) ≤ 65536 := by omega
        have hnb : (n : Int) ≤ 65536 := by omega
        clear HN q1 q2 hw1 hw2 hw3 hm2 hd2 hmn hmn2 sz1 sz2 sz3
        go_wp2_with (go_at_call 62; refine Calls.mono (HMI.out _) ?_; rintro e u1 ⟨rfl, hu1⟩; rw [hu1]; clear hu1)
        go_quiet (fail)
        go_wp2_with fail
        go_roundw
        case rel => exact ⟨k + 1, hlt, by rw [hN2.out], by rw [hN2.out], by go_num, bdn HB.out _⟩
        case measure => simp [intOf]; omega
    · obtain rfl : k = zs.length := by omega
      go_wp2_with fail
      go_ret
      exact ⟨sr_eq E.out.symm, HB.out⟩
end Go.Proofs.Ytdlodflinibaoaa
