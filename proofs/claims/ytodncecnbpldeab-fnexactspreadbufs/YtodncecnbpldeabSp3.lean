import Derived.Test.YtodncecnbpldeabSp2
namespace Go.Proofs.Ytodncecnbpldeab
open Go.ChangeShapes Go.WideShapes Go.ChangeAt Go.RowKit

theorem rb_conv (u : World) (S : ByteArray) : RB (Lib.bytesWorld u 5 S) u.heap.size S := by
  refine ⟨fun j v hv => ?_, fun j hj => bw_frozen u S j hj, by rw [Lib.bytesWorld_size]; omega⟩
  have hj : j < S.size := by
    have := (List.getElem?_eq_some_iff.1 hv).1
    rw [c8len] at this
    exact this
  rw [bw_cell u S j hj]
  have hj' : j < S.data.toList.length := by simpa using hj
  simp [cells8, List.getElem?_eq_getElem hj'] at hv
  rw [← bt_list S j hj, ← hv]
  simp [List.getD, List.getElem?_eq_getElem hj']
theorem rb_back {w : World} {g : Nat} {m : ByteArray} (h : RB w g m) (cap : Nat) : Sem.run Try.prog (convert 80 9 (.slice (some ⟨g, 0, none⟩) m.size cap)) w = .ok (.string m) w := by
  have hl : m.data.toList.length = m.size := bsize m
  have hr := run_convert_bytes_back (P := Try.prog) w 80 9 5 ⟨g, 0, none⟩ cap m.data.toList Try.underlying80 Try.underlying5 Try.underlying9 (fun j hj => by
    have hadd : (⟨g, 0, none⟩ : Addr).add j = ⟨g, j, none⟩ := by unfold Addr.add; split <;> simp_all
    rw [hadd]
    exact h.cel j _ (by simp [cells8, List.getElem?_eq_getElem hj]))
  rw [hl] at hr
  rw [hr]
set_option maxRecDepth 100000 in
set_option maxHeartbeats 4000000 in
theorem implSpread_any {w : World} {v : Value} {zs : List BU} (s d : ByteArray) (h : BUrow w v zs) (hl : zs.length ≤ 1048576) (hs : s.size ≤ 1048576) (hd : d.size ≤ 1048576) (hzb : ∀ z ∈ zs, i64B z.len) :
    Calls Try.prog 19 #[.string s, v, .string d] w fun e w' => e = .returned (.string (spV s zs d)) ∧ Below w.heap.size w w' := by
  have HK : Hid _ := fun u (hu : BUrow u v zs) => holdsBufs_any s hu hl hs hzb
  have HT : Hid _ := fun u => tooLong_any d u
  clear hzb
  obtain ⟨a1, c1, rfl⟩ := h.sl
  have HR : Hid (BUrow w (.slice a1 zs.length c1) zs) := h
  clear h
  by_cases h1 : 65536 < d.size
  · have hdd : decide (65536 < (d.size : Int)) = true := decide_eq_true (by omega)
    rw [hdd] at HT
    have E : Hid (spV s zs d = ⟨#[]⟩) := (show spV s zs d = ⟨#[]⟩ by unfold spV; rw [if_pos h1])
    clear h1 hdd
    go_enter Try.func19, Try.ntmps19
    go_wp2_with (go_at_call 50; refine Calls.mono (HT.out _) ?_; rintro e u1 ⟨rfl, hu1⟩; rw [hu1]; clear hu1)
    go_ret
    exact ⟨sr_eq E.out.symm, Below.refl _ _⟩
  have hdd : decide (65536 < (d.size : Int)) = false := decide_eq_false (by omega)
  rw [hdd] at HT
  clear hdd
  cases hb : bsB s zs
  · rw [hb] at HK
    have E : Hid (spV s zs d = ⟨#[]⟩) := (show spV s zs d = ⟨#[]⟩ by unfold spV; rw [if_neg h1, hb]; rfl)
    clear h1 hb
    go_enter Try.func19, Try.ntmps19
    go_wp2_with (first | (go_at_call 50; refine Calls.mono (HT.out _) ?_; rintro e u1 ⟨rfl, hu1⟩; rw [hu1]; clear hu1) | (go_at_call 47; refine Calls.mono (HK.out _ HR.out) ?_; rintro e u1 ⟨rfl, hu1⟩; have HB1 : Hid _ := hu1; clear hu1))
    go_ret
    exact ⟨sr_eq E.out.symm, HB1.out⟩
  rw [hb] at HK
  obtain ⟨hm, hn, hz⟩ := bsB_b hb
  obtain ⟨m1, m2, m3⟩ := memOk_b hm
  have E : Hid (spV s zs d = (spK s d zs zs.length).1) := (show spV s zs d = _ by unfold spV; rw [if_neg h1, hb, if_pos rfl])
  have HSZ : Hid _ := spK_size s d zs s.size rfl hz
  have HZ : Hid (∀ j (hj : j < zs.length), inW s.size zs[j].pos zs[j].len = true) := hz
  have HM2 : Hid (s.size ≤ 65536) := m2
  have HD : Hid (d.size ≤ 65536) := (show d.size ≤ 65536 by omega)
  clear h1 hb hm hz m1 m2 m3 hs hd
  have HCV : Hid _ := fun u => bw_conv u s
  go_enter Try.func19, Try.ntmps19
  go_wp2_with (first | (go_at_call 50; refine Calls.mono (HT.out _) ?_; rintro e u1 ⟨rfl, hu1⟩; rw [hu1]; clear hu1) | (go_at_call 47; refine Calls.mono (HK.out _ HR.out) ?_; rintro e u1 ⟨rfl, hu1⟩; have HB1 : Hid _ := hu1; clear hu1; have hcv := HCV.out u1))
  have hcap : s.size ≤ grownCap u1 s.size 0 5 := grownCap_ge _ _ _ _
  have HRB : Hid _ := rb_conv u1 s
  have HB2 : Hid (Below w.heap.size w (Lib.bytesWorld u1 5 s)) := HB1.out.trans ((bw_below u1 s).mono HB1.out.size)
  have hG : w.heap.size ≤ u1.heap.size := HB1.out.size
  clear hcv HCV HB1
  generalize Lib.bytesWorld u1 5 s = u2 at *
  generalize grownCap u1 s.size 0 5 = cap at *
  generalize u1.heap.size = G at *
  clear HK HT
  go_loopw [2, 23] (fun y i wr => ∃ k : Nat, k ≤ zs.length ∧ y = .string (spK s d zs k).2 ∧ i = .int .i64 k ∧ RB wr G (spK s d zs k).1 ∧ Below w.heap.size w wr) (fun _ i _ => zs.length - (intOf i).toNat)
  case atStart => exact ⟨0, Nat.zero_le _, rfl, rfl, HRB.out, HB2.out⟩
  case round =>
    obtain ⟨k, hk, rfl, rfl, hrb, hb⟩ := hrel
    have HB : Hid _ := hb
    have HRK : Hid _ := hrb
    clear HRB HB2 hrb
    by_cases hlt : k < zs.length
    · obtain ⟨g, o, cap2, hv, _, hg, hc⟩ := HR.out.resolve_left (fun h => by rw [h.1] at hlt; simp at hlt)
      injection hv with hv1 hv2 hv3
      subst hv1 hv3
      obtain ⟨d0, d1, d2⟩ := hc.below hb hg k hlt
      obtain ⟨q1, q2⟩ := HSZ.out k hk
      have hw := inW_iff.1 (HZ.out k hlt)
      have HN : Hid _ := spK_next s d zs k hlt
      have hm2 := HM2.out
      have hd2 := HD.out
      clear hc hb
      generalize zs[k] = z at *
      generalize spK s d zs k = M at *
      obtain ⟨zp, zl, zw⟩ := z
      obtain ⟨m, y⟩ := M
      simp only at d0 d1 d2 q1 q2 hw HRK
      obtain ⟨hw1, hw2, hw3⟩ := hw
      obtain ⟨P, rfl⟩ := Int.eq_ofNat_of_zero_le hw1
      obtain ⟨L, rfl⟩ := Int.eq_ofNat_of_zero_le hw2
      have hk0 : (0 : Int) ≤ (k : Int) := by omega
      have hk1 : (k : Int) < (zs.length : Int) := by omega
      have hgw : g < wr.heap.size := Nat.lt_of_lt_of_le hg HB.out.size
      cases zw
      · have hN2 : Hid (spK s d zs (k + 1) = (m, y)) := HN.out
        have HB3 : Hid (Below w.heap.size w (wr.alloc (.cells #[.int .i64 P, .int .i64 L, .bool false] 59))) := HB.out.alloc HB.out.size _
        have HR3 : Hid _ := HRK.out.below (bx1 wr (.cells #[.int .i64 P, .int .i64 L, .bool false] 59))
        clear HN q1 q2 hw1 hw2 hw3 hm2 hd2
        go_wp2_with fail
        go_roundw
        case rel => exact ⟨k + 1, hlt, by rw [hN2.out], by go_num, by rw [hN2.out]; exact HR3.out, HB3.out⟩
        case measure => simp [intOf]; omega
      · have hmn : Nat.min y.size L ≤ y.size := Nat.min_le_left _ _
        have hmn2 : Nat.min y.size L ≤ L := Nat.min_le_right _ _
        have hN2 : Hid (spK s d zs (k + 1) = (put m P (y.extract 0 (Nat.min y.size L)), y.extract (Nat.min y.size L) y.size)) := (HN.out.trans (by unfold spS mn; simp))
        have HB3 : Hid (Below w.heap.size w (wr.alloc (.cells #[.int .i64 P, .int .i64 L, .bool true] 59))) := HB.out.alloc HB.out.size _
        have HR3 : Hid _ := HRK.out.below (bx1 wr (.cells #[.int .i64 P, .int .i64 L, .bool true] 59))
        have s1 := fun w => slByt w G s.size cap P L (by omega)
        have cp := copy_rb (wr.alloc (.cells #[.int .i64 P, .int .i64 L, .bool true] 59)) 3 G cap P L (Nat.min y.size L) y m HR3.out (by omega) (by omega) rfl
        have HR4 : Hid _ := HR3.out.put (x := y.extract 0 (Nat.min y.size L)) P (by rw [ex_size _ _ _ hmn]; omega)
        have HB4 : Hid _ := setCells_below G (cells8 (y.extract 0 (Nat.min y.size L)).data.toList) P _ HB3.out hG
        have s4 := fun w => slFrom y (Nat.min y.size L) ((Nat.min y.size L : Nat) : Int) rfl hmn w
        have hPb : (P : Int) ≤ 65536 := by omega
        have hLb : (L : Int) ≤ 65536 := by omega
        generalize (if cap = P then 0 else P) = oo at *
        generalize Nat.min y.size L = n at *
        generalize cells8 (y.extract 0 n).data.toList = vs at *
        clear HN q1 q2 hw1 hw2 hw3 hm2 hd2 hmn hmn2 HB3 HR3
        go_wp2_with fail
        refine ⟨⟨k + 1, hlt, by rw [hN2.out], by go_num, by rw [hN2.out]; exact HR4.out, HB4.out⟩, ?_⟩
        simp [intOf]
        omega
    · obtain rfl : k = zs.length := by omega
      obtain ⟨q1, q2⟩ := HSZ.out zs.length hk
      have bk := rb_back HRK.out cap
      rw [q1] at bk
      clear q1 q2
      go_wp2_with fail
      go_ret
      exact ⟨sr_eq E.out.symm, HB.out⟩
end Go.Proofs.Ytodncecnbpldeab
