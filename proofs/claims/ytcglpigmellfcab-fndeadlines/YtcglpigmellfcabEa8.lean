import Derived.Test.YtcglpigmellfcabEa7
import Derived.BigQuiet
import Derived.BigRegion
namespace Go.Proofs.Ytcglpigmellfcab
open Go.ChangeShapes Go.WideShapes Go.ChangeAt Go.RowKit

theorem own_sl8 {w : World} {B n : Nat} {v : Value} {xs : List Value} (h : w.ownsRow B 2 1 v n xs) : ∃ ao cap, v = .slice ao n cap := by
  rcases h.2 with ⟨rfl, e⟩ | ⟨g, cap, cur, rfl, _⟩
  · exact ⟨none, 0, by rw [e]⟩
  · exact ⟨_, cap, rfl⟩
theorem mapz (zs : List RK) (f : TK → Int) (h : ∀ z, f (tkOf z) = 0) : (zs.map tkOf).map f = List.replicate zs.length 0 := by
  rw [List.map_map, List.eq_replicate_iff]
  refine ⟨by simp, fun b hb => ?_⟩
  obtain ⟨z, _, rfl⟩ := List.mem_map.1 hb
  exact h z
set_option maxRecDepth 100000 in
set_option maxHeartbeats 16000000 in
theorem specRD_any {w : World} {v : Value} {zs : List RK} (h : RKrow w v zs) (hl : zs.length ≤ 1048576) (q : Int) : Calls Try.prog 21 #[v, .int .i64 q] w fun e w' => ∃ r, e = .returned r ∧ RtAns w' w.heap.size zs q r ∧ Below w.heap.size w w' := by
  have HR : Hid (RKrow w v zs) := h
  have HT : Hid (∀ u, Aft w u → Calls Try.prog 50 #[v] u fun e w' => e = .returned (.bool (tasksB zs)) ∧ Below u.heap.size u w') := fun u hu => l18Tasks_any (h.below hu.out)
  obtain ⟨ao, cap, rfl⟩ := h.sl
  clear h
  have HL0 : Hid (LG w (w.alloc (.cells #[.int .i64 0, .slice none 0 0, .slice none 0 0] 45)) w.heap.size #[.int .i64 0, .slice none 0 0, .slice none 0 0] 45) := LG.new w _ _
  cases q0 : decide (1000 < (zs.length : Int))
  rotate_left
  · have HC : Hid (rtC zs q = 2) := (show rtC zs q = 2 by unfold rtC; rw [if_pos (of_decide_eq_true q0)])
    go_enter Try.func21, Try.ntmps21
    go_wp2
    refine bodyPost_ret (v := .agg #[.int .i64 2, .slice none 0 0, .slice none 0 0]) (by simp [results, Try.results21, go_sem]) rfl ?_
    exact ⟨_, rfl, RtAns.bad HC.out (by omega), bx1 _ _⟩
  have hln : ¬ 1000 < (zs.length : Int) := of_decide_eq_false q0
  cases ht : tasksB zs
  · have HC : Hid (rtC zs q = 1) := (show rtC zs q = 1 by unfold rtC; rw [if_neg hln, if_neg (by rw [ht]; simp)])
    rw [ht] at HT
    go_enter Try.func21, Try.ntmps21
    go_wp2_with fail
    generalize (w.alloc (.cells #[.int .i64 0, .slice none 0 0, .slice none 0 0] 45)) = u0 at *
    refine Calls.mono (HT.out _ HL0.out.aft) ?_
    rintro e u1 ⟨rfl, hb1⟩
    have HL1 : Hid (LG w u1 w.heap.size #[.int .i64 0, .slice none 0 0, .slice none 0 0] 45) := HL0.out.step hb1
    clear hb1
    have f0 := HL1.out.frz 0
    have f1 := HL1.out.frz 1
    have f2 := HL1.out.frz 2
    have x0 := HL1.out.cel 0 _ rfl
    have x1 := HL1.out.cel 1 _ rfl
    have x2 := HL1.out.cel 2 _ rfl
    have xl := HL1.out.lt
    go_wp2
    have HF : Hid (LG w (((u1.setCell ⟨w.heap.size, 0, none⟩ (.int .i64 1)).setCell ⟨w.heap.size, 1, none⟩ (.slice none 0 0)).setCell ⟨w.heap.size, 2, none⟩ (.slice none 0 0)) w.heap.size #[.int .i64 1, .slice none 0 0, .slice none 0 0] 45) := fin3 HL1.out _ _ _
    generalize (((u1.setCell ⟨w.heap.size, 0, none⟩ (.int .i64 1)).setCell ⟨w.heap.size, 1, none⟩ (.slice none 0 0)).setCell ⟨w.heap.size, 2, none⟩ (.slice none 0 0)) = W9 at *
    have y0 := HF.out.cel 0 _ rfl
    have y1 := HF.out.cel 1 _ rfl
    have y2 := HF.out.cel 2 _ rfl
    refine bodyPost_ret (v := .agg #[.int .i64 1, .slice none 0 0, .slice none 0 0]) (by simp [results, Try.results21, go_sem, y0, y1, y2]) rfl ?_
    exact ⟨_, rfl, RtAns.bad HC.out (by omega), HF.out.bel⟩
  cases q1 : decide (q < 0)
  rotate_left
  · have HC : Hid (rtC zs q = 1) := (show rtC zs q = 1 by unfold rtC; rw [if_neg hln, if_neg (by have := of_decide_eq_true q1; omega)])
    rw [ht] at HT
    go_enter Try.func21, Try.ntmps21
    go_wp2_with fail
    generalize (w.alloc (.cells #[.int .i64 0, .slice none 0 0, .slice none 0 0] 45)) = u0 at *
    refine Calls.mono (HT.out _ HL0.out.aft) ?_
    rintro e u1 ⟨rfl, hb1⟩
    have HL1 : Hid (LG w u1 w.heap.size #[.int .i64 0, .slice none 0 0, .slice none 0 0] 45) := HL0.out.step hb1
    clear hb1
    have f0 := HL1.out.frz 0
    have f1 := HL1.out.frz 1
    have f2 := HL1.out.frz 2
    have x0 := HL1.out.cel 0 _ rfl
    have x1 := HL1.out.cel 1 _ rfl
    have x2 := HL1.out.cel 2 _ rfl
    have xl := HL1.out.lt
    go_wp2
    have HF : Hid (LG w (((u1.setCell ⟨w.heap.size, 0, none⟩ (.int .i64 1)).setCell ⟨w.heap.size, 1, none⟩ (.slice none 0 0)).setCell ⟨w.heap.size, 2, none⟩ (.slice none 0 0)) w.heap.size #[.int .i64 1, .slice none 0 0, .slice none 0 0] 45) := fin3 HL1.out _ _ _
    generalize (((u1.setCell ⟨w.heap.size, 0, none⟩ (.int .i64 1)).setCell ⟨w.heap.size, 1, none⟩ (.slice none 0 0)).setCell ⟨w.heap.size, 2, none⟩ (.slice none 0 0)) = W9 at *
    have y0 := HF.out.cel 0 _ rfl
    have y1 := HF.out.cel 1 _ rfl
    have y2 := HF.out.cel 2 _ rfl
    refine bodyPost_ret (v := .agg #[.int .i64 1, .slice none 0 0, .slice none 0 0]) (by simp [results, Try.results21, go_sem, y0, y1, y2]) rfl ?_
    exact ⟨_, rfl, RtAns.bad HC.out (by omega), HF.out.bel⟩
  cases q2 : decide (1000 < q)
  rotate_left
  · have HC : Hid (rtC zs q = 1) := (show rtC zs q = 1 by unfold rtC; rw [if_neg hln, if_neg (by have := of_decide_eq_true q2; omega)])
    rw [ht] at HT
    go_enter Try.func21, Try.ntmps21
    go_wp2_with fail
    generalize (w.alloc (.cells #[.int .i64 0, .slice none 0 0, .slice none 0 0] 45)) = u0 at *
    refine Calls.mono (HT.out _ HL0.out.aft) ?_
    rintro e u1 ⟨rfl, hb1⟩
    have HL1 : Hid (LG w u1 w.heap.size #[.int .i64 0, .slice none 0 0, .slice none 0 0] 45) := HL0.out.step hb1
    clear hb1
    have f0 := HL1.out.frz 0
    have f1 := HL1.out.frz 1
    have f2 := HL1.out.frz 2
    have x0 := HL1.out.cel 0 _ rfl
    have x1 := HL1.out.cel 1 _ rfl
    have x2 := HL1.out.cel 2 _ rfl
    have xl := HL1.out.lt
    go_wp2
    have HF : Hid (LG w (((u1.setCell ⟨w.heap.size, 0, none⟩ (.int .i64 1)).setCell ⟨w.heap.size, 1, none⟩ (.slice none 0 0)).setCell ⟨w.heap.size, 2, none⟩ (.slice none 0 0)) w.heap.size #[.int .i64 1, .slice none 0 0, .slice none 0 0] 45) := fin3 HL1.out _ _ _
    generalize (((u1.setCell ⟨w.heap.size, 0, none⟩ (.int .i64 1)).setCell ⟨w.heap.size, 1, none⟩ (.slice none 0 0)).setCell ⟨w.heap.size, 2, none⟩ (.slice none 0 0)) = W9 at *
    have y0 := HF.out.cel 0 _ rfl
    have y1 := HF.out.cel 1 _ rfl
    have y2 := HF.out.cel 2 _ rfl
    refine bodyPost_ret (v := .agg #[.int .i64 1, .slice none 0 0, .slice none 0 0]) (by simp [results, Try.results21, go_sem, y0, y1, y2]) rfl ?_
    exact ⟨_, rfl, RtAns.bad HC.out (by omega), HF.out.bel⟩
  have hq0 : 0 ≤ q := by have := of_decide_eq_false q1; omega
  have hq1 : q ≤ 1000 := by have := of_decide_eq_false q2; omega
  obtain ⟨Q, rfl⟩ := Int.eq_ofNat_of_zero_le hq0
  have HC : Hid (rtC zs (Q : Int) = 0) := (show rtC zs (Q : Int) = 0 by unfold rtC; rw [if_neg hln, if_pos ⟨ht, hq0, hq1⟩])
  have HS : Hid (rtS zs (Q : Int) = (runK (zs.map tkOf) Q).2) := (show rtS zs (Q : Int) = _ by unfold rtS; rw [if_pos HC.out]; rfl)
  have HM : Hid (rtM zs (Q : Int) = (runK (zs.map tkOf) Q).1.map (·.missed)) := (show rtM zs (Q : Int) = _ by unfold rtM; rw [if_pos HC.out]; rfl)
  have hl8 : zs.length ≤ 8 := by
    simp only [tasksB, Bool.and_eq_true, decide_eq_true_eq] at ht
    omega
  have HALL : Hid (∀ z ∈ zs, rkB z = true) := (by
    simp only [tasksB, Bool.and_eq_true, List.all_eq_true] at ht
    exact ht.2)
  have HOK : Hid (tksOk 0 (zs.map tkOf)) := tkOf_ok HALL.out
  rw [ht] at HT
  have hmk := fun u => i_mk u zs.length hl
  have HMO : Hid (∀ u : World, (u.alloc (.cells (iR (List.replicate zs.length 0)).toArray 2)).ownsRow u.heap.size 2 1 (.slice (some ⟨u.heap.size, 0, none⟩) zs.length zs.length) zs.length (iR (List.replicate zs.length 0))) := fun u => i_own0 u zs.length hl
  clear ht hl
  go_enter Try.func21, Try.ntmps21
  go_wp2_with fail
  generalize (w.alloc (.cells #[.int .i64 0, .slice none 0 0, .slice none 0 0] 45)) = u0 at *
  refine Calls.mono (HT.out _ HL0.out.aft) ?_
  rintro e u1 ⟨rfl, hb1⟩
  have HL1 : Hid (LG w u1 w.heap.size #[.int .i64 0, .slice none 0 0, .slice none 0 0] 45) := HL0.out.step hb1
  have HR1 : Hid (RKrow u1 (.slice ao zs.length cap) zs) := HR.out.below HL1.out.bel
  clear hb1 HT HL0
  go_upto_region 8 with fail
  have HSP0 : Hid (SP u1 ((((u1.alloc (.cells (iR (List.replicate zs.length 0)).toArray 2)).alloc (.cells (iR (List.replicate zs.length 0)).toArray 2)).alloc (.cells (iR (List.replicate zs.length 0)).toArray 2)).alloc (.cells #[.int .i64 0, .slice none 0 0, .slice (some ⟨u1.heap.size + 1 + 1, 0, none⟩) zs.length zs.length] 45)) u1.heap.size zs.length (zs.map tkOf) (.slice none 0 0) 0 []) := SP.start u1 zs.length (by omega) (zs.map tkOf) (mapz zs (·.left) (fun _ => rfl)) (mapz zs (·.fin) (fun _ => rfl)) (mapz zs (·.missed) (fun _ => rfl))
  generalize ((((u1.alloc (.cells (iR (List.replicate zs.length 0)).toArray 2)).alloc (.cells (iR (List.replicate zs.length 0)).toArray 2)).alloc (.cells (iR (List.replicate zs.length 0)).toArray 2)).alloc (.cells #[.int .i64 0, .slice none 0 0, .slice (some ⟨u1.heap.size + 1 + 1, 0, none⟩) zs.length zs.length] 45)) = u2 at *
  obtain ⟨B, hB⟩ : ∃ B, u1.heap.size = B := ⟨_, rfl⟩
  rw [hB] at HSP0 ⊢
  have HBB : Hid (u1.heap.size = B) := hB
  clear hB hmk HMO
  go_wp2
  go_loopw [8] (fun i wr => ∃ (k : Nat) (sv : Value), k ≤ Q ∧ i = .int .i64 k ∧ SP u1 wr B zs.length (runK (zs.map tkOf) k).1 sv k (runK (zs.map tkOf) k).2) (fun i _ => Q - (intOf i).toNat)
  case atStart => exact ⟨0, .slice none 0 0, Nat.zero_le _, rfl, HSP0.out⟩
  case round =>
    obtain ⟨k, sv, hk, rfl, hsp⟩ := hrel
    have HSP : Hid (SP u1 wr B zs.length (runK (zs.map tkOf) k).1 sv k (runK (zs.map tkOf) k).2) := hsp
    clear hsp
    by_cases hlt : k < Q
    · have hk0 : (0 : Int) ≤ (k : Int) := by omega
      have hk1 : (k : Int) < (Q : Int) := by omega
      obtain ⟨ys, hys⟩ : ∃ ys, (runK (zs.map tkOf) k).1 = ys := ⟨_, rfl⟩
      have hyl : ys.length = zs.length := by rw [← hys]; simpa using (runK_len (zs.map tkOf) k).1
      have HYO : Hid (tksOk (k : Int) ys) := (by have h9 := runK_ok HOK.out k; rw [hys] at h9; exact h9)
      have HYR : Hid (ys.map rkT = zs) := (show ys.map rkT = zs by rw [← hys, rkT_run, rkT_of])
      have HST : Hid ((runK (zs.map tkOf) (k + 1)).1 = (stp (k : Int) ys).1 ∧ (runK (zs.map tkOf) (k + 1)).2 = (runK (zs.map tkOf) k).2 ++ [(stp (k : Int) ys).2]) := (show _ ∧ _ by rw [← hys]; exact ⟨rfl, rfl⟩)
      have HSK : Hid (SP u1 wr B zs.length ys sv k (runK (zs.map tkOf) k).2) := (by have h9 := HSP.out; rw [hys] at h9; exact h9)
      clear hys HSP
      generalize (runK (zs.map tkOf) k).2 = ss at *
      generalize wr = wa at *
      go_wp2
      go_loopw [9, 10] (fun bv i wr2 => ∃ j : Nat, j ≤ zs.length ∧ i = .int .i64 j ∧ bv = .int .i64 (nx (ys.map (bgn (k : Int))) j) ∧ SP u1 wr2 B zs.length (mix (k : Int) ys j) sv k ss) (fun _ i _ => zs.length - (intOf i).toNat)
      case atStart => exact ⟨0, Nat.zero_le _, rfl, rfl, by rw [mix_zero]; exact HSK.out⟩
      case round =>
        obtain ⟨j, hj, rfl, rfl, hspj⟩ := hrel
        have HSJ : Hid (SP u1 wr B zs.length (mix (k : Int) ys j) sv k ss) := hspj
        clear hspj
        by_cases hlj : j < zs.length
        · have hj0 : (0 : Int) ≤ (j : Int) := by omega
          have hj1 : (j : Int) < (zs.length : Int) := by omega
          have hjy : j < ys.length := by omega
          obtain ⟨g, o, cap2, hv, _, hg, hc⟩ := HR1.out.resolve_left (fun h => by rw [h.1] at hlj; simp at hlj)
          injection hv with hv1 hv2 hv3
          subst hv1 hv3
          obtain ⟨d0, d1, d2⟩ := hc.below HSJ.out.bel hg j hlj
          have hgw : g < wr.heap.size := Nat.lt_of_lt_of_le hg HSJ.out.bel.size
          have hzy : zs[j] = rkT (ys.getD j tk0) := (by
            have h9 := HYR.out
            have : (ys.map rkT)[j]'(by simpa using hjy) = zs[j] := by simp only [h9]
            rw [← this]
            simp [List.getD, List.getElem?_eq_getElem hjy])
          have hyo := HYO.out j hjy
          obtain ⟨z, hz⟩ : ∃ z, ys.getD j tk0 = z := ⟨_, rfl⟩
          have HZ : Hid (ys.getD j tk0 = z) := hz
          rw [hz] at hzy hyo
          rw [hzy] at d0 d1 d2
          have HLN : Hid (SP u1 (wr.alloc (.cells #[.int .i64 z.start, .int .i64 z.period, .int .i64 z.budget] 49)) B zs.length (mix (k : Int) ys j) sv k ss) := HSJ.out.below (bx1 _ _)
          have HXN : Hid (LG wr (wr.alloc (.cells #[.int .i64 z.start, .int .i64 z.period, .int .i64 z.budget] 49)) wr.heap.size #[.int .i64 z.start, .int .i64 z.period, .int .i64 z.budget] 49) := LG.new wr _ _
          have HX7 : Hid (B + 4 ≤ wr.heap.size) := HSJ.out.uB
          simp only [rkT] at d0 d1 d2
          clear hc hzy hz
          go_upto_region 16 with fail
          generalize (wr.alloc (.cells #[.int .i64 z.start, .int .i64 z.period, .int .i64 z.budget] 49)) = w5 at *
          have hmg := mix_old (k : Int) ys j hjy
          rw [HZ.out] at hmg
          have HBX : Hid _ := HLN.out.box
          have c5 := HLN.out.l.atL j (by rw [mix_len _ _ _ (by omega)]; omega)
          have m5 := HLN.out.m.atL j (by rw [mix_len _ _ _ (by omega)]; omega)
          have f5 := HLN.out.e.atL j (by rw [mix_len _ _ _ (by omega)]; omega)
          rw [hmg] at c5 m5 f5
          have x0 := HXN.out.cel 0 _ rfl
          have x1 := HXN.out.cel 1 _ rfl
          have x2 := HXN.out.cel 2 _ rfl
          have xl := HXN.out.lt
          clear hmg d0 d1 d2 hgw
          obtain ⟨a1, a2, a3, a4, a5, a6, a7, a8, a9, b1, b2, b3⟩ := hyo
          have hmz : (mix (k : Int) ys j)[j]'(by rw [mix_len _ _ _ (by omega)]; omega) = z := (by
            rw [mix_at _ _ _ hjy, ← HZ.out]
            simp [List.getD, List.getElem?_eq_getElem hjy])
          have hml : j < (mix (k : Int) ys j).length := by rw [mix_len _ _ _ (by omega)]; omega
          have HMZ : Hid ((mix (k : Int) ys j)[j]'hml = z) := hmz
          clear hmz
          have hp0 : z.period ≠ 0 := by omega
          obtain ⟨c5, cf5, cl5⟩ := c5
          obtain ⟨f5, ff5, fl5⟩ := f5
          obtain ⟨m5, mf5, ml5⟩ := m5
          cases hs : decide (z.start ≤ (k : Int))
          · have HBG : Hid (bgn (k : Int) (ys.getD j tk0) = ys.getD j tk0) := (show _ = _ by rw [HZ.out]; unfold bgn beg; rw [hs]; rfl)
            have H6 : Hid (SP u1 w5 B zs.length (mix (k : Int) ys (j + 1)) sv k ss) := (by rw [mix_stay _ _ _ hjy HBG.out]; exact HLN.out)
            clear HLN HBG c5 cf5 cl5 f5 ff5 fl5 m5 mf5 ml5
            go_upto_region 21 with fail
            clear x0 x1 x2 xl
            have c6 := H6.out.l.atL j (by rw [mix_len _ _ _ (by omega)]; omega)
            have f6 := H6.out.e.atL j (by rw [mix_len _ _ _ (by omega)]; omega)
            rw [mix_get _ _ _ _ (by omega) (by omega)] at c6 f6
            have hnx := nx_succ (ys.map (bgn (k : Int))) j
            have hnb := nx_b (ys.map (bgn (k : Int))) j
            obtain ⟨c6, -, l6⟩ := c6
            obtain ⟨f6, -, m6⟩ := f6
            by_cases hb0 : nx (ys.map (bgn (k : Int))) j < 0
            · have hb1 : nx (ys.map (bgn (k : Int))) j = -1 := by omega
              rw [hb1] at hnx ⊢
              clear hb0 hnb hb1
              generalize ((ys.map (bgn (k : Int))).getD j tk0).left = lf at *
              generalize ((ys.map (bgn (k : Int))).getD j tk0).fin = ff at *
              cases hlf : decide (0 < lf)
              · have hl2 : ¬ 0 < lf := of_decide_eq_false hlf
                rw [if_neg (fun h => hl2 h.1)] at hnx
                have HNX : Hid _ := hnx
                clear hnx hl2
                go_quiet (fail)
                go_wp2
                go_roundw
                case rel => exact ⟨j + 1, hlj, by go_num, by rw [HNX.out], H6.out.drew _⟩
                case measure => simp [intOf]; omega
              · have hl2 : 0 < lf := of_decide_eq_true hlf
                rw [if_pos ⟨hl2, .inl (by omega)⟩] at hnx
                have HNX : Hid _ := hnx
                clear hnx hl2
                go_quiet (fail)
                go_wp2
                go_roundw
                case rel => exact ⟨j + 1, hlj, by go_num, by rw [HNX.out], H6.out.drew _⟩
                case measure => simp [intOf]; omega
            · obtain ⟨b, hb⟩ := Int.eq_ofNat_of_zero_le (show 0 ≤ nx (ys.map (bgn (k : Int))) j by omega)
              rw [hb] at hnx hnb ⊢
              rw [Int.toNat_natCast] at hnx
              have g6 := H6.out.e.atL b (by rw [mix_len _ _ _ (by omega)]; omega)
              rw [mix_get _ _ _ _ (by omega) (by omega)] at g6
              obtain ⟨g6, -, -⟩ := g6
              have hbz : (0 : Int) ≤ (b : Int) := by omega
              have hbn : (b : Int) < (zs.length : Int) := by omega
              have hbl : ¬ (b : Int) < 0 := by omega
              clear hb0 hnb hb
              generalize ((ys.map (bgn (k : Int))).getD j tk0).left = lf at *
              generalize ((ys.map (bgn (k : Int))).getD j tk0).fin = ff at *
              generalize ((ys.map (bgn (k : Int))).getD b tk0).fin = fb at *
              cases hlf : decide (0 < lf)
              · have hl2 : ¬ 0 < lf := of_decide_eq_false hlf
                rw [if_neg (fun h => hl2 h.1)] at hnx
                have HNX : Hid _ := hnx
                clear hnx hl2
                go_quiet (fail)
                go_wp2
                go_roundw
                case rel => exact ⟨j + 1, hlj, by go_num, by rw [HNX.out], H6.out.drew _⟩
                case measure => simp [intOf]; omega
              · have hl2 : 0 < lf := of_decide_eq_true hlf
                cases hff : decide (ff < fb)
                · have hf2 : ¬ ff < fb := of_decide_eq_false hff
                  rw [if_neg (fun h => h.2.elim hbl hf2)] at hnx
                  have HNX : Hid _ := hnx
                  clear hnx hl2 hf2
                  go_quiet (fail)
                  go_wp2
                  go_roundw
                  case rel => exact ⟨j + 1, hlj, by go_num, by rw [HNX.out], H6.out.drew _⟩
                  case measure => simp [intOf]; omega
                · have hf2 : ff < fb := of_decide_eq_true hff
                  rw [if_pos ⟨hl2, .inr hf2⟩] at hnx
                  have HNX : Hid _ := hnx
                  clear hnx hl2 hf2
                  go_quiet (fail)
                  go_wp2
                  go_roundw
                  case rel => exact ⟨j + 1, hlj, by go_num, by rw [HNX.out], H6.out.drew _⟩
                  case measure => simp [intOf]; omega
          have hs2 : z.start ≤ (k : Int) := of_decide_eq_true hs
          cases hr : ((((k : Int) - z.start) % z.period) == 0)
          · have HBG : Hid (bgn (k : Int) (ys.getD j tk0) = ys.getD j tk0) := (show _ = _ by rw [HZ.out]; unfold bgn beg; rw [hr, hs]; rfl)
            have H6 : Hid (SP u1 w5 B zs.length (mix (k : Int) ys (j + 1)) sv k ss) := (by rw [mix_stay _ _ _ hjy HBG.out]; exact HLN.out)
            clear HLN HBG c5 cf5 cl5 f5 ff5 fl5 m5 mf5 ml5
            go_upto_region 21 with fail
            clear x0 x1 x2 xl hr hs2
            have c6 := H6.out.l.atL j (by rw [mix_len _ _ _ (by omega)]; omega)
            have f6 := H6.out.e.atL j (by rw [mix_len _ _ _ (by omega)]; omega)
            rw [mix_get _ _ _ _ (by omega) (by omega)] at c6 f6
            have hnx := nx_succ (ys.map (bgn (k : Int))) j
            have hnb := nx_b (ys.map (bgn (k : Int))) j
            obtain ⟨c6, -, l6⟩ := c6
            obtain ⟨f6, -, m6⟩ := f6
            by_cases hb0 : nx (ys.map (bgn (k : Int))) j < 0
            · have hb1 : nx (ys.map (bgn (k : Int))) j = -1 := by omega
              rw [hb1] at hnx ⊢
              clear hb0 hnb hb1
              generalize ((ys.map (bgn (k : Int))).getD j tk0).left = lf at *
              generalize ((ys.map (bgn (k : Int))).getD j tk0).fin = ff at *
              cases hlf : decide (0 < lf)
              · have hl2 : ¬ 0 < lf := of_decide_eq_false hlf
                rw [if_neg (fun h => hl2 h.1)] at hnx
                have HNX : Hid _ := hnx
                clear hnx hl2
                go_quiet (fail)
                go_wp2
                go_roundw
                case rel => exact ⟨j + 1, hlj, by go_num, by rw [HNX.out], H6.out.drew _⟩
                case measure => simp [intOf]; omega
              · have hl2 : 0 < lf := of_decide_eq_true hlf
                rw [if_pos ⟨hl2, .inl (by omega)⟩] at hnx
                have HNX : Hid _ := hnx
                clear hnx hl2
                go_quiet (fail)
                go_wp2
                go_roundw
                case rel => exact ⟨j + 1, hlj, by go_num, by rw [HNX.out], H6.out.drew _⟩
                case measure => simp [intOf]; omega
            · obtain ⟨b, hb⟩ := Int.eq_ofNat_of_zero_le (show 0 ≤ nx (ys.map (bgn (k : Int))) j by omega)
              rw [hb] at hnx hnb ⊢
              rw [Int.toNat_natCast] at hnx
              have g6 := H6.out.e.atL b (by rw [mix_len _ _ _ (by omega)]; omega)
              rw [mix_get _ _ _ _ (by omega) (by omega)] at g6
              obtain ⟨g6, -, -⟩ := g6
              have hbz : (0 : Int) ≤ (b : Int) := by omega
              have hbn : (b : Int) < (zs.length : Int) := by omega
              have hbl : ¬ (b : Int) < 0 := by omega
              clear hb0 hnb hb
              generalize ((ys.map (bgn (k : Int))).getD j tk0).left = lf at *
              generalize ((ys.map (bgn (k : Int))).getD j tk0).fin = ff at *
              generalize ((ys.map (bgn (k : Int))).getD b tk0).fin = fb at *
              cases hlf : decide (0 < lf)
              · have hl2 : ¬ 0 < lf := of_decide_eq_false hlf
                rw [if_neg (fun h => hl2 h.1)] at hnx
                have HNX : Hid _ := hnx
                clear hnx hl2
                go_quiet (fail)
                go_wp2
                go_roundw
                case rel => exact ⟨j + 1, hlj, by go_num, by rw [HNX.out], H6.out.drew _⟩
                case measure => simp [intOf]; omega
              · have hl2 : 0 < lf := of_decide_eq_true hlf
                cases hff : decide (ff < fb)
                · have hf2 : ¬ ff < fb := of_decide_eq_false hff
                  rw [if_neg (fun h => h.2.elim hbl hf2)] at hnx
                  have HNX : Hid _ := hnx
                  clear hnx hl2 hf2
                  go_quiet (fail)
                  go_wp2
                  go_roundw
                  case rel => exact ⟨j + 1, hlj, by go_num, by rw [HNX.out], H6.out.drew _⟩
                  case measure => simp [intOf]; omega
                · have hf2 : ff < fb := of_decide_eq_true hff
                  rw [if_pos ⟨hl2, .inr hf2⟩] at hnx
                  have HNX : Hid _ := hnx
                  clear hnx hl2 hf2
                  go_quiet (fail)
                  go_wp2
                  go_roundw
                  case rel => exact ⟨j + 1, hlj, by go_num, by rw [HNX.out], H6.out.drew _⟩
                  case measure => simp [intOf]; omega
          cases hlf0 : decide (0 < z.left)
          · have HBG : Hid (bgn (k : Int) (ys.getD j tk0) = ⟨z.start, z.period, z.budget, z.budget, (k : Int) + z.period, z.missed⟩) := (show _ = _ by rw [HZ.out]; unfold bgn beg; rw [hs, hr]; simp only [Bool.and_self, if_true]; rw [if_neg (of_decide_eq_false hlf0)])
            have H6 : Hid (SP u1 ((w5.setCell ⟨B, j, none⟩ (.int .i64 z.budget)).setCell ⟨B + 1, j, none⟩ (.int .i64 ((k : Int) + z.period))) B zs.length (mix (k : Int) ys (j + 1)) sv k ss) := (by
              rw [mix_next _ _ _ hjy _ HBG.out]
              have h1 := HLN.out.putL j z.budget ((mix (k : Int) ys j).set j ⟨z.start, z.period, z.budget, z.budget, z.fin, z.missed⟩) (map_set' _ _ _) (map_same _ _ hml _ (by rw [HMZ.out])) (map_same _ _ hml _ (by rw [HMZ.out]))
              exact h1.putE j ((k : Int) + z.period) _ (by simp only [map_set']) (by simp only [map_set', List.set_set]) (by simp only [map_set']))
            have HP1 : Hid (SP u1 (w5.setCell ⟨B, j, none⟩ (.int .i64 z.budget)) B zs.length ((mix (k : Int) ys j).set j ⟨z.start, z.period, z.budget, z.budget, z.fin, z.missed⟩) sv k ss) := HLN.out.putL j z.budget ((mix (k : Int) ys j).set j ⟨z.start, z.period, z.budget, z.budget, z.fin, z.missed⟩) (map_set' _ _ _) (map_same _ _ hml _ (by rw [HMZ.out])) (map_same _ _ hml _ (by rw [HMZ.out]))
            have ef := (HP1.out.e.atL j (by rw [List.length_set]; exact hml)).2.1
            have el := (HP1.out.e.atL j (by rw [List.length_set]; exact hml)).2.2
            have ev : ∃ y, (w5.setCell ⟨B, j, none⟩ (.int .i64 z.budget)).cell? ⟨B + 1, j, none⟩ = some y := ⟨_, (HP1.out.e.atL j (by rw [List.length_set]; exact hml)).1⟩
            obtain ⟨ey, ev⟩ := ev
            have y1 : (w5.setCell ⟨B, j, none⟩ (.int .i64 z.budget)).cell? ⟨wr.heap.size, 1, none⟩ = some (.int .i64 z.period) := (World.cell?_setCell_far _ _ _ _ (by have := HX7.out; simp only; omega)).trans (HXN.out.cel 1 _ rfl)
            have yl : wr.heap.size < (w5.setCell ⟨B, j, none⟩ (.int .i64 z.budget)).heap.size := (by simpa [World.setCell] using xl)
            clear HLN HBG HP1 f5 ff5 fl5 m5 mf5 ml5
            go_upto_region 21 with fail
            clear x0 x1 x2 xl hr hs2 c5 cf5 cl5 ef el ev y1 yl hs
            generalize ((w5.setCell ⟨B, j, none⟩ (.int .i64 z.budget)).setCell ⟨B + 1, j, none⟩ (.int .i64 ((k : Int) + z.period))) = w6 at *
            have c6 := H6.out.l.atL j (by rw [mix_len _ _ _ (by omega)]; omega)
            have f6 := H6.out.e.atL j (by rw [mix_len _ _ _ (by omega)]; omega)
            rw [mix_get _ _ _ _ (by omega) (by omega)] at c6 f6
            have hnx := nx_succ (ys.map (bgn (k : Int))) j
            have hnb := nx_b (ys.map (bgn (k : Int))) j
            obtain ⟨c6, -, l6⟩ := c6
            obtain ⟨f6, -, m6⟩ := f6
            by_cases hb0 : nx (ys.map (bgn (k : Int))) j < 0
            · have hb1 : nx (ys.map (bgn (k : Int))) j = -1 := by omega
              rw [hb1] at hnx ⊢
              clear hb0 hnb hb1
              generalize ((ys.map (bgn (k : Int))).getD j tk0).left = lf at *
              generalize ((ys.map (bgn (k : Int))).getD j tk0).fin = ff at *
              cases hlf : decide (0 < lf)
              · have hl2 : ¬ 0 < lf := of_decide_eq_false hlf
                rw [if_neg (fun h => hl2 h.1)] at hnx
                have HNX : Hid _ := hnx
                clear hnx hl2
                go_quiet (fail)
                go_wp2
                go_roundw
                case rel => exact ⟨j + 1, hlj, by go_num, by rw [HNX.out], H6.out.drew _⟩
                case measure => simp [intOf]; omega
              · have hl2 : 0 < lf := of_decide_eq_true hlf
                rw [if_pos ⟨hl2, .inl (by omega)⟩] at hnx
                have HNX : Hid _ := hnx
                clear hnx hl2
                go_quiet (fail)
                go_wp2
                go_roundw
                case rel => exact ⟨j + 1, hlj, by go_num, by rw [HNX.out], H6.out.drew _⟩
                case measure => simp [intOf]; omega
            · obtain ⟨b, hb⟩ := Int.eq_ofNat_of_zero_le (show 0 ≤ nx (ys.map (bgn (k : Int))) j by omega)
              rw [hb] at hnx hnb ⊢
              rw [Int.toNat_natCast] at hnx
              have g6 := H6.out.e.atL b (by rw [mix_len _ _ _ (by omega)]; omega)
              rw [mix_get _ _ _ _ (by omega) (by omega)] at g6
              obtain ⟨g6, -, -⟩ := g6
              have hbz : (0 : Int) ≤ (b : Int) := by omega
              have hbn : (b : Int) < (zs.length : Int) := by omega
              have hbl : ¬ (b : Int) < 0 := by omega
              clear hb0 hnb hb
              generalize ((ys.map (bgn (k : Int))).getD j tk0).left = lf at *
              generalize ((ys.map (bgn (k : Int))).getD j tk0).fin = ff at *
              generalize ((ys.map (bgn (k : Int))).getD b tk0).fin = fb at *
              cases hlf : decide (0 < lf)
              · have hl2 : ¬ 0 < lf := of_decide_eq_false hlf
                rw [if_neg (fun h => hl2 h.1)] at hnx
                have HNX : Hid _ := hnx
                clear hnx hl2
                go_quiet (fail)
                go_wp2
                go_roundw
                case rel => exact ⟨j + 1, hlj, by go_num, by rw [HNX.out], H6.out.drew _⟩
                case measure => simp [intOf]; omega
              · have hl2 : 0 < lf := of_decide_eq_true hlf
                cases hff : decide (ff < fb)
                · have hf2 : ¬ ff < fb := of_decide_eq_false hff
                  rw [if_neg (fun h => h.2.elim hbl hf2)] at hnx
                  have HNX : Hid _ := hnx
                  clear hnx hl2 hf2
                  go_quiet (fail)
                  go_wp2
                  go_roundw
                  case rel => exact ⟨j + 1, hlj, by go_num, by rw [HNX.out], H6.out.drew _⟩
                  case measure => simp [intOf]; omega
                · have hf2 : ff < fb := of_decide_eq_true hff
                  rw [if_pos ⟨hl2, .inr hf2⟩] at hnx
                  have HNX : Hid _ := hnx
                  clear hnx hl2 hf2
                  go_quiet (fail)
                  go_wp2
                  go_roundw
                  case rel => exact ⟨j + 1, hlj, by go_num, by rw [HNX.out], H6.out.drew _⟩
                  case measure => simp [intOf]; omega
          · have HBG : Hid (bgn (k : Int) (ys.getD j tk0) = ⟨z.start, z.period, z.budget, z.budget, (k : Int) + z.period, z.missed + 1⟩) := (show _ = _ by rw [HZ.out]; unfold bgn beg; rw [hs, hr]; simp only [Bool.and_self, if_true]; rw [if_pos (of_decide_eq_true hlf0)])
            have HP0 : Hid (∀ d, SP u1 ((w5.setCell ⟨B + 2, j, none⟩ (.int .i64 (z.missed + 1))).drewN d) B zs.length ((mix (k : Int) ys j).set j ⟨z.start, z.period, z.budget, z.left, z.fin, z.missed + 1⟩) sv k ss) := fun d => (HLN.out.putM j (z.missed + 1) ((mix (k : Int) ys j).set j ⟨z.start, z.period, z.budget, z.left, z.fin, z.missed + 1⟩) (map_same _ _ hml _ (by rw [HMZ.out])) (map_same _ _ hml _ (by rw [HMZ.out])) (map_set' _ _ _)).drew d
            have bx := HBX.out
            have bc : w5.cell? ⟨B + 1 + 1 + 1, 2, none⟩ = some (.slice (some ⟨B + 2, 0, none⟩) zs.length zs.length) := (by have h9 : w5.heap[B + 1 + 1 + 1]? = _ := bx; simp [World.cell?, h9])
            have bl : B + 1 + 1 + 1 < w5.heap.size := (Array.getElem?_eq_some_iff.1 bx).1
            have HY : Hid (∀ (x : Value) o, ((w5.setCell ⟨B + 2, j, none⟩ x).drewN 1).cell? ⟨wr.heap.size, o, none⟩ = w5.cell? ⟨wr.heap.size, o, none⟩) := fun x o => (World.cell?_setCell_far _ _ _ _ (by have := HX7.out; simp only; omega))
            clear bx HLN
            go_upto_region 18 with fail
            go_region
            have H0 : Hid (SP u1 ((w5.setCell ⟨B + 2, j, none⟩ (.int .i64 (z.missed + 1))).drew) B zs.length ((mix (k : Int) ys j).set j ⟨z.start, z.period, z.budget, z.left, z.fin, z.missed + 1⟩) sv k ss) := HP0.out 1
            have v1 : ((w5.setCell ⟨B + 2, j, none⟩ (.int .i64 (z.missed + 1))).drew).cell? ⟨wr.heap.size, 1, none⟩ = some (.int .i64 z.period) := (HY.out _ 1).trans (HXN.out.cel 1 _ rfl)
            have v2 : ((w5.setCell ⟨B + 2, j, none⟩ (.int .i64 (z.missed + 1))).drew).cell? ⟨wr.heap.size, 2, none⟩ = some (.int .i64 z.budget) := (HY.out _ 2).trans (HXN.out.cel 2 _ rfl)
            have vl : wr.heap.size < ((w5.setCell ⟨B + 2, j, none⟩ (.int .i64 (z.missed + 1))).drew).heap.size := (show wr.heap.size < (w5.setCell ⟨B + 2, j, none⟩ (.int .i64 (z.missed + 1))).heap.size by simpa [World.setCell] using xl)
            generalize (w5.setCell ⟨B + 2, j, none⟩ (.int .i64 (z.missed + 1))).drew = w6 at *
            clear HP0 HY bc bl c5 cf5 cl5 f5 ff5 fl5 m5 mf5 ml5 x0 x1 x2 xl
            have g5 := H0.out.l.atL j (by rw [List.length_set]; exact hml)
            obtain ⟨gc, gf, gl5⟩ := g5
            have HP1 : Hid (SP u1 (w6.setCell ⟨B, j, none⟩ (.int .i64 z.budget)) B zs.length ((mix (k : Int) ys j).set j ⟨z.start, z.period, z.budget, z.budget, z.fin, z.missed + 1⟩) sv k ss) := H0.out.putL j z.budget ((mix (k : Int) ys j).set j ⟨z.start, z.period, z.budget, z.budget, z.fin, z.missed + 1⟩) (by simp only [map_set', List.set_set]) (by simp only [map_set']) (by simp only [map_set'])
            have H6 : Hid (SP u1 ((w6.setCell ⟨B, j, none⟩ (.int .i64 z.budget)).setCell ⟨B + 1, j, none⟩ (.int .i64 ((k : Int) + z.period))) B zs.length (mix (k : Int) ys (j + 1)) sv k ss) := (by
              rw [mix_next _ _ _ hjy _ HBG.out]
              exact HP1.out.putE j ((k : Int) + z.period) _ (by simp only [map_set']) (by simp only [map_set', List.set_set]) (by simp only [map_set']))
            have ef := (HP1.out.e.atL j (by rw [List.length_set]; exact hml)).2.1
            have el := (HP1.out.e.atL j (by rw [List.length_set]; exact hml)).2.2
            obtain ⟨ey, ev⟩ : ∃ y, (w6.setCell ⟨B, j, none⟩ (.int .i64 z.budget)).cell? ⟨B + 1, j, none⟩ = some y := ⟨_, (HP1.out.e.atL j (by rw [List.length_set]; exact hml)).1⟩
            have y1 : (w6.setCell ⟨B, j, none⟩ (.int .i64 z.budget)).cell? ⟨wr.heap.size, 1, none⟩ = some (.int .i64 z.period) := (World.cell?_setCell_far _ _ _ _ (by have := HX7.out; simp only; omega)).trans v1
            have yl : wr.heap.size < (w6.setCell ⟨B, j, none⟩ (.int .i64 z.budget)).heap.size := (by simpa [World.setCell] using vl)
            clear HBG HP1 H0
            go_upto_region 21 with fail
            clear hr hs2 gc gf gl5 ef el ev y1 yl hs v1 v2 vl
            generalize ((w6.setCell ⟨B, j, none⟩ (.int .i64 z.budget)).setCell ⟨B + 1, j, none⟩ (.int .i64 ((k : Int) + z.period))) = w7 at *
            have c6 := H6.out.l.atL j (by rw [mix_len _ _ _ (by omega)]; omega)
            have f6 := H6.out.e.atL j (by rw [mix_len _ _ _ (by omega)]; omega)
            rw [mix_get _ _ _ _ (by omega) (by omega)] at c6 f6
            have hnx := nx_succ (ys.map (bgn (k : Int))) j
            have hnb := nx_b (ys.map (bgn (k : Int))) j
            obtain ⟨c6, -, l6⟩ := c6
            obtain ⟨f6, -, m6⟩ := f6
            by_cases hb0 : nx (ys.map (bgn (k : Int))) j < 0
            · have hb1 : nx (ys.map (bgn (k : Int))) j = -1 := by omega
              rw [hb1] at hnx ⊢
              clear hb0 hnb hb1
              generalize ((ys.map (bgn (k : Int))).getD j tk0).left = lf at *
              generalize ((ys.map (bgn (k : Int))).getD j tk0).fin = ff at *
              cases hlf : decide (0 < lf)
              · have hl2 : ¬ 0 < lf := of_decide_eq_false hlf
                rw [if_neg (fun h => hl2 h.1)] at hnx
                have HNX : Hid _ := hnx
                clear hnx hl2
                go_quiet (fail)
                go_wp2
                go_roundw
                case rel => exact ⟨j + 1, hlj, by go_num, by rw [HNX.out], H6.out.drew _⟩
                case measure => simp [intOf]; omega
              · have hl2 : 0 < lf := of_decide_eq_true hlf
                rw [if_pos ⟨hl2, .inl (by omega)⟩] at hnx
                have HNX : Hid _ := hnx
                clear hnx hl2
                go_quiet (fail)
                go_wp2
                go_roundw
                case rel => exact ⟨j + 1, hlj, by go_num, by rw [HNX.out], H6.out.drew _⟩
                case measure => simp [intOf]; omega
            · obtain ⟨b, hb⟩ := Int.eq_ofNat_of_zero_le (show 0 ≤ nx (ys.map (bgn (k : Int))) j by omega)
              rw [hb] at hnx hnb ⊢
              rw [Int.toNat_natCast] at hnx
              have g6 := H6.out.e.atL b (by rw [mix_len _ _ _ (by omega)]; omega)
              rw [mix_get _ _ _ _ (by omega) (by omega)] at g6
              obtain ⟨g6, -, -⟩ := g6
              have hbz : (0 : Int) ≤ (b : Int) := by omega
              have hbn : (b : Int) < (zs.length : Int) := by omega
              have hbl : ¬ (b : Int) < 0 := by omega
              clear hb0 hnb hb
              generalize ((ys.map (bgn (k : Int))).getD j tk0).left = lf at *
              generalize ((ys.map (bgn (k : Int))).getD j tk0).fin = ff at *
              generalize ((ys.map (bgn (k : Int))).getD b tk0).fin = fb at *
              cases hlf : decide (0 < lf)
              · have hl2 : ¬ 0 < lf := of_decide_eq_false hlf
                rw [if_neg (fun h => hl2 h.1)] at hnx
                have HNX : Hid _ := hnx
                clear hnx hl2
                go_quiet (fail)
                go_wp2
                go_roundw
                case rel => exact ⟨j + 1, hlj, by go_num, by rw [HNX.out], H6.out.drew _⟩
                case measure => simp [intOf]; omega
              · have hl2 : 0 < lf := of_decide_eq_true hlf
                cases hff : decide (ff < fb)
                · have hf2 : ¬ ff < fb := of_decide_eq_false hff
                  rw [if_neg (fun h => h.2.elim hbl hf2)] at hnx
                  have HNX : Hid _ := hnx
                  clear hnx hl2 hf2
                  go_quiet (fail)
                  go_wp2
                  go_roundw
                  case rel => exact ⟨j + 1, hlj, by go_num, by rw [HNX.out], H6.out.drew _⟩
                  case measure => simp [intOf]; omega
                · have hf2 : ff < fb := of_decide_eq_true hff
                  rw [if_pos ⟨hl2, .inr hf2⟩] at hnx
                  have HNX : Hid _ := hnx
                  clear hnx hl2 hf2
                  go_quiet (fail)
                  go_wp2
                  go_roundw
                  case rel => exact ⟨j + 1, hlj, by go_num, by rw [HNX.out], H6.out.drew _⟩
                  case measure => simp [intOf]; omega
        · obtain rfl : j = zs.length := by omega
          have hme : mix (k : Int) ys zs.length = ys.map (bgn (k : Int)) := by rw [← hyl]; exact mix_all _ _
          have HSX : Hid (SP u1 wr B zs.length (ys.map (bgn (k : Int))) sv k ss) := hme ▸ HSJ.out
          have HSS : Hid ((stp (k : Int) ys).1 = aft (ys.map (bgn (k : Int))) (nx (ys.map (bgn (k : Int))) zs.length) ∧ (stp (k : Int) ys).2 = nx (ys.map (bgn (k : Int))) zs.length) := (show _ ∧ _ by
            rw [← hyl]
            exact ⟨rfl, rfl⟩)
          clear hme HSJ HSK
          have hnb := nx_b (ys.map (bgn (k : Int))) zs.length
          have HNL : Hid (0 ≤ nx (ys.map (bgn (k : Int))) zs.length → 0 < ((ys.map (bgn (k : Int))).getD (nx (ys.map (bgn (k : Int))) zs.length).toNat tk0).left ∧ ((ys.map (bgn (k : Int))).getD (nx (ys.map (bgn (k : Int))) zs.length).toNat tk0).left ≤ 1000) := fun h0 => (by
            refine ⟨nx_left _ _ h0, ?_⟩
            rw [bgn_getD (k : Int) ys _ (by omega)]
            have h2 := bgn_ok (HYO.out (nx (ys.map (bgn (k : Int))) zs.length).toNat (by omega)) hk0
            obtain ⟨a1, a2, a3, a4, a5, a6, a7, a8, _⟩ := h2
            omega)
          obtain ⟨xs, hxs⟩ : ∃ xs, ys.map (bgn (k : Int)) = xs := ⟨_, rfl⟩
          have hxl : xs.length = zs.length := by rw [← hxs]; simpa using hyl
          rw [hxs] at HSX HSS hnb HNL
          rw [hxs]
          obtain ⟨M, hM⟩ : ∃ M, nx xs zs.length = M := ⟨_, rfl⟩
          rw [hM] at HSS hnb HNL
          rw [hM]
          clear hxs hM
          obtain ⟨sa, cs, hsv⟩ : ∃ sa cs, sv = .slice sa k cs := (by
            rcases HSX.out.s.2 with ⟨rfl, e⟩ | ⟨g, cap, cur, rfl, _⟩
            · exact ⟨none, 0, by rw [e]⟩
            · exact ⟨_, cap, rfl⟩)
          subst hsv
          have bx := HSX.out.box
          have bc : wr.cell? ⟨B + 1 + 1 + 1, 1, none⟩ = some (.slice sa k cs) := (by have h9 : wr.heap[B + 1 + 1 + 1]? = _ := bx; simp [World.cell?, h9])
          have bl : B + 1 + 1 + 1 < wr.heap.size := (Array.getElem?_eq_some_iff.1 bx).1
          have HAP : Hid _ := appI HSX.out.s (by omega) HSX.out.uB M
          have HBF : Hid (∀ u, (wr.alloc (.cells #[.int .i64 M] 2)).grownBy u (Value.slice sa k cs).ownBlock → u.frozen? ⟨B + 1 + 1 + 1, 1, none⟩ = false ∧ (∃ y, u.cell? ⟨B + 1 + 1 + 1, 1, none⟩ = some y) ∧ B + 1 + 1 + 1 < u.heap.size) := fun u hg => (by
            have h8 : u.heap[B + 3]? = some (.cells #[.int .i64 0, .slice sa k cs, .slice (some ⟨B + 2, 0, none⟩) zs.length zs.length] 45 (0, 0)) := (hg.block _ (by have := HSX.out.uB; simp; omega) (fun e => sv_ne HSX.out.s (B + 3) (by omega) e.symm)).trans ((Below.heap_alloc _ _ _ (by have := HSX.out.uB; omega)).trans HSX.out.box)
            have h9 : u.heap[B + 1 + 1 + 1]? = _ := h8
            exact ⟨by simp [World.frozen?, h9], ⟨_, by simp [World.cell?, h9]; rfl⟩, (Array.getElem?_eq_some_iff.1 h9).1⟩)
          clear bx
          go_upto_region 24 with (at_builtin; (refine wl_append_ex rfl _ _ 27 rfl _ _ rfl rfl HAP.out ?_; rintro v' u6 ⟨ho, hg2⟩; obtain ⟨sb, cb, rfl⟩ := own_sl8 ho; have HAF : Hid (SP u1 (u6.setCell ⟨B + 1 + 1 + 1, 1, none⟩ (.slice sb (k + 1) cb)) B zs.length xs (.slice sb (k + 1) cb) (k + 1) (ss ++ [M])) := HSX.out.app M ho hg2; obtain ⟨bf, ⟨by0, bc6⟩, bl6⟩ := HBF.out u6 hg2; clear ho hg2 HAP))
          generalize (u6.setCell ⟨B + 1 + 1 + 1, 1, none⟩ (.slice sb (k + 1) cb)) = w7 at *
          clear bf bc6 bl6 bc bl HBF HSX
          have HSE : Hid ((runK (zs.map tkOf) (k + 1)).1 = aft xs M ∧ (runK (zs.map tkOf) (k + 1)).2 = ss ++ [M]) := (show _ ∧ _ by
            rw [HST.out.1, HST.out.2, HSS.out.1, HSS.out.2]
            exact ⟨rfl, rfl⟩)
          clear HST HSS
          by_cases hM0 : M < 0
          · have hM1 : M = -1 := by omega
            have HAX : Hid (aft xs M = xs) := (show aft xs M = xs by unfold aft; rw [if_neg (by omega)])
            subst hM1
            go_wp2
            go_roundw
            case rel => exact ⟨k + 1, .slice sb (k + 1) cb, hlt, by go_num, HAF.out.ext (by rw [HSE.out.1, HAX.out]) rfl HSE.out.2.symm⟩
            case measure => simp [intOf]; omega
          · obtain ⟨X, rfl⟩ := Int.eq_ofNat_of_zero_le (show 0 ≤ M by omega)
            have hX : X < xs.length := by omega
            have hX0 : (0 : Int) ≤ (X : Int) := by omega
            have hX1 : (X : Int) < (zs.length : Int) := by omega
            obtain ⟨hlf1, hlf2⟩ := HNL.out (by omega)
            rw [Int.toNat_natCast] at hlf1 hlf2
            obtain ⟨c3, fz, gl⟩ := HAF.out.l.atL X hX
            have HAX : Hid (aft xs (X : Int) = xs.set X { xs.getD X tk0 with left := (xs.getD X tk0).left - 1 }) := (show aft xs (X : Int) = _ by unfold aft; rw [if_pos hX0]; rfl)
            have hgd : xs.getD X tk0 = xs[X] := by simp [List.getD, List.getElem?_eq_getElem hX]
            have HAW : Hid (SP u1 (w7.setCell ⟨B, X, none⟩ (.int .i64 ((xs.getD X tk0).left - 1))) B zs.length (aft xs (X : Int)) (.slice sb (k + 1) cb) (k + 1) (ss ++ [(X : Int)])) := HAF.out.putL X _ _ (by rw [HAX.out]; exact map_set' _ _ _) (by rw [HAX.out]; exact map_same _ _ hX _ (by rw [hgd])) (by rw [HAX.out]; exact map_same _ _ hX _ (by rw [hgd]))
            clear hgd HAX HAF
            generalize (xs.getD X tk0).left = lf at *
            go_wp2
            go_roundw
            case rel => exact ⟨k + 1, .slice sb (k + 1) cb, hlt, by go_num, HAW.out.ext HSE.out.1.symm rfl HSE.out.2.symm⟩
            case measure => simp [intOf]; omega
    · obtain rfl : k = Q := by omega
      obtain ⟨sa, cs, rfl⟩ := own_sl8 HSP.out.s
      have bx := HSP.out.box
      have b0 : wr.cell? ⟨B + 1 + 1 + 1, 0, none⟩ = some (.int .i64 0) := (by have h9 : wr.heap[B + 1 + 1 + 1]? = _ := bx; simp [World.cell?, h9])
      have b1 : wr.cell? ⟨B + 1 + 1 + 1, 1, none⟩ = some (.slice sa k cs) := (by have h9 : wr.heap[B + 1 + 1 + 1]? = _ := bx; simp [World.cell?, h9])
      have b2 : wr.cell? ⟨B + 1 + 1 + 1, 2, none⟩ = some (.slice (some ⟨B + 2, 0, none⟩) zs.length zs.length) := (by have h9 : wr.heap[B + 1 + 1 + 1]? = _ := bx; simp [World.cell?, h9])
      have bl : B + 1 + 1 + 1 < wr.heap.size := (Array.getElem?_eq_some_iff.1 bx).1
      have HLF : Hid (LG w wr w.heap.size #[.int .i64 0, .slice none 0 0, .slice none 0 0] 45) := HL1.out.step HSP.out.bel
      have f0 := HLF.out.frz 0
      have f1 := HLF.out.frz 1
      have f2 := HLF.out.frz 2
      have x0 := HLF.out.cel 0 _ rfl
      have x1 := HLF.out.cel 1 _ rfl
      have x2 := HLF.out.cel 2 _ rfl
      have xl := HLF.out.lt
      have HWB : Hid (w.heap.size < B) := (show w.heap.size < B by rw [← HBB.out]; exact HL1.out.lt)
      have HF : Hid (LG w (((wr.setCell ⟨w.heap.size, 0, none⟩ (.int .i64 0)).setCell ⟨w.heap.size, 1, none⟩ (.slice sa k cs)).setCell ⟨w.heap.size, 2, none⟩ (.slice (some ⟨B + 2, 0, none⟩) zs.length zs.length)) w.heap.size #[.int .i64 0, .slice sa k cs, .slice (some ⟨B + 2, 0, none⟩) zs.length zs.length] 45) := fin3 HLF.out _ _ _
      have r1 := own_set (x := .slice (some ⟨B + 2, 0, none⟩) zs.length zs.length) (p := ⟨w.heap.size, 2, none⟩) (own_set (x := .slice sa k cs) (p := ⟨w.heap.size, 1, none⟩) (own_set (x := .int .i64 0) (p := ⟨w.heap.size, 0, none⟩) HSP.out.s (sv_ne HSP.out.s w.heap.size (by have := HWB.out; omega))) (sv_ne HSP.out.s w.heap.size (by have := HWB.out; omega))) (sv_ne HSP.out.s w.heap.size (by have := HWB.out; omega))
      have r2 := ((HSP.out.m.far w.heap.size 0 (.int .i64 0) (by have := HWB.out; omega)).far w.heap.size 1 (.slice sa k cs) (by have := HWB.out; omega)).far w.heap.size 2 (.slice (some ⟨B + 2, 0, none⟩) zs.length zs.length) (by have := HWB.out; omega)
      have HR1' : Hid _ := r1
      have HR2' : Hid _ := r2
      have HSV : Hid (∀ b, b < B + 4 → (Value.slice sa k cs).ownBlock ≠ some b) := fun b hb => sv_ne HSP.out.s b hb
      clear r1 r2 bx
      go_wp2
      generalize (((wr.setCell ⟨w.heap.size, 0, none⟩ (.int .i64 0)).setCell ⟨w.heap.size, 1, none⟩ (.slice sa k cs)).setCell ⟨w.heap.size, 2, none⟩ (.slice (some ⟨B + 2, 0, none⟩) zs.length zs.length)) = W9 at *
      have y0 := HF.out.cel 0 _ rfl
      have y1 := HF.out.cel 1 _ rfl
      have y2 := HF.out.cel 2 _ rfl
      refine bodyPost_ret (v := .agg #[.int .i64 0, .slice sa k cs, .slice (some ⟨B + 2, 0, none⟩) zs.length zs.length]) (by simp [results, Try.results21, go_sem, y0, y1, y2]) rfl ?_
      have hrl := runK_len (zs.map tkOf) k
      refine ⟨_, rfl, ⟨_, _, by rw [HC.out], ?_, ?_, ?_⟩, HF.out.bel⟩
      · rw [HS.out, hrl.2]
        exact own_weak1 HR1'.out (by have := HWB.out; omega)
      · rw [HM.out, List.length_map, hrl.1, List.length_map]
        exact own_weak1 HR2'.out (by have := HWB.out; omega)
      · exact .inr (fun e => HSV.out (B + 2) (by omega) e)
end Go.Proofs.Ytcglpigmellfcab
