import Derived.Test.YtmbdclbddbbdpaaMFm
import Derived.Deep.DeepCutAuto
import Derived.BigQuiet
namespace Go.Proofs.Ytmbdclbddbbdpaa
open Go.ChangeShapes Go.WideShapes Go.ChangeAt Go.RowKit

theorem low7 (w : World) : Calls Try.prog 49 #[.int .i64 7] w fun e w' => e = .returned (.int .i64 127) ∧ w' = w := by
  go_enter Try.func49, Try.ntmps49
  go_wp2
  go_ret
  exact ⟨rfl, rfl⟩
set_option maxRecDepth 100000 in
set_option maxHeartbeats 4000000 in
theorem implMF_any {w : World} {m : MV} {a : MA} (h : MRows w m a) (hl : MLen m) : Calls Try.prog 22 #[.agg (mC m a)] w fun e w' => e = .returned (.int .i64 (mfC m)) ∧ Below w.heap.size w w' := by
  have HX0 : Hid (MX w (w.alloc (.cells (mC m a) 30)) 30 m a) := MX.new h
  have HL : Hid (MLen m) := hl
  have HFC : Hid (mfC m = if (mfT m && mfW m && mfK m && mfN m) = true then 0 else 1) := rfl
  clear h hl
  obtain ⟨ar, cr, ac, cc, av, cv, ai, ci, ao, co⟩ := a
  unfold mC
  go_enter Try.func22, Try.ntmps22
  go_upto_region 1 with fail
  go_cut [3] (fun s3 wc => s3 = .bool (mfT m) ∧ MX w wc 30 m ⟨ar, cr, ac, cc, av, cv, ai, ci, ao, co⟩)
  case first =>
    cases hmo : memOk m.mem
    · have hc : Hid _ := memC_no hmo
      go_wp2_with (go_at_call 44; refine (implMemFault_any _ _ HL.out.s).mono ?_; rintro e u1 ⟨rfl, hu1⟩; rw [hu1, hc.out]; clear hu1)
      go_meet
      case rel => exact ⟨by unfold mfT; rw [hmo]; rfl, HX0.out⟩
    · have hc : Hid _ := memC_ok hmo
      have HP1 := arePorts_any HX0.out.row.i HL.out.i
      obtain ⟨p1, hp1⟩ : ∃ p1, portsB m.is = p1 := ⟨_, rfl⟩
      rw [hp1] at HP1
      have HP1H : Hid _ := HP1
      have HP2 := fun u (hu : MX w u 30 m ⟨ar, cr, ac, cc, av, cv, ai, ci, ao, co⟩) => arePorts_any hu.row.o HL.out.o
      obtain ⟨p2, hp2⟩ : ∃ p2, portsB m.os = p2 := ⟨_, rfl⟩
      rw [hp2] at HP2
      have HP2H : Hid _ := HP2
      have HQ1 : Hid (portsB m.is = p1) := hp1
      have HQ2 : Hid (portsB m.os = p2) := hp2
      clear HP1 HP2 hp1 hp2
      go_wp2_with (first
        | (go_at_call 44; refine (implMemFault_any _ _ HL.out.s).mono ?_; rintro e u1 ⟨rfl, hu1⟩; rw [hu1, hc.out]; clear hu1)
        | (go_at_call 45; refine Calls.mono HP1H.out ?_; rintro e u2 ⟨rfl, hu2⟩; have HX1 : Hid (MX w u2 30 m ⟨ar, cr, ac, cc, av, cv, ai, ci, ao, co⟩) := HX0.out.step hu2; obtain ⟨c0, c1, c2, c3, c4, c5, c6, c7, c8, c9, c10, c11⟩ := HX1.out.cel; clear hu2 HP1H)
        | (go_at_call 45; refine Calls.mono (HP2H.out u2 HX1.out) ?_; rintro e u3 ⟨rfl, hu3⟩; have HX2 : Hid (MX w u3 30 m ⟨ar, cr, ac, cc, av, cv, ai, ci, ao, co⟩) := HX1.out.step hu3; clear hu3 HP2H))
      · go_meet
        case rel => exact ⟨by unfold mfT; rw [hmo, HQ1.out, HQ2.out, ‹p1 = true›]; simp, HX2.out⟩
      · go_meet
        case rel => exact ⟨by unfold mfT; rw [hmo, HQ1.out]; simp_all, HX1.out⟩
  case rest =>
    obtain ⟨rfl, hX⟩ := hcut
    have HY0 : Hid (MX w wc 30 m ⟨ar, cr, ac, cc, av, cv, ai, ci, ao, co⟩) := hX
    obtain ⟨c0, c1, c2, c3, c4, c5, c6, c7, c8, c9, c10, c11⟩ := hX.cel
    simp only at c0 c1 c2 c3 c4 c5 c6 c7 c8 c9 c10 c11
    clear hX HX0
    generalize mfT m = bT at *
    go_upto_region 2 with fail
    go_cut [4] (fun s4 wd => s4 = .bool (mfW m) ∧ MX w wd 30 m ⟨ar, cr, ac, cc, av, cv, ai, ci, ao, co⟩)
    case first =>
      have HI := fun u => implIsWord_any m.pc u
      obtain ⟨b1, hb1⟩ : ∃ b1, isW m.pc = b1 := ⟨_, rfl⟩
      rw [hb1] at HI
      have HIH : Hid _ := HI
      have HQ1 : Hid (isW m.pc = b1) := hb1
      have HR := areWords_any HY0.out.row.r HL.out.r 16
      have HC := fun u (hu : MX w u 30 m ⟨ar, cr, ac, cc, av, cv, ai, ci, ao, co⟩) => isControl_any hu.row.c HL.out.c
      obtain ⟨b3, hb3⟩ : ∃ b3, ctlB m.cs = b3 := ⟨_, rfl⟩
      rw [hb3] at HC
      have HCH : Hid _ := HC
      have HQ3 : Hid (ctlB m.cs = b3) := hb3
      have HV := fun u (hu : MX w u 30 m ⟨ar, cr, ac, cc, av, cv, ai, ci, ao, co⟩) => areWords_any hu.row.v HL.out.v 16
      obtain ⟨b4, hb4⟩ : ∃ b4, wordsB m.vs 16 = b4 := ⟨_, rfl⟩
      rw [hb4] at HV
      have HVH : Hid _ := HV
      have HQ4 : Hid (wordsB m.vs 16 = b4) := hb4
      clear HI HC HV hb1 hb3 hb4
      cases hq : wordsB m.rs 16
      · rw [hq] at HR
        have HRH : Hid _ := HR
        clear HR
        go_wp2_with (first
          | (go_at_call 46; refine Calls.mono (HIH.out _) ?_; rintro e u1 ⟨rfl, hu1⟩; rw [hu1]; clear hu1)
          | (go_at_call 47; refine Calls.mono HRH.out ?_; rintro e u2 ⟨rfl, hu2⟩; have HY1 : Hid (MX w u2 30 m ⟨ar, cr, ac, cc, av, cv, ai, ci, ao, co⟩) := HY0.out.step hu2; clear hu2 HRH))
        · go_meet
          case rel => exact ⟨by unfold mfW; rw [hq]; simp, HY1.out⟩
        · go_meet
          case rel => exact ⟨by unfold mfW; rw [hq]; simp, HY0.out⟩
      · rw [hq] at HR
        have HRH : Hid _ := HR
        have hn : m.rs.length = 16 := by
          unfold wordsB at hq
          rw [Bool.and_eq_true] at hq
          exact of_decide_eq_true hq.1
        obtain ⟨g, o, rfl, hg, hcap, hcc⟩ := Irow.at HY0.out.row.r rfl (by omega)
        have x0 := hcc 0 (by omega)
        rw [Nat.add_zero] at x0
        have hl0 : (0 : Int) < (m.rs.length : Int) := by omega
        have HN : Hid (m.rs.length = 16) := hn
        have HGR : Hid (m.rs.getD 0 0 = m.rs.getD 0 0) := rfl
        obtain ⟨r0, hr0⟩ : ∃ r0, m.rs.getD 0 0 = r0 := ⟨_, rfl⟩
        rw [hr0] at x0
        have HR0 : Hid (m.rs.getD 0 0 = r0) := hr0
        clear HR hcc hn hr0 HGR
        go_wp2_with (first
          | (go_at_call 46; refine Calls.mono (HIH.out _) ?_; rintro e u1 ⟨rfl, hu1⟩; rw [hu1]; clear hu1)
          | (go_at_call 47; refine Calls.mono HRH.out ?_; rintro e u2 ⟨rfl, hu2⟩; have HY1 : Hid (MX w u2 30 m ⟨some ⟨g, o, none⟩, cr, ac, cc, av, cv, ai, ci, ao, co⟩) := HY0.out.step hu2; obtain ⟨d0, d1, d2, d3, d4, d5, d6, d7, d8, d9, d10, d11⟩ := HY1.out.cel; have x1 := (World.cell?_of_block (a := ⟨g, o, none⟩) (hu2.block g hg)).trans x0; clear hu2 HRH)
          | (go_at_call 48; refine Calls.mono (HCH.out u2 HY1.out) ?_; rintro e u3 ⟨rfl, hu3⟩; have HY2 : Hid (MX w u3 30 m ⟨some ⟨g, o, none⟩, cr, ac, cc, av, cv, ai, ci, ao, co⟩) := HY1.out.step hu3; obtain ⟨f0, f1, f2, f3, f4, f5, f6, f7, f8, f9, f10, f11⟩ := HY2.out.cel; clear hu3 HCH)
          | (go_at_call 47; refine Calls.mono (HVH.out u3 HY2.out) ?_; rintro e u4 ⟨rfl, hu4⟩; have HY3 : Hid (MX w u4 30 m ⟨some ⟨g, o, none⟩, cr, ac, cc, av, cv, ai, ci, ao, co⟩) := HY2.out.step hu4; clear hu4 HVH))
        · go_meet
          case rel => exact ⟨by unfold mfW; rw [HQ1.out, hq, HR0.out, HQ3.out, HQ4.out, ‹b1 = true›, ‹b3 = true›, ‹r0 = 0›]; simp, HY3.out⟩
        · go_meet
          case rel => exact ⟨by unfold mfW; rw [HQ3.out, (by simpa using ‹¬ b3 = true› : b3 = false)]; simp, HY2.out⟩
        · go_meet
          case rel => exact ⟨by unfold mfW; rw [HR0.out, decide_eq_false ‹¬ r0 = 0›]; simp, HY1.out⟩
        · go_meet
          case rel => exact ⟨by unfold mfW; rw [HQ1.out, (by simpa using ‹¬ b1 = true› : b1 = false)]; simp, HY0.out⟩
    case rest =>
      obtain ⟨rfl, hX⟩ := hcut
      clear HY0 c0 c1 c2 c3 c4 c5 c6 c7 c8 c9 c10 c11
      have HZ0 : Hid (MX w wc 30 m ⟨ar, cr, ac, cc, av, cv, ai, ci, ao, co⟩) := hX
      obtain ⟨c0, c1, c2, c3, c4, c5, c6, c7, c8, c9, c10, c11⟩ := hX.cel
      clear hX
      generalize mfW m = bW at *
      go_upto_region 3 with fail
      go_cut [5] (fun s5 we => s5 = .bool (mfK m) ∧ we = wc)
      case first =>
        have HK := mfK_eq m
        obtain ⟨q0, h0⟩ : ∃ q, (m.md == 0) = q := ⟨_, rfl⟩
        obtain ⟨q1, h1⟩ : ∃ q, (m.md == 1) = q := ⟨_, rfl⟩
        obtain ⟨q2, h2⟩ : ∃ q, (m.st == 0) = q := ⟨_, rfl⟩
        obtain ⟨q3, h3⟩ : ∃ q, (m.st == 1) = q := ⟨_, rfl⟩
        obtain ⟨q4, h4⟩ : ∃ q, (m.st == 2) = q := ⟨_, rfl⟩
        rw [h0, h1, h2, h3, h4] at HK
        have HKH : Hid (mfK m = ((q0 || q1) && (q2 || q3 || q4))) := HK
        clear HK
        cases q0 <;> cases q1 <;> cases q2 <;> cases q3 <;> cases q4
        all_goals (go_wp2; go_meet)
        all_goals exact ⟨by rw [HKH.out]; rfl, rfl⟩
      case rest =>
        obtain ⟨rfl, hwe⟩ := hcut
        have HZ1 : Hid (MX w wc 30 m ⟨ar, cr, ac, cc, av, cv, ai, ci, ao, co⟩) := (by rw [hwe]; exact HZ0.out)
        clear hwe HZ0 c0 c1 c2 c3 c4 c5 c6 c7 c8 c9 c10 c11
        obtain ⟨c0, c1, c2, c3, c4, c5, c6, c7, c8, c9, c10, c11⟩ := HZ1.out.cel
        generalize mfK m = bK at *
        go_upto_region 4 with fail
        go_cut [6] (fun s6 we => s6 = .bool (mfN m) ∧ MX w we 30 m ⟨ar, cr, ac, cc, av, cv, ai, ci, ao, co⟩)
        case first =>
          obtain ⟨R, hR⟩ : ∃ R, mfN m = R := ⟨_, rfl⟩
          have HR0 : Hid (mfN m = R) := hR
          unfold mfN at hR
          obtain ⟨q0, h0⟩ : ∃ q, decide (0 ≤ m.ct) = q := ⟨_, rfl⟩
          obtain ⟨q1, h1⟩ : ∃ q, decide (m.ct ≤ 1099511627776) = q := ⟨_, rfl⟩
          obtain ⟨q2, h2⟩ : ∃ q, decide (0 ≤ m.ln) = q := ⟨_, rfl⟩
          obtain ⟨q3, h3⟩ : ∃ q, decide (m.ln ≤ 127) = q := ⟨_, rfl⟩
          obtain ⟨q4, h4⟩ : ∃ q, decide (0 ≤ m.tr) = q := ⟨_, rfl⟩
          obtain ⟨q5, h5⟩ : ∃ q, decide (m.tr < 2147483629) = q := ⟨_, rfl⟩
          rw [h0, h1, h2, h3, h4, h5] at hR
          have HR1 : Hid ((q0 && q1 && q2 && q3 && q4 && q5) = R) := hR
          clear hR
          cases q0
          · go_quiet ((go_at_call 49; exact Calls.quiet_of_same (low7 _)))
            go_wp2
            go_meet
            case rel => exact ⟨by rw [HR0.out, ← HR1.out]; simp, HZ1.out.step (bdn (Below.refl _ _) _)⟩
          · skip
            cases q1
            · go_quiet ((go_at_call 49; exact Calls.quiet_of_same (low7 _)))
              go_wp2
              go_meet
              case rel => exact ⟨by rw [HR0.out, ← HR1.out]; simp, HZ1.out.step (bdn (Below.refl _ _) _)⟩
            · skip
              cases q2
              · go_quiet ((go_at_call 49; exact Calls.quiet_of_same (low7 _)))
                go_wp2
                go_meet
                case rel => exact ⟨by rw [HR0.out, ← HR1.out]; simp, HZ1.out.step (bdn (Below.refl _ _) _)⟩
              · skip
                cases q3
                · go_quiet ((go_at_call 49; exact Calls.quiet_of_same (low7 _)))
                  go_wp2
                  go_meet
                  case rel => exact ⟨by rw [HR0.out, ← HR1.out]; simp, HZ1.out.step (bdn (Below.refl _ _) _)⟩
                · skip
                  cases q4
                  · go_quiet ((go_at_call 49; exact Calls.quiet_of_same (low7 _)))
                    go_wp2
                    go_meet
                    case rel => exact ⟨by rw [HR0.out, ← HR1.out]; simp, HZ1.out.step (bdn (Below.refl _ _) _)⟩
                  · skip
                    cases q5
                    · go_quiet ((go_at_call 49; exact Calls.quiet_of_same (low7 _)))
                      go_wp2
                      go_meet
                      case rel => exact ⟨by rw [HR0.out, ← HR1.out]; simp, HZ1.out.step (bdn (Below.refl _ _) _)⟩
                    · go_quiet ((go_at_call 49; exact Calls.quiet_of_same (low7 _)))
                      go_wp2
                      go_meet
                      case rel => exact ⟨by rw [HR0.out, ← HR1.out]; simp, HZ1.out.step (bdn (Below.refl _ _) _)⟩
        case rest =>
          obtain ⟨rfl, hX⟩ := hcut
          have HZ2 : Hid (MX w wc 30 m ⟨ar, cr, ac, cc, av, cv, ai, ci, ao, co⟩) := hX
          clear hX HZ1 c0 c1 c2 c3 c4 c5 c6 c7 c8 c9 c10 c11
          generalize mfN m = bN at *
          cases bT <;> cases bW <;> cases bK <;> cases bN
          all_goals go_wp2
          all_goals go_ret
          all_goals exact ⟨ret_int (by rw [HFC.out]; rfl), HZ2.out.bel⟩
end Go.Proofs.Ytmbdclbddbbdpaa
