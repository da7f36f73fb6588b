import Derived.Test.YtmbdclbddbbdpaaMFm
import Derived.Deep.Light
namespace Go.Proofs.Ytmbdclbddbbdpaa
open Go.ChangeShapes Go.WideShapes Go.ChangeAt Go.RowKit

theorem mfC_one {m : MV} (h : (mfT m && mfW m && mfK m && mfN m) = false) : mfC m = 1 := by
  unfold mfC
  rw [h]
  rfl
theorem mfC_zero {m : MV} (h : (mfT m && mfW m && mfK m && mfN m) = true) : mfC m = 0 := by
  unfold mfC
  rw [h]
  rfl
theorem mfW_rs {m : MV} (h : wordsB m.rs 16 = false) : mfC m = 1 := mfC_one (by simp [mfW, h])
theorem mfW_cs {m : MV} (h : wordsB m.cs 12 = false) : mfC m = 1 := mfC_one (by simp [mfW, ctlB, h])
theorem words_len {zs : List Int} {n : Nat} (h : wordsB zs n = true) : zs.length = n := by
  unfold wordsB at h
  rw [Bool.and_eq_true] at h
  exact of_decide_eq_true h.1
theorem Irow.cell {w : World} {g o cap : Nat} {zs : List Int} (h : Irow w (.slice (some ⟨g, o, none⟩) zs.length cap) zs) (k : Nat) (hk : k < zs.length) {x : Int} (hx : zs.getD k 0 = x) : w.cell? ⟨g, o + k, none⟩ = some (.int .i64 x) := by
  obtain ⟨g2, o2, e, _, _, h2⟩ := h.at rfl (by omega)
  injection e with e1
  obtain ⟨rfl, rfl⟩ : g = g2 ∧ o = o2 := ⟨congrArg Addr.block e1, congrArg Addr.off e1⟩
  rw [h2 k hk, hx]
/-- All that is asked, as one. -/
theorem mfC_all (m : MV) (b0 p1 p2 b1 b4 k0 k1 k2 k3 k4 k5 k6 k7 k8 k9 : Bool) (r0 x0 x8 x9 x11 : Int) (hr : wordsB m.rs 16 = true) (hc : wordsB m.cs 12 = true) (h0 : memOk m.mem = b0) (h1 : portsB m.is = p1) (h2 : portsB m.os = p2) (h3 : isW m.pc = b1) (h4 : wordsB m.vs 16 = b4) (h5 : m.rs.getD 0 0 = r0) (h6 : m.cs.getD 0 0 = x0) (h7 : m.cs.getD 8 0 = x8) (h8 : m.cs.getD 9 0 = x9) (h9 : m.cs.getD 11 0 = x11)
    (e0 : decide (m.md < 0) = k0) (e1 : decide (1 < m.md) = k1) (e2 : decide (m.st < 0) = k2) (e3 : decide (2 < m.st) = k3) (e4 : decide (m.ct < 0) = k4) (e5 : decide (1099511627776 < m.ct) = k5) (e6 : decide (m.ln < 0) = k6) (e7 : decide (127 < m.ln) = k7) (e8 : decide (m.tr < 0) = k8) (e9 : decide (2147483629 ≤ m.tr) = k9) :
    mfC m = if (b0 && p1 && p2 && b1 && b4 && decide (r0 = 0) && decide (x0 < 32) && decide (x8 = 0) && decide (x9 = 0) && decide (x11 = 0) && !k0 && !k1 && !k2 && !k3 && !k4 && !k5 && !k6 && !k7 && !k8 && !k9) = true then 0 else 1 := by
  have hK : mfK m = (!k0 && !k1 && !k2 && !k3) := by
    subst e0 e1 e2 e3
    unfold mfK
    rw [Bool.eq_iff_iff]
    simp
    omega
  have hN : mfN m = (!k4 && !k5 && !k6 && !k7 && !k8 && !k9) := by
    subst e4 e5 e6 e7 e8 e9
    unfold mfN
    rw [Bool.eq_iff_iff]
    simp
  have hx : decide (x0 ≤ 31) = decide (x0 < 32) := decide_eq_decide.2 (by omega)
  unfold mfC mfT mfW ctlB
  rw [hK, hN, hr, hc, h0, h1, h2, h3, h4, h5, h6, h7, h8, h9, hx]
  clear e0 e1 e2 e3 e4 e5 e6 e7 e8 e9 hK hN hx h0 h1 h2 h3 h4
  congr 1
  rw [eq_iff_iff]
  simp
  constructor
  · rintro ⟨⟨⟨⟨⟨_, _⟩, _⟩, h⟩, _⟩, _⟩
    simp_all
  · intro h
    simp_all
set_option maxRecDepth 100000 in
set_option maxHeartbeats 4000000 in
theorem specMF_any {w : World} {m : MV} {a : MA} (h : MRows w m a) (hl : MLen m) : Calls Try.prog 11 #[.agg (mC m a)] w fun e w' => e = .returned (.int .i64 (mfC m)) ∧ Below w.heap.size w w' := by
  have HX0 : Hid (MX w (w.alloc (.cells (mC m a) 30)) 30 m a) := MX.new h
  have HL : Hid (MLen m) := hl
  clear h hl
  obtain ⟨ar, cr, ac, cc, av, cv, ai, ci, ao, co⟩ := a
  have HM0 := fun u => specMemFault_any m.mem u HL.out.s
  have HI := fun u => specIsWord_any m.pc u
  have HR := l04Words_any HX0.out.row.r 16 (by decide)
  have HC := fun u (hu : MX w u 30 m ⟨ar, cr, ac, cc, av, cv, ai, ci, ao, co⟩) => l04Words_any hu.row.c 12 (by decide)
  have HV := fun u (hu : MX w u 30 m ⟨ar, cr, ac, cc, av, cv, ai, ci, ao, co⟩) => l04Words_any hu.row.v 16 (by decide)
  have HP := fun u (hu : MX w u 30 m ⟨ar, cr, ac, cc, av, cv, ai, ci, ao, co⟩) => l04Ports_any hu.row.i HL.out.i
  have HO := fun u (hu : MX w u 30 m ⟨ar, cr, ac, cc, av, cv, ai, ci, ao, co⟩) => l04Ports_any hu.row.o HL.out.o
  unfold mC
  cases hr : wordsB m.rs 16
  · rw [hr] at HR
    have HRH : Hid _ := HR
    have HIH : Hid _ := HI
    have HMH : Hid _ := HM0
    have HFC : Hid (mfC m = 1) := mfW_rs hr
    clear HR HI HM0 HC HV HP HO
    generalize memC m.mem = mc at *
    generalize isW m.pc = b1 at *
    go_enter Try.func11, Try.ntmps11
    go_wp2_with (first
      | (go_at_call 34; refine Calls.mono (HMH.out _) ?_; rintro e u1 ⟨rfl, hu1⟩; rw [hu1]; clear hu1)
      | (go_at_call 35; refine Calls.mono (HIH.out _) ?_; rintro e u2 ⟨rfl, hu2⟩; rw [hu2]; clear hu2)
      | (go_at_call 36; refine Calls.mono HRH.out ?_; rintro e u3 ⟨rfl, hu3⟩; have HX1 : Hid (MX w u3 30 m ⟨ar, cr, ac, cc, av, cv, ai, ci, ao, co⟩) := HX0.out.step hu3; clear hu3 HRH))
    all_goals go_ret
    all_goals first
      | exact ⟨ret_int HFC.out.symm, HX1.out.bel⟩
      | exact ⟨ret_int HFC.out.symm, HX0.out.bel⟩
  · rw [hr] at HR
    have hn := words_len hr
    obtain ⟨g, o, rfl, hg, _, hcc⟩ := Irow.at HX0.out.row.r rfl (by omega)
    have y0 := hcc 0 (by omega)
    rw [Nat.add_zero] at y0
    have hl0 : (0 : Int) < (m.rs.length : Int) := by omega
    obtain ⟨r0, h5⟩ : ∃ r0, m.rs.getD 0 0 = r0 := ⟨_, rfl⟩
    rw [h5] at y0
    clear hcc
    cases hc : wordsB m.cs 12
    · rw [hc] at HC
      have HRH : Hid _ := HR
      have HIH : Hid _ := HI
      have HMH : Hid _ := HM0
      have HCH : Hid _ := HC
      have HFC : Hid (mfC m = 1) := mfW_cs hc
      clear HR HI HM0 HC HV HP HO hn h5
      generalize memC m.mem = mc at *
      generalize isW m.pc = b1 at *
      go_enter Try.func11, Try.ntmps11
      go_wp2_with (first
        | (go_at_call 34; refine Calls.mono (HMH.out _) ?_; rintro e u1 ⟨rfl, hu1⟩; rw [hu1]; clear hu1)
        | (go_at_call 35; refine Calls.mono (HIH.out _) ?_; rintro e u2 ⟨rfl, hu2⟩; rw [hu2]; clear hu2)
        | (go_at_call 36; refine Calls.mono HRH.out ?_; rintro e u3 ⟨rfl, hu3⟩; have HX1 : Hid (MX w u3 30 m ⟨some ⟨g, o, none⟩, cr, ac, cc, av, cv, ai, ci, ao, co⟩) := HX0.out.step hu3; obtain ⟨d0, d1, d2, d3, d4, d5, d6, d7, d8, d9, d10, d11⟩ := HX1.out.cel; have y1 := (World.cell?_of_block (a := ⟨g, o, none⟩) (hu3.block g hg)).trans y0; clear hu3 HRH)
        | (go_at_call 36; refine Calls.mono (HCH.out u3 HX1.out) ?_; rintro e u4 ⟨rfl, hu4⟩; have HX2 : Hid (MX w u4 30 m ⟨some ⟨g, o, none⟩, cr, ac, cc, av, cv, ai, ci, ao, co⟩) := HX1.out.step hu4; clear hu4 HCH))
      all_goals go_ret
      all_goals first
        | exact ⟨ret_int HFC.out.symm, HX2.out.bel⟩
        | exact ⟨ret_int HFC.out.symm, HX1.out.bel⟩
        | exact ⟨ret_int HFC.out.symm, HX0.out.bel⟩
    · rw [hc] at HC
      have hn2 := words_len hc
      obtain ⟨g2, o2, rfl, hg2, _, hcc⟩ := Irow.at HX0.out.row.c rfl (by omega)
      have z0 := hcc 0 (by omega)
      have z8 := hcc 8 (by omega)
      have z9 := hcc 9 (by omega)
      have z11 := hcc 11 (by omega)
      rw [Nat.add_zero] at z0
      have hl1 : (11 : Int) < (m.cs.length : Int) := by omega
      obtain ⟨x0, h6⟩ : ∃ x, m.cs.getD 0 0 = x := ⟨_, rfl⟩
      obtain ⟨x8, h7⟩ : ∃ x, m.cs.getD 8 0 = x := ⟨_, rfl⟩
      obtain ⟨x9, h8⟩ : ∃ x, m.cs.getD 9 0 = x := ⟨_, rfl⟩
      obtain ⟨x11, h9⟩ : ∃ x, m.cs.getD 11 0 = x := ⟨_, rfl⟩
      rw [h6] at z0
      rw [h7] at z8
      rw [h8] at z9
      rw [h9] at z11
      obtain ⟨k0, e0⟩ : ∃ k, decide (m.md < 0) = k := ⟨_, rfl⟩
      obtain ⟨k1, e1⟩ : ∃ k, decide (1 < m.md) = k := ⟨_, rfl⟩
      obtain ⟨k2, e2⟩ : ∃ k, decide (m.st < 0) = k := ⟨_, rfl⟩
      obtain ⟨k3, e3⟩ : ∃ k, decide (2 < m.st) = k := ⟨_, rfl⟩
      obtain ⟨k4, e4⟩ : ∃ k, decide (m.ct < 0) = k := ⟨_, rfl⟩
      obtain ⟨k5, e5⟩ : ∃ k, decide (1099511627776 < m.ct) = k := ⟨_, rfl⟩
      obtain ⟨k6, e6⟩ : ∃ k, decide (m.ln < 0) = k := ⟨_, rfl⟩
      obtain ⟨k7, e7⟩ : ∃ k, decide (127 < m.ln) = k := ⟨_, rfl⟩
      obtain ⟨k8, e8⟩ : ∃ k, decide (m.tr < 0) = k := ⟨_, rfl⟩
      obtain ⟨k9, e9⟩ : ∃ k, decide (2147483629 ≤ m.tr) = k := ⟨_, rfl⟩
      obtain ⟨b0, h0⟩ : ∃ b, memOk m.mem = b := ⟨_, rfl⟩
      obtain ⟨p1, h1⟩ : ∃ b, portsB m.is = b := ⟨_, rfl⟩
      obtain ⟨p2, h2⟩ : ∃ b, portsB m.os = b := ⟨_, rfl⟩
      obtain ⟨b1, h3⟩ : ∃ b, isW m.pc = b := ⟨_, rfl⟩
      obtain ⟨b4, h4⟩ : ∃ b, wordsB m.vs 16 = b := ⟨_, rfl⟩
      have hF := mfC_all m b0 p1 p2 b1 b4 k0 k1 k2 k3 k4 k5 k6 k7 k8 k9 r0 x0 x8 x9 x11 hr hc h0 h1 h2 h3 h4 h5 h6 h7 h8 h9 e0 e1 e2 e3 e4 e5 e6 e7 e8 e9
      have hmc : memC m.mem = if b0 then 0 else 1 := by unfold memC; rw [h0]
      have HFC : Hid (mfC m = if (b0 && p1 && p2 && b1 && b4 && decide (r0 = 0) && decide (x0 < 32) && decide (x8 = 0) && decide (x9 = 0) && decide (x11 = 0) && !k0 && !k1 && !k2 && !k3 && !k4 && !k5 && !k6 && !k7 && !k8 && !k9) = true then 0 else 1) := hF
      obtain ⟨FC, hFC⟩ : ∃ f, mfC m = f := ⟨_, rfl⟩
      rw [hFC] at HFC ⊢
      rw [hmc] at HM0
      rw [h3] at HI
      rw [h4] at HV
      rw [h1] at HP
      rw [h2] at HO
      have HRH : Hid _ := HR
      have HIH : Hid _ := HI
      have HMH : Hid _ := HM0
      have HCH : Hid _ := HC
      have HVH : Hid _ := HV
      have HPH : Hid _ := HP
      have HOH : Hid _ := HO
      have H6 : Hid (m.cs.getD 0 0 = x0) := h6
      have H7 : Hid (m.cs.getD 8 0 = x8) := h7
      have H8 : Hid (m.cs.getD 9 0 = x9) := h8
      have H9 : Hid (m.cs.getD 11 0 = x11) := h9
      have HN2 : Hid (m.cs.length = 12) := hn2
      clear HR HI HM0 HC HV HP HO hn hn2 h0 h1 h2 h3 h4 h5 h6 h7 h8 h9 hF hmc hFC hcc z0 z8 z9 z11
      go_enter Try.func11, Try.ntmps11
      cases b0
      · simp only [Bool.false_eq_true, if_false] at HMH
        go_wp2_with (go_at_call 34; refine Calls.mono (HMH.out _) ?_; rintro e u1 ⟨rfl, hu1⟩; rw [hu1]; clear hu1)
        go_ret
        exact ⟨ret_int (by rw [HFC.out]; simp), HX0.out.bel⟩
      · simp only [if_true] at HMH
        go_wp2_with (first
          | (go_at_call 34; refine Calls.mono (HMH.out _) ?_; rintro e u1 ⟨rfl, hu1⟩; rw [hu1]; clear hu1)
          | (go_at_call 35; refine Calls.mono (HIH.out _) ?_; rintro e u2 ⟨rfl, hu2⟩; rw [hu2]; clear hu2)
          | (go_at_call 36; refine Calls.mono HRH.out ?_; rintro e u3 ⟨rfl, hu3⟩; have HX1 : Hid (MX w u3 30 m ⟨some ⟨g, o, none⟩, cr, some ⟨g2, o2, none⟩, cc, av, cv, ai, ci, ao, co⟩) := HX0.out.step hu3; obtain ⟨d0, d1, d2, d3, d4, d5, d6, d7, d8, d9, d10, d11⟩ := HX1.out.cel; have y1 := (World.cell?_of_block (a := ⟨g, o, none⟩) (hu3.block g hg)).trans y0; clear hu3 HRH)
          | (go_at_call 36; refine Calls.mono (HCH.out u3 HX1.out) ?_; rintro e u4 ⟨rfl, hu4⟩; have HX2 : Hid (MX w u4 30 m ⟨some ⟨g, o, none⟩, cr, some ⟨g2, o2, none⟩, cc, av, cv, ai, ci, ao, co⟩) := HX1.out.step hu4; obtain ⟨f0, f1, f2, f3, f4, f5, f6, f7, f8, f9, f10, f11⟩ := HX2.out.cel; clear hu4 HCH)
          | fail)
        · refine Calls.mono (HVH.out u4 HX2.out) ?_
          rintro e u5 ⟨rfl, hu5⟩
          have HX3 : Hid (MX w u5 30 m ⟨some ⟨g, o, none⟩, cr, some ⟨g2, o2, none⟩, cc, av, cv, ai, ci, ao, co⟩) := HX2.out.step hu5
          obtain ⟨j0, j1, j2, j3, j4, j5, j6, j7, j8, j9, j10, j11⟩ := HX3.out.cel
          have z0 := Irow.cell HX3.out.row.c 0 (by have := HN2.out; omega) H6.out
          have z8 := Irow.cell HX3.out.row.c 8 (by have := HN2.out; omega) H7.out
          have z9 := Irow.cell HX3.out.row.c 9 (by have := HN2.out; omega) H8.out
          have z11 := Irow.cell HX3.out.row.c 11 (by have := HN2.out; omega) H9.out
          rw [Nat.add_zero] at z0
          clear hu5 HVH d0 d1 d2 d3 d4 d5 d6 d7 d8 d9 d10 d11 f0 f1 f2 f3 f4 f5 f6 f7 f8 f9 f10 f11 y0 y1
          go_wp2_with (first
            | (go_at_call 37; refine Calls.mono (HPH.out u5 HX3.out) ?_; rintro e u6 ⟨rfl, hu6⟩; have HX4 : Hid (MX w u6 30 m ⟨some ⟨g, o, none⟩, cr, some ⟨g2, o2, none⟩, cc, av, cv, ai, ci, ao, co⟩) := HX3.out.step hu6; obtain ⟨l0, l1, l2, l3, l4, l5, l6, l7, l8, l9, l10, l11⟩ := HX4.out.cel; clear hu6 HPH)
            | (go_at_call 37; refine Calls.mono (HOH.out u6 HX4.out) ?_; rintro e u7 ⟨rfl, hu7⟩; have HX5 : Hid (MX w u7 30 m ⟨some ⟨g, o, none⟩, cr, some ⟨g2, o2, none⟩, cc, av, cv, ai, ci, ao, co⟩) := HX4.out.step hu7; clear hu7 HOH))
          all_goals go_ret
          all_goals first
            | refine ⟨ret_int ?_, HX5.out.bel⟩
            | refine ⟨ret_int ?_, HX4.out.bel⟩
            | refine ⟨ret_int ?_, HX3.out.bel⟩
          all_goals (go_light; rw [HFC.out]; simp_all <;> first | (intros; omega) | (rcases ‹32 ≤ x0 ∨ p2 = false› with q | q <;> first | omega | exact q))
        · (go_ret; refine ⟨ret_int ?_, HX1.out.bel⟩; go_light; rw [HFC.out]; simp_all)
        · (go_ret; refine ⟨ret_int ?_, HX0.out.bel⟩; go_light; rw [HFC.out]; simp_all)
end Go.Proofs.Ytmbdclbddbbdpaa
