import Derived.Test.YtcglpigmellfcabEd6
import Derived.Test.YtcglpigmellfcabEd7
namespace Go.Proofs.Ytcglpigmellfcab
open Go.ChangeShapes Go.WideShapes Go.ChangeAt Go.RowKit

set_option maxRecDepth 100000 in
set_option maxHeartbeats 16000000 in
theorem walkDL (a : Option Addr) (len cap : Nat) (w : World) (hcode : CodeAt w w.heap.size a len) (hl : len ≤ 1048576) :
    Calls Try.prog 6 #[.slice a len cap] w fun e w' => e = .returned (.bool true) ∧ Below w.heap.size w w' := by
  have HC : Hid (CodeAt w w.heap.size a len) := hcode
  clear hcode
  have e0 : decide (1048576 < (len : Int)) = false := decide_eq_false (by omega)
  go_enter Try.func6, Try.ntmps6
  go_wp2_with fail
  refine (drawRD_any a len cap w HC.out hl).mono ?_
  rintro e w1 ⟨v, zs, q, rfl, hv, hz, hb1⟩
  have HB1 : Hid (Below w.heap.size w w1) := hb1
  have HV : Hid (RKrow w1 v zs) := hv
  obtain ⟨av, cv, rfl⟩ := hv.sl
  have hl9 : zs.length ≤ 1048576 := by omega
  have HSP : Hid (∀ u, Aft w1 u → Calls Try.prog 21 #[.slice av zs.length cv, .int .i64 q] u fun e w' => ∃ r, e = .returned r ∧ RtAns w' u.heap.size zs q r ∧ Below u.heap.size u w') := fun u hu => specRD_any (HV.out.below hu.out) hl9 q
  have HIM : Hid (∀ u, Aft w1 u → Calls Try.prog 22 #[.slice av zs.length cv, .int .i64 q] u fun e w' => ∃ r, e = .returned r ∧ RtAns w' u.heap.size zs q r ∧ Below u.heap.size u w') := fun u hu => implRD_any (HV.out.below hu.out) hl9 q
  have HIA : Hid (∀ u, Aft w1 u → Calls Try.prog 23 #[.slice av zs.length cv] u fun e w' => e = .returned (.bool (adB zs)) ∧ Below u.heap.size u w') := fun u hu => implAdmit_any (HV.out.below hu.out) hl9
  have HSA : Hid (∀ u, Aft w1 u → Calls Try.prog 24 #[.slice av zs.length cv] u fun e w' => e = .returned (.bool (adB zs)) ∧ Below u.heap.size u w') := fun u hu => specAdmit_any (HV.out.below hu.out)
  have HSL : Hid ((rtS zs q).length ≤ 1048576) := Nat.le_trans (dS_len zs q) (by omega)
  have HDL : Hid (rtC zs q = 0 → adB zs = true → DL zs q (rtS zs q) (rtM zs q)) := dl_facts
  have HAN : Hid (∀ (w : World) (B : Nat) (r : Value), RtAns w B zs q r → ∃ sa ca ma cm, r = .agg #[.int .i64 (rtC zs q), .slice sa (rtS zs q).length ca, .slice ma (rtM zs q).length cm] ∧ Irow w (.slice sa (rtS zs q).length ca) (rtS zs q) ∧ Irow w (.slice ma (rtM zs q).length cm) (rtM zs q)) := (by
    intro w B r h
    obtain ⟨sv, mv, rfl, h1, h2, _⟩ := h
    obtain ⟨sa, ca, rfl⟩ := own_sl8 h1
    obtain ⟨ma, cm, rfl⟩ := own_sl8 h2
    exact ⟨sa, ca, ma, cm, rfl, Irow.of h1, Irow.of h2⟩)
  generalize rtS zs q = S at *
  generalize rtM zs q = M at *
  generalize rtC zs q = C at *
  generalize adB zs = A at *
  have hcc : (C != C) = false := by simp
  have haa : (A != A) = false := by simp
  clear hv hb1 HC
  go_wp2_with fail
  refine Calls.mono (HSP.out _ ⟨Below.refl _ _⟩) ?_
  rintro e w2 ⟨r, rfl, hr, hu⟩
  obtain ⟨sa, ca, ma, cm, rfl, hs, _⟩ := HAN.out _ _ _ hr
  have HL3 : Hid (LG w1 (w2.alloc (.cells #[.int .i64 C, .slice sa S.length ca, .slice ma M.length cm] 45)) w2.heap.size #[.int .i64 C, .slice sa S.length ca, .slice ma M.length cm] 45) := ⟨hu.alloc hu.size _, heap_new _ _, hu.size⟩
  have HS3 : Hid (Irow (w2.alloc (.cells #[.int .i64 C, .slice sa S.length ca, .slice ma M.length cm] 45)) (.slice sa S.length ca) S) := hs.below (bx1 _ _)
  clear hu hr hs
  go_wp2_with fail
  generalize (w2.alloc (.cells #[.int .i64 C, .slice sa S.length ca, .slice ma M.length cm] 45)) = w3 at *
  generalize w2.heap.size = b5 at *
  refine Calls.mono (HIM.out _ HL3.out.aft) ?_
  rintro e w4 ⟨r, rfl, hr, hu⟩
  obtain ⟨sb, cb, mb, cn, rfl, hs, hm⟩ := HAN.out _ _ _ hr
  have hu2 : Below w3.heap.size w3 (w4.alloc (.cells #[.int .i64 C, .slice sb S.length cb, .slice mb M.length cn] 45)) := hu.alloc hu.size _
  have HL5 : Hid (LG w1 (w4.alloc (.cells #[.int .i64 C, .slice sb S.length cb, .slice mb M.length cn] 45)) b5 #[.int .i64 C, .slice sa S.length ca, .slice ma M.length cm] 45) := HL3.out.step hu2
  have HL6 : Hid (LG w1 (w4.alloc (.cells #[.int .i64 C, .slice sb S.length cb, .slice mb M.length cn] 45)) w4.heap.size #[.int .i64 C, .slice sb S.length cb, .slice mb M.length cn] 45) := ⟨HL5.out.bel, heap_new _ _, Nat.le_trans HL3.out.bel.size hu.size⟩
  have HS5 : Hid (Irow (w4.alloc (.cells #[.int .i64 C, .slice sb S.length cb, .slice mb M.length cn] 45)) (.slice sa S.length ca) S) := HS3.out.below hu2
  have HS6 : Hid (Irow (w4.alloc (.cells #[.int .i64 C, .slice sb S.length cb, .slice mb M.length cn] 45)) (.slice sb S.length cb) S) := hs.below (bx1 _ _)
  have HM6 : Hid (Irow (w4.alloc (.cells #[.int .i64 C, .slice sb S.length cb, .slice mb M.length cn] 45)) (.slice mb M.length cn) M) := hm.below (bx1 _ _)
  clear hu hr hs hm hu2 HL3 HS3 HSP HIM HAN
  have x0 := HL5.out.cel 0 _ rfl
  have x1 := HL5.out.cel 1 _ rfl
  have xl := HL5.out.lt
  have y0 := HL6.out.cel 0 _ rfl
  have y1 := HL6.out.cel 1 _ rfl
  have yl := HL6.out.lt
  go_wp2_with fail
  generalize (w4.alloc (.cells #[.int .i64 C, .slice sb S.length cb, .slice mb M.length cn] 45)) = w5 at *
  generalize w4.heap.size = b6 at *
  refine Calls.mono (lwInts_ok HS6.out HS5.out HSL.out) ?_
  rintro e w6 ⟨rfl, hu⟩
  have HLa : Hid (LG w1 w6 b6 #[.int .i64 C, .slice sb S.length cb, .slice mb M.length cn] 45) := HL6.out.step hu
  have HSa : Hid (Irow w6 (.slice sb S.length cb) S) := HS6.out.below hu
  have HMa : Hid (Irow w6 (.slice mb M.length cn) M) := HM6.out.below hu
  clear hu HL5 HL6 HS5 HS6 HM6 x0 x1 xl y0 y1 yl
  go_wp2_with fail
  refine Calls.mono (HIA.out _ HLa.out.aft) ?_
  rintro e w7 ⟨rfl, hu⟩
  have HLb : Hid (LG w1 w7 b6 #[.int .i64 C, .slice sb S.length cb, .slice mb M.length cn] 45) := HLa.out.step hu
  have HSb : Hid (Irow w7 (.slice sb S.length cb) S) := HSa.out.below hu
  have HMb : Hid (Irow w7 (.slice mb M.length cn) M) := HMa.out.below hu
  clear hu HLa HSa HMa
  go_wp2_with fail
  refine Calls.mono (HSA.out _ HLb.out.aft) ?_
  rintro e w8 ⟨rfl, hu⟩
  have HLc : Hid (LG w1 w8 b6 #[.int .i64 C, .slice sb S.length cb, .slice mb M.length cn] 45) := HLb.out.step hu
  have HSc : Hid (Irow w8 (.slice sb S.length cb) S) := HSb.out.below hu
  have HMc : Hid (Irow w8 (.slice mb M.length cn) M) := HMb.out.below hu
  clear hu HLb HSb HMb
  have y0 := HLc.out.cel 0 _ rfl
  have yl := HLc.out.lt
  by_cases hC : C = 0
  rotate_left
  · have hC2 : (C != 0) = true := by simpa using hC
    go_wp2
    go_ret
    exact ⟨rfl, HB1.out.trans (HLc.out.bel.mono HB1.out.size)⟩
  have hC2 : (C != 0) = false := by rw [hC]; rfl
  go_wp2_with fail
  refine Calls.mono (HIA.out _ HLc.out.aft) ?_
  rintro e w9 ⟨rfl, hu⟩
  have HLd : Hid (LG w1 w9 b6 #[.int .i64 C, .slice sb S.length cb, .slice mb M.length cn] 45) := HLc.out.step hu
  have HSd : Hid (Irow w9 (.slice sb S.length cb) S) := HSc.out.below hu
  have HMd : Hid (Irow w9 (.slice mb M.length cn) M) := HMc.out.below hu
  clear hu HLc HSc HMc y0 yl
  cases A
  · go_wp2
    go_ret
    exact ⟨rfl, HB1.out.trans (HLd.out.bel.mono HB1.out.size)⟩
  have HD : Hid (DL zs q S M) := HDL.out hC rfl
  have HZ : Hid (RKrow w9 (.slice av zs.length cv) zs) := HV.out.below HLd.out.bel
  have hml : ((M.length : Int) != (zs.length : Int)) = false := by rw [HD.out.ml]; simp
  have z2 := HLd.out.cel 2 _ rfl
  have zl := HLd.out.lt
  clear HDL HIA HSA HV hC hC2
  go_wp2
  clear z2 zl
  go_loopw [7] (fun i wr => ∃ k : Nat, k ≤ zs.length ∧ i = .int .i64 k ∧ Below w9.heap.size w9 wr) (fun i _ => zs.length - (intOf i).toNat)
  case atStart => exact ⟨0, Nat.zero_le _, rfl, by first | exact Below.refl _ _ | exact bdn (Below.refl _ _) _⟩
  case round =>
    obtain ⟨k, hk, rfl, hb⟩ := hrel
    have HB : Hid (Below w9.heap.size w9 wr) := hb
    clear hb
    by_cases hlt : k < zs.length
    · have hlm : k < M.length := by rw [HD.out.ml]; exact hlt
      obtain ⟨g, o, cap2, hv, _, hg, hc⟩ := HZ.out.resolve_left (fun h => by rw [h.1] at hlt; simp at hlt)
      injection hv with hv1 hv2 hv3
      subst hv1 hv3
      obtain ⟨gm, om, cap3, hv', _, hgm, hcm⟩ := HMd.out.resolve_left (fun h => by rw [h.1] at hlm; simp at hlm)
      injection hv' with hv1' hv2' hv3'
      subst hv1' hv3'
      have HCK : Hid _ := fun (u : World) (hu : Below w9.heap.size w9 u) => hc.below hu hg k hlt
      have hzk := rkB_yes (HD.out.ok zs[k] (List.getElem_mem hlt))
      have HCT : Hid _ := HD.out.ct k hlt
      have dm := (HB.out.cell (p := ⟨gm, om + k, none⟩) hgm).trans (hcm k hlm)
      rw [HD.out.mz k hlm] at dm
      obtain ⟨d0, d1, d2⟩ := HCK.out wr HB.out
      have hgw : g < wr.heap.size := Nat.lt_of_lt_of_le hg HB.out.size
      have hgmw : gm < wr.heap.size := Nat.lt_of_lt_of_le hgm HB.out.size
      have HLw : Hid (LG w1 wr b6 #[.int .i64 C, .slice sb S.length cb, .slice (some ⟨gm, om, none⟩) M.length cn] 45) := HLd.out.step HB.out
      have y2 := HLw.out.cel 2 _ rfl
      have yl := HLw.out.lt
      have hk0 : (0 : Int) ≤ (k : Int) := by omega
      have hk1 : (k : Int) < (zs.length : Int) := by omega
      have hk2 : (k : Int) < (M.length : Int) := by omega
      have hq0 := HD.out.q0
      have hq1 := HD.out.q1
      clear hc hcm hv2 hv2' HLw
      generalize zs[k] = z at *
      obtain ⟨fs, hfs⟩ : ∃ n : Nat, z.start = n := ⟨z.start.toNat, by omega⟩
      go_wp2
      clear d0 d1 d2 dm y2 yl hgw hgmw
      generalize wr = wa at *
      go_loopw [8] (fun f wr2 => ∃ n : Nat, f = .int .i64 n ∧ rel z.start z.period (n : Int) ∧ n ≤ 1000 ∧ Below w9.heap.size w9 wr2) (fun f _ => 2000 - (intOf f).toNat)
      case atStart => exact ⟨fs, by first | rfl | rw [hfs], by rw [← hfs]; exact rel_s, by omega, by first | exact HB.out | exact bdn HB.out _⟩
      case round =>
        obtain ⟨n, rfl, hrl, hn, hb⟩ := hrel
        have HB2 : Hid (Below w9.heap.size w9 wr) := hb
        clear hb
        obtain ⟨d0, d1, d2⟩ := HCK.out wr HB2.out
        have hgw : g < wr.heap.size := Nat.lt_of_lt_of_le hg HB2.out.size
        have hn0 : (0 : Int) ≤ (n : Int) := by omega
        have hn1 : (n : Int) ≤ 1000 := by omega
        have HRL : Hid (rel z.start z.period (n : Int)) := hrl
        clear hrl
        by_cases hle : (n : Int) + z.period ≤ q
        · go_wp2
          clear d0 d1 d2 hgw
          generalize wr = wb at *
          go_loopw [9, 10] (fun c i wr3 => ∃ m : Nat, (m : Int) ≤ z.period ∧ c = .int .i64 (cntK (zs.map tkOf) k n m) ∧ i = .int .i64 ((n + m : Nat) : Int) ∧ Below w9.heap.size w9 wr3) (fun _ i _ => n + z.period.toNat - (intOf i).toNat)
          case atStart => exact ⟨0, by omega, rfl, by simp, by first | exact HB2.out | exact bdn HB2.out _⟩
          case round =>
            obtain ⟨m, hm, rfl, rfl, hb⟩ := hrel
            have HB3 : Hid (Below w9.heap.size w9 wr) := hb
            clear hb
            obtain ⟨d0, d1, d2⟩ := HCK.out wr HB3.out
            have hgw : g < wr.heap.size := Nat.lt_of_lt_of_le hg HB3.out.size
            have hcb := cntK_b (zs.map tkOf) k n m
            by_cases hlt3 : ((n + m : Nat) : Int) < (n : Int) + z.period
            · have hls : n + m < S.length := by rw [HD.out.sl]; omega
              obtain ⟨gs, os, cap4, hv, _, hgs, hcs⟩ := HSd.out.resolve_left (fun h => by rw [h.1] at hls; simp at hls)
              injection hv with hv1 hv2 hv3
              subst hv1 hv3
              have ds := (HB3.out.cell (p := ⟨gs, os + (n + m), none⟩) hgs).trans (hcs (n + m) hls)
              rw [HD.out.sv (n + m) hls] at ds
              have HCS : Hid (cntK (zs.map tkOf) k n (m + 1) = cntK (zs.map tkOf) k n m + if slK (zs.map tkOf) (n + m) = (k : Int) then 1 else 0) := cntK_s _ _ _ _
              have HLw : Hid (LG w1 wr b6 #[.int .i64 C, .slice (some ⟨gs, os, none⟩) S.length cb, .slice (some ⟨gm, om, none⟩) M.length cn] 45) := HLd.out.step HB3.out
              have y1 := HLw.out.cel 1 _ rfl
              have yl := HLw.out.lt
              have hgsw : gs < wr.heap.size := Nat.lt_of_lt_of_le hgs HB3.out.size
              generalize slK (zs.map tkOf) (n + m) = x at *
              generalize cntK (zs.map tkOf) k n m = c at *
              obtain ⟨t, ht⟩ : ∃ t, n + m = t := ⟨_, rfl⟩
              rw [ht] at ds hls hlt3 ⊢
              have ht0 : (0 : Int) ≤ (t : Int) := by omega
              have ht1 : (t : Int) < (S.length : Int) := by omega
              obtain ⟨hc0, hc1⟩ := hcb
              clear hcs hv2 HLw
              by_cases hx : x = (k : Int)
              · subst hx
                have HC2 : Hid (cntK (zs.map tkOf) k n (m + 1) = c + 1) := (show _ = _ by rw [HCS.out, if_pos rfl])
                go_wp2
                exact ⟨⟨m + 1, by omega, by rw [HC2.out], by simp; omega, by first | exact HB3.out | exact bdn HB3.out _⟩, by simp [intOf]; omega⟩
              · have HC2 : Hid (cntK (zs.map tkOf) k n (m + 1) = c) := (show _ = _ by rw [HCS.out, if_neg hx]; omega)
                have hx2 : (x == (k : Int)) = false := by simpa using hx
                go_wp2
                exact ⟨⟨m + 1, by omega, by rw [HC2.out], by simp; omega, by first | exact HB3.out | exact bdn HB3.out _⟩, by simp [intOf]; omega⟩
            · have hme : m = z.period.toNat := by omega
              have hct : cntK (zs.map tkOf) k n m = z.budget := by rw [hme]; exact HCT.out n HRL.out
              rw [hct]
              have hbb : (z.budget != z.budget) = false := by simp
              have e9 : ((n + z.period.toNat : Nat) : Int) = (n : Int) + z.period := by omega
              have HNX : Hid (rel z.start z.period ((n + z.period.toNat : Nat) : Int)) := (show rel z.start z.period _ by rw [e9]; exact rel_n HRL.out (by omega))
              clear e9
              clear hct
              go_wp2
              exact ⟨⟨n + z.period.toNat, by simp; omega, HNX.out, by omega, by first | exact HB3.out | exact bdn HB3.out _⟩, by simp [intOf]; omega⟩
        · go_wp2
          exact ⟨⟨k + 1, hlt, by go_num, by first | exact HB2.out | exact bdn HB2.out _⟩, by simp [intOf]; omega⟩
    · obtain rfl : k = zs.length := by omega
      go_wp2
      go_ret
      exact ⟨rfl, HB1.out.trans ((HLd.out.step HB.out).bel.mono HB1.out.size)⟩
end Go.Proofs.Ytcglpigmellfcab
