import Derived.Test.YtcglpigmellfcaaVf2
namespace Go.Proofs.Ytcglpigmellfcaa
open Go.ChangeShapes Go.WideShapes Go.ChangeAt Go.RowKit

set_option maxRecDepth 100000 in
set_option maxHeartbeats 4000000 in
theorem specVF_any {w : World} {v : Value} {zs : List VC} (h : VCrow w v zs) (P : Int) :
    Calls Try.prog 10 #[v, .int .i64 P] w fun e w' => e = .returned (.int .i64 (vfV P zs)) ∧ Below w.heap.size w w' := by
  have HR : Hid (VCrow w v zs) := h
  obtain ⟨ao, cap, rfl⟩ := h.sl
  clear h
  cases q0 : decide (P < 1)
  rotate_left
  · have E : Hid (vfV P zs = 1) := (show vfV P zs = 1 by have := of_decide_eq_true q0; have e : decide (1 ≤ P) = false := decide_eq_false (by omega); unfold vfV vfB; rw [e]; rfl)
    go_enter Try.func10, Try.ntmps10
    go_wp2
    go_ret
    exact ⟨ret_int E.out.symm, Below.refl _ _⟩
  cases q1 : decide (8 < P)
  rotate_left
  · have E : Hid (vfV P zs = 1) := (show vfV P zs = 1 by have := of_decide_eq_true q1; have e : decide (P ≤ 8) = false := decide_eq_false (by omega); unfold vfV vfB; rw [e]; simp)
    go_enter Try.func10, Try.ntmps10
    go_wp2
    go_ret
    exact ⟨ret_int E.out.symm, Below.refl _ _⟩
  cases q2 : decide (16 < (zs.length : Int))
  rotate_left
  · have E : Hid (vfV P zs = 1) := (show vfV P zs = 1 by have := of_decide_eq_true q2; have e : decide ((zs.length : Int) ≤ 16) = false := decide_eq_false (by omega); unfold vfV vfB; rw [e]; simp)
    go_enter Try.func10, Try.ntmps10
    go_wp2
    go_ret
    exact ⟨ret_int E.out.symm, Below.refl _ _⟩
  have r0 : 1 ≤ P := by have := of_decide_eq_false q0; omega
  have r1 : P ≤ 8 := by have := of_decide_eq_false q1; omega
  have r2 : zs.length ≤ 16 := by have := of_decide_eq_false q2; omega
  have E : Hid (vfV P zs = if zs.all (vcB P) = true then 0 else 1) := (show vfV P zs = _ by
    have e : vfB P zs = zs.all (vcB P) := by unfold vfB; rw [decide_eq_true r0, decide_eq_true r1, decide_eq_true (show (zs.length : Int) ≤ 16 by omega)]; rfl
    unfold vfV
    rw [e])
  obtain ⟨p1, p2⟩ := lowB_b r0 r1
  obtain ⟨PW, hPW⟩ : ∃ PW : Int, 2 ^ P.toNat = PW := ⟨_, rfl⟩
  have HPL : Hid (lowB P = PW - 1) := (show lowB P = PW - 1 by unfold lowB; rw [hPW])
  have g0 : 2 ≤ PW := by rw [HPL.out] at p1; omega
  have g1 : PW ≤ 256 := by rw [HPL.out] at p2; omega
  have hcv : (P % 18446744073709551616).toNat = P.toNat := by omega
  clear p1 p2
  go_enter Try.func10, Try.ntmps10
  go_wp2
  clear q0 q1 q2
  go_loopw [5] (fun i wr => ∃ k : Nat, k ≤ zs.length ∧ i = .int .i64 k ∧ (zs.take k).all (vcB P) = true ∧ Below w.heap.size w wr) (fun i _ => zs.length - (intOf i).toNat)
  case atStart => exact ⟨0, Nat.zero_le _, rfl, rfl, Below.refl _ _⟩
  case round =>
    obtain ⟨k, hk, rfl, hall, hb⟩ := hrel
    have HB : Hid (Below w.heap.size w wr) := hb
    have HALL : Hid ((zs.take k).all (vcB P) = true) := hall
    clear hb hall
    by_cases hlt : k < zs.length
    · obtain ⟨g, o, cap2, hv, _, hg, hc⟩ := HR.out.resolve_left (fun h => by rw [h.1] at hlt; simp at hlt)
      injection hv with hv1 hv2 hv3
      subst hv1 hv3
      obtain ⟨d0, d1, d2, d3, d4, d5, d6, d7, d8⟩ := hc.below HB.out hg k hlt
      have hgw : g < wr.heap.size := Nat.lt_of_lt_of_le hg HB.out.size
      have HT : Hid ((zs.take (k + 1)).all (vcB P) = ((zs.take k).all (vcB P) && vcB P zs[k])) := all_take hlt
      have HBAD : Hid (vcB P zs[k] = false → zs.all (vcB P) = false) := fun hh => all_bad hlt hh
      generalize zs[k] = z at *
      have hk0 : (0 : Int) ≤ (k : Int) := by omega
      have hk1 : (k : Int) < (zs.length : Int) := by omega
      have HVB : Hid (vcB P z = (gnB z.guest && decide (1 ≤ z.weight) && decide (z.weight ≤ 1000) && decide (1 ≤ z.mask) && decide (z.mask ≤ lowB P) && decide (0 ≤ z.cap) && decide (z.cap ≤ 10) && decide (0 ≤ z.used) && decide (z.used ≤ 10) && decide (-1099511627776 ≤ z.credit) && decide (z.credit ≤ 1099511627776) && scB z.ran && scB z.stolen)) := rfl
      have HLN : Hid (LG w (wr.alloc (.cells #[.int .i64 z.guest, .int .i64 z.weight, .int .i64 z.cap, .int .i64 z.mask, .bool z.awake, .int .i64 z.credit, .int .i64 z.used, .int .i64 z.ran, .int .i64 z.stolen] 60)) wr.heap.size #[.int .i64 z.guest, .int .i64 z.weight, .int .i64 z.cap, .int .i64 z.mask, .bool z.awake, .int .i64 z.credit, .int .i64 z.used, .int .i64 z.ran, .int .i64 z.stolen] 60) := ⟨HB.out.trans ((bx1 wr _).mono HB.out.size), heap_new _ _, HB.out.size⟩
      clear hc
      cases q0 : decide (z.guest < 0)
      rotate_left
      · have E3 : Hid (vcB P z = false) := (show vcB P z = false by rw [HVB.out]; unfold gnB scB; rw [HPL.out]; (try simp only [decide_eq_true_eq] at *); (try simp only [decide_eq_false_iff_not] at *); simp; try omega)
        have E2 : Hid (vfV P zs = 1) := (show vfV P zs = 1 by rw [E.out, HBAD.out E3.out]; rfl)
        clear E3 HBAD HT HVB
        go_wp2
        go_ret
        exact ⟨ret_int E2.out.symm, HLN.out.bel⟩
      cases q1 : decide (99 < z.guest)
      rotate_left
      · have E3 : Hid (vcB P z = false) := (show vcB P z = false by rw [HVB.out]; unfold gnB scB; rw [HPL.out]; (try simp only [decide_eq_true_eq] at *); (try simp only [decide_eq_false_iff_not] at *); simp; try omega)
        have E2 : Hid (vfV P zs = 1) := (show vfV P zs = 1 by rw [E.out, HBAD.out E3.out]; rfl)
        clear E3 HBAD HT HVB
        go_wp2
        go_ret
        exact ⟨ret_int E2.out.symm, HLN.out.bel⟩
      cases q2 : decide (z.weight < 1)
      rotate_left
      · have E3 : Hid (vcB P z = false) := (show vcB P z = false by rw [HVB.out]; unfold gnB scB; rw [HPL.out]; (try simp only [decide_eq_true_eq] at *); (try simp only [decide_eq_false_iff_not] at *); simp; try omega)
        have E2 : Hid (vfV P zs = 1) := (show vfV P zs = 1 by rw [E.out, HBAD.out E3.out]; rfl)
        clear E3 HBAD HT HVB
        go_wp2
        go_ret
        exact ⟨ret_int E2.out.symm, HLN.out.bel⟩
      cases q3 : decide (1000 < z.weight)
      rotate_left
      · have E3 : Hid (vcB P z = false) := (show vcB P z = false by rw [HVB.out]; unfold gnB scB; rw [HPL.out]; (try simp only [decide_eq_true_eq] at *); (try simp only [decide_eq_false_iff_not] at *); simp; try omega)
        have E2 : Hid (vfV P zs = 1) := (show vfV P zs = 1 by rw [E.out, HBAD.out E3.out]; rfl)
        clear E3 HBAD HT HVB
        go_wp2
        go_ret
        exact ⟨ret_int E2.out.symm, HLN.out.bel⟩
      cases q4 : decide (z.cap < 0)
      rotate_left
      · have E3 : Hid (vcB P z = false) := (show vcB P z = false by rw [HVB.out]; unfold gnB scB; rw [HPL.out]; (try simp only [decide_eq_true_eq] at *); (try simp only [decide_eq_false_iff_not] at *); simp; try omega)
        have E2 : Hid (vfV P zs = 1) := (show vfV P zs = 1 by rw [E.out, HBAD.out E3.out]; rfl)
        clear E3 HBAD HT HVB
        go_wp2
        go_ret
        exact ⟨ret_int E2.out.symm, HLN.out.bel⟩
      cases q5 : decide (10 < z.cap)
      rotate_left
      · have E3 : Hid (vcB P z = false) := (show vcB P z = false by rw [HVB.out]; unfold gnB scB; rw [HPL.out]; (try simp only [decide_eq_true_eq] at *); (try simp only [decide_eq_false_iff_not] at *); simp; try omega)
        have E2 : Hid (vfV P zs = 1) := (show vfV P zs = 1 by rw [E.out, HBAD.out E3.out]; rfl)
        clear E3 HBAD HT HVB
        go_wp2
        go_ret
        exact ⟨ret_int E2.out.symm, HLN.out.bel⟩
      cases q6 : decide (z.mask < 1)
      rotate_left
      · have E3 : Hid (vcB P z = false) := (show vcB P z = false by rw [HVB.out]; unfold gnB scB; rw [HPL.out]; (try simp only [decide_eq_true_eq] at *); (try simp only [decide_eq_false_iff_not] at *); simp; try omega)
        have E2 : Hid (vfV P zs = 1) := (show vfV P zs = 1 by rw [E.out, HBAD.out E3.out]; rfl)
        clear E3 HBAD HT HVB
        go_wp2
        go_ret
        exact ⟨ret_int E2.out.symm, HLN.out.bel⟩
      cases q7 : decide (PW ≤ z.mask)
      rotate_left
      · have E3 : Hid (vcB P z = false) := (show vcB P z = false by rw [HVB.out]; unfold gnB scB; rw [HPL.out]; (try simp only [decide_eq_true_eq] at *); (try simp only [decide_eq_false_iff_not] at *); simp; try omega)
        have E2 : Hid (vfV P zs = 1) := (show vfV P zs = 1 by rw [E.out, HBAD.out E3.out]; rfl)
        clear E3 HBAD HT HVB
        go_wp2
        go_ret
        exact ⟨ret_int E2.out.symm, HLN.out.bel⟩
      cases q8 : decide (z.credit < -1099511627776)
      rotate_left
      · have E3 : Hid (vcB P z = false) := (show vcB P z = false by rw [HVB.out]; unfold gnB scB; rw [HPL.out]; (try simp only [decide_eq_true_eq] at *); (try simp only [decide_eq_false_iff_not] at *); simp; try omega)
        have E2 : Hid (vfV P zs = 1) := (show vfV P zs = 1 by rw [E.out, HBAD.out E3.out]; rfl)
        clear E3 HBAD HT HVB
        go_wp2
        go_ret
        exact ⟨ret_int E2.out.symm, HLN.out.bel⟩
      cases q9 : decide (1099511627776 < z.credit)
      rotate_left
      · have E3 : Hid (vcB P z = false) := (show vcB P z = false by rw [HVB.out]; unfold gnB scB; rw [HPL.out]; (try simp only [decide_eq_true_eq] at *); (try simp only [decide_eq_false_iff_not] at *); simp; try omega)
        have E2 : Hid (vfV P zs = 1) := (show vfV P zs = 1 by rw [E.out, HBAD.out E3.out]; rfl)
        clear E3 HBAD HT HVB
        go_wp2
        go_ret
        exact ⟨ret_int E2.out.symm, HLN.out.bel⟩
      cases q10 : decide (z.used < 0)
      rotate_left
      · have E3 : Hid (vcB P z = false) := (show vcB P z = false by rw [HVB.out]; unfold gnB scB; rw [HPL.out]; (try simp only [decide_eq_true_eq] at *); (try simp only [decide_eq_false_iff_not] at *); simp; try omega)
        have E2 : Hid (vfV P zs = 1) := (show vfV P zs = 1 by rw [E.out, HBAD.out E3.out]; rfl)
        clear E3 HBAD HT HVB
        go_wp2
        go_ret
        exact ⟨ret_int E2.out.symm, HLN.out.bel⟩
      cases q11 : decide (10 < z.used)
      rotate_left
      · have E3 : Hid (vcB P z = false) := (show vcB P z = false by rw [HVB.out]; unfold gnB scB; rw [HPL.out]; (try simp only [decide_eq_true_eq] at *); (try simp only [decide_eq_false_iff_not] at *); simp; try omega)
        have E2 : Hid (vfV P zs = 1) := (show vfV P zs = 1 by rw [E.out, HBAD.out E3.out]; rfl)
        clear E3 HBAD HT HVB
        go_wp2
        go_ret
        exact ⟨ret_int E2.out.symm, HLN.out.bel⟩
      cases q12 : decide (z.ran < 0)
      rotate_left
      · have E3 : Hid (vcB P z = false) := (show vcB P z = false by rw [HVB.out]; unfold gnB scB; rw [HPL.out]; (try simp only [decide_eq_true_eq] at *); (try simp only [decide_eq_false_iff_not] at *); simp; try omega)
        have E2 : Hid (vfV P zs = 1) := (show vfV P zs = 1 by rw [E.out, HBAD.out E3.out]; rfl)
        clear E3 HBAD HT HVB
        go_wp2
        go_ret
        exact ⟨ret_int E2.out.symm, HLN.out.bel⟩
      cases q13 : decide (1099511627776 < z.ran)
      rotate_left
      · have E3 : Hid (vcB P z = false) := (show vcB P z = false by rw [HVB.out]; unfold gnB scB; rw [HPL.out]; (try simp only [decide_eq_true_eq] at *); (try simp only [decide_eq_false_iff_not] at *); simp; try omega)
        have E2 : Hid (vfV P zs = 1) := (show vfV P zs = 1 by rw [E.out, HBAD.out E3.out]; rfl)
        clear E3 HBAD HT HVB
        go_wp2
        go_ret
        exact ⟨ret_int E2.out.symm, HLN.out.bel⟩
      cases q14 : decide (z.stolen < 0)
      rotate_left
      · have E3 : Hid (vcB P z = false) := (show vcB P z = false by rw [HVB.out]; unfold gnB scB; rw [HPL.out]; (try simp only [decide_eq_true_eq] at *); (try simp only [decide_eq_false_iff_not] at *); simp; try omega)
        have E2 : Hid (vfV P zs = 1) := (show vfV P zs = 1 by rw [E.out, HBAD.out E3.out]; rfl)
        clear E3 HBAD HT HVB
        go_wp2
        go_ret
        exact ⟨ret_int E2.out.symm, HLN.out.bel⟩
      cases q15 : decide (1099511627776 < z.stolen)
      rotate_left
      · have E3 : Hid (vcB P z = false) := (show vcB P z = false by rw [HVB.out]; unfold gnB scB; rw [HPL.out]; (try simp only [decide_eq_true_eq] at *); (try simp only [decide_eq_false_iff_not] at *); simp; try omega)
        have E2 : Hid (vfV P zs = 1) := (show vfV P zs = 1 by rw [E.out, HBAD.out E3.out]; rfl)
        clear E3 HBAD HT HVB
        go_wp2
        go_ret
        exact ⟨ret_int E2.out.symm, HLN.out.bel⟩
      have E3 : Hid (vcB P z = true) := (show vcB P z = true by rw [HVB.out]; unfold gnB scB; rw [HPL.out]; (try simp only [decide_eq_false_iff_not] at *); simp; try omega)
      have HT2 : Hid ((zs.take (k + 1)).all (vcB P) = true) := (show (zs.take (k + 1)).all (vcB P) = true by rw [HT.out, HALL.out, E3.out]; rfl)
      clear E3 HBAD HT HVB
      go_wp2
      exact ⟨⟨k + 1, hlt, by go_num, HT2.out, HLN.out.bel⟩, by simp [intOf]; omega⟩
    · obtain rfl : k = zs.length := by omega
      have E2 : Hid (vfV P zs = 0) := (show vfV P zs = 0 by
        have := HALL.out
        rw [List.take_length] at this
        rw [E.out, this]
        rfl)
      go_wp2
      go_ret
      exact ⟨ret_int E2.out.symm, HB.out⟩
end Go.Proofs.Ytcglpigmellfcaa
