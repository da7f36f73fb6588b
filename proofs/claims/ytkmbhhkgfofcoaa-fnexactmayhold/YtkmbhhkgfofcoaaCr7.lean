import Derived.Test.YtkmbhhkgfofcoaaCr6
import Derived.Test.YtkmbhhkgfofcoaaCkS
import Derived.Deep.RegionWith
import Derived.BigQuiet
namespace Go.Proofs.Ytkmbhhkgfofcoaa
open Go.ChangeShapes Go.WideShapes Go.ChangeAt Go.RowKit

theorem rkB_0 {xs : List ByteArray} (h : 0 < xs.length) : rkB xs 0 = nmB xs[0] := by simp [rkB, List.getD, List.getElem?_eq_getElem h]
theorem rkB_s {xs : List ByteArray} {k : Nat} (h : k + 1 < xs.length) : rkB xs (k + 1) = (nmB xs[k + 1] && tlt xs[k] xs[k + 1]) := by
  simp [rkB, List.getD, List.getElem?_eq_getElem h, List.getElem?_eq_getElem (show k < xs.length by omega)]
set_option maxRecDepth 100000 in
set_option maxHeartbeats 4000000 in
theorem areRisingS_any {w : World} {v : Value} {xs : List ByteArray} (h : Srow w v xs) (hl : xs.length ≤ 1048576) : Calls Try.prog 70 #[v, .func (.func 54) #[] #[]] w fun e w' => e = .returned (.bool (rsB xs)) ∧ Below w.heap.size w w' := by
  obtain ⟨ao, cap, rfl⟩ := h.sl
  have HR : Hid (Srow w (.slice ao xs.length cap) xs) := h
  clear h
  have hcf : ∀ (xs : Array Value) (w' : World), (callFunc 54 xs).run Try.prog w' = .ok (.enter 54 xs) w' := by
    intro xs w'
    kernel_rfl
  have E : Hid (rsB xs = allD (rkB xs) xs.length) := rfl
  generalize rsB xs = V at *
  go_enter Try.func70, Try.ntmps70
  go_wp2
  go_loopw [9] (fun i wr => ∃ k : Nat, k ≤ xs.length ∧ i = .int .i64 k ∧ allD (rkB xs) k = true ∧ Below w.heap.size w wr) (fun i _ => xs.length - (intOf i).toNat)
  case atStart => exact ⟨0, Nat.zero_le _, rfl, rfl, Below.refl _ _⟩
  case round =>
    obtain ⟨k, hk, rfl, hok, hb⟩ := hrel
    have HALL : Hid (allD (rkB xs) k = true) := hok
    have HB : Hid (Below w.heap.size w wr) := hb
    clear hok hb
    by_cases hlt : k < xs.length
    · obtain ⟨g, o, cap2, hv, _, hg, hc⟩ := HR.out.resolve_left (fun h => by rw [h.1] at hlt; simp at hlt)
      injection hv with hv1 hv2 hv3
      subst hv1 hv3
      have hgw : g < wr.heap.size := Nat.lt_of_lt_of_le hg HB.out.size
      have hk0 : (0 : Int) ≤ (k : Int) := by omega
      have hk1 : (k : Int) < (xs.length : Int) := by omega
      have HS : Hid (allD (rkB xs) (k + 1) = (allD (rkB xs) k && rkB xs k)) := allD_succ _ _
      have HBAD : Hid (rkB xs k = false → V = false) := fun hh => by rw [E.out, allD_bad hlt hh]
      match k, hlt, hk, hk0, hk1, HALL, HS, HBAD with
      | 0, hlt, hk, hk0, hk1, HALL, HS, HBAD =>
        have d0 := hc.below HB.out hg 0 hlt
        simp only [Nat.add_zero] at d0
        have HEK : Hid (rkB xs 0 = nmB xs[0]) := rkB_0 hlt
        have hj4 : decide ((0 : Int) < ((0 : Nat) : Int)) = false := rfl
        generalize xs[0] = z at *
        have HNM : Hid (∀ u, Calls Try.prog 54 #[.string z] u fun e w' => e = .returned (.bool (nmB z)) ∧ w' = u) := fun u => isImageName_any z u
        generalize nmB z = NM at *
        clear hc E HR
        cases NM
        · skip
          have E2 : Hid (V = false) := HBAD.out (HEK.out.trans (by simp))
          clear HS HBAD HEK HALL
          go_wp2_with fail
          refine Calls.mono (HNM.out _) ?_
          rintro e u1 ⟨rfl, rfl⟩
          clear HNM
          go_wp2
          go_ret
          exact ⟨ret_bool E2.out.symm, HB.out⟩
        · skip
          have E2 : Hid (allD (rkB xs) (1) = true) := (show allD (rkB xs) (0 + 1) = true by rw [HS.out, HALL.out, HEK.out]; rfl)
          clear HS HBAD HEK HALL
          go_wp2_with fail
          refine Calls.mono (HNM.out _) ?_
          rintro e u1 ⟨rfl, rfl⟩
          clear HNM
          go_wp2
          exact ⟨⟨1, hlt, by go_num, E2.out, HB.out⟩, by simp [intOf]; omega⟩
      | j + 1, hlt, hk, hk0, hk1, HALL, HS, HBAD =>
        have d0 := hc.below HB.out hg (j + 1) hlt
        have y0 := hc.below HB.out hg j (by omega)
        have HEK : Hid (rkB xs (j + 1) = (nmB xs[j + 1] && tlt xs[j] xs[j + 1])) := rkB_s hlt
        generalize xs[j] = y at *
        have hj1 : ((j + 1 : Nat) : Int) - 1 = (j : Int) := by omega
        have hj2 : (j : Int) < (xs.length : Int) := by omega
        have hj3 : (0 : Int) ≤ (j : Int) := by omega
        have hj4 : decide ((0 : Int) < ((j + 1 : Nat) : Int)) = true := decide_eq_true (by omega)
        have hj5 : IntKind.i64.wrap (j : Int) = (j : Int) := by rw [IntKind.wrap_i64]; omega
        generalize xs[j + 1] = z at *
        have HNM : Hid (∀ u, Calls Try.prog 54 #[.string z] u fun e w' => e = .returned (.bool (nmB z)) ∧ w' = u) := fun u => isImageName_any z u
        generalize nmB z = NM at *
        have HTL : Hid ((Op.bytesLess z.toList y.toList || z.toList == y.toList) = !tlt y z) := bl_tri y.toList z.toList
        generalize tlt y z = TL at *
        clear hc E HR
        cases NM
        · skip
          have E2 : Hid (V = false) := HBAD.out (HEK.out.trans (by simp))
          clear HS HBAD HEK HALL
          go_wp2_with fail
          refine Calls.mono (HNM.out _) ?_
          rintro e u1 ⟨rfl, rfl⟩
          clear HNM
          go_wp2
          go_ret
          exact ⟨ret_bool E2.out.symm, HB.out⟩
        · cases TL
          · have ht : (Op.bytesLess z.toList y.toList || z.toList == y.toList) = true := HTL.out
            have E2 : Hid (V = false) := HBAD.out (HEK.out.trans (by simp))
            clear HS HBAD HEK HALL
            go_wp2_with fail
            refine Calls.mono (HNM.out _) ?_
            rintro e u1 ⟨rfl, rfl⟩
            clear HNM
            go_wp2
            go_ret
            exact ⟨ret_bool E2.out.symm, HB.out⟩
          · obtain ⟨ht1, ht2⟩ : Op.bytesLess z.toList y.toList = false ∧ (z.toList == y.toList) = false := by
              have h9 := HTL.out
              rw [Bool.not_true, Bool.or_eq_false_iff] at h9
              exact h9
            have E2 : Hid (allD (rkB xs) (j + 1 + 1) = true) := (show allD (rkB xs) (j + 1 + 1) = true by rw [HS.out, HALL.out, HEK.out]; rfl)
            clear HS HBAD HEK HALL
            go_wp2_with fail
            refine Calls.mono (HNM.out _) ?_
            rintro e u1 ⟨rfl, rfl⟩
            clear HNM
            go_wp2
            exact ⟨⟨j + 1 + 1, hlt, by go_num, E2.out, HB.out⟩, by simp [intOf]; omega⟩
    · obtain rfl : k = xs.length := by omega
      have hnl : ¬ ((xs.length : Nat) : Int) < (xs.length : Int) := by omega
      have E2 : Hid (V = true) := (show V = true by rw [E.out, HALL.out])
      clear E HALL
      go_wp2
      go_ret
      exact ⟨ret_bool E2.out.symm, HB.out⟩
def bdB (s : CL) : Bool := decide ((s.nodes.length : Int) ≤ 12) && lnB s && ovB s
set_option maxRecDepth 100000 in
set_option maxHeartbeats 4000000 in
theorem isBounded_any {w : World} {b : Nat} {s : CL} {a : CA} (h : CX w b s a) (hl : CLlen s) : Calls Try.prog 43 #[.pointer (some ⟨b, 0, none⟩)] w fun e w' => e = .returned (.bool (bdB s)) ∧ w' = w := by
  obtain ⟨an, kn, av, kv, ae, ke, e⟩ := h.rows.sl
  have k0 := h.cel 0 a.vnodes rfl
  have k1 := h.cel 1 a.vvms rfl
  have k2 := h.cel 2 a.vtenants rfl
  have k3 := h.cel 3 (.int .i64 s.over) rfl
  have k4 := h.cel 4 (.int .i64 s.time) rfl
  have kl := h.lt
  have l0 : s.nodes.length ≤ 1048576 := hl.lnodes.1
  have l1 : s.vms.length ≤ 1048576 := hl.lvms.1
  have l2 : s.tenants.length ≤ 1048576 := hl.ltenants
  clear h hl
  subst e
  simp only at k0 k1 k2
  have E : Hid (bdB s = (decide ((s.nodes.length : Int) ≤ 12) && (decide ((s.vms.length : Int) ≤ 30) && decide (1 ≤ (s.tenants.length : Int)) && decide ((s.tenants.length : Int) ≤ 8)) && (decide (100 ≤ s.over) && decide (s.over ≤ 400) && decide (0 ≤ s.time) && decide (s.time ≤ 1099511627776)))) := rfl
  generalize bdB s = V at *
  cases q0 : decide (12 < (s.nodes.length : Int))
  · skip
    cases q1 : decide (30 < (s.vms.length : Int))
    · skip
      cases q2 : decide ((s.tenants.length : Int) < 1)
      · skip
        cases q3 : decide (8 < (s.tenants.length : Int))
        · skip
          cases q4 : decide (100 ≤ s.over)
          · skip
            have E2 : Hid (V = false) := (show V = false by rw [E.out]; have r0 := of_decide_eq_false q0; have r1 := of_decide_eq_false q1; have r2 := of_decide_eq_false q2; have r3 := of_decide_eq_false q3; have r4 := of_decide_eq_false q4; simp; try omega)
            clear E
            go_enter Try.func43, Try.ntmps43
            go_wp2
            go_ret
            exact ⟨ret_bool E2.out.symm, rfl⟩
          · skip
            cases q5 : decide (s.over ≤ 400)
            · skip
              have E2 : Hid (V = false) := (show V = false by rw [E.out]; have r0 := of_decide_eq_false q0; have r1 := of_decide_eq_false q1; have r2 := of_decide_eq_false q2; have r3 := of_decide_eq_false q3; have r4 := of_decide_eq_true q4; have r5 := of_decide_eq_false q5; simp; try omega)
              clear E
              go_enter Try.func43, Try.ntmps43
              go_wp2
              go_ret
              exact ⟨ret_bool E2.out.symm, rfl⟩
            · skip
              cases q6 : decide (0 ≤ s.time)
              · skip
                have E2 : Hid (V = false) := (show V = false by rw [E.out]; have r0 := of_decide_eq_false q0; have r1 := of_decide_eq_false q1; have r2 := of_decide_eq_false q2; have r3 := of_decide_eq_false q3; have r4 := of_decide_eq_true q4; have r5 := of_decide_eq_true q5; have r6 := of_decide_eq_false q6; simp; try omega)
                clear E
                go_enter Try.func43, Try.ntmps43
                go_wp2
                go_ret
                exact ⟨ret_bool E2.out.symm, rfl⟩
              · skip
                cases q7 : decide (s.time ≤ 1099511627776)
                · skip
                  have E2 : Hid (V = false) := (show V = false by rw [E.out]; have r0 := of_decide_eq_false q0; have r1 := of_decide_eq_false q1; have r2 := of_decide_eq_false q2; have r3 := of_decide_eq_false q3; have r4 := of_decide_eq_true q4; have r5 := of_decide_eq_true q5; have r6 := of_decide_eq_true q6; have r7 := of_decide_eq_false q7; simp; try omega)
                  clear E
                  go_enter Try.func43, Try.ntmps43
                  go_wp2
                  go_ret
                  exact ⟨ret_bool E2.out.symm, rfl⟩
                · skip
                  have E2 : Hid (V = true) := (show V = true by rw [E.out]; have r0 := of_decide_eq_false q0; have r1 := of_decide_eq_false q1; have r2 := of_decide_eq_false q2; have r3 := of_decide_eq_false q3; have r4 := of_decide_eq_true q4; have r5 := of_decide_eq_true q5; have r6 := of_decide_eq_true q6; have r7 := of_decide_eq_true q7; simp; try omega)
                  clear E
                  go_enter Try.func43, Try.ntmps43
                  go_wp2
                  go_ret
                  exact ⟨ret_bool E2.out.symm, rfl⟩
        · skip
          have E2 : Hid (V = false) := (show V = false by rw [E.out]; have r0 := of_decide_eq_false q0; have r1 := of_decide_eq_false q1; have r2 := of_decide_eq_false q2; have r3 := of_decide_eq_true q3; simp; try omega)
          clear E
          go_enter Try.func43, Try.ntmps43
          go_wp2
          go_ret
          exact ⟨ret_bool E2.out.symm, rfl⟩
      · skip
        have E2 : Hid (V = false) := (show V = false by rw [E.out]; have r0 := of_decide_eq_false q0; have r1 := of_decide_eq_false q1; have r2 := of_decide_eq_true q2; simp; try omega)
        clear E
        go_enter Try.func43, Try.ntmps43
        go_wp2
        go_ret
        exact ⟨ret_bool E2.out.symm, rfl⟩
    · skip
      have E2 : Hid (V = false) := (show V = false by rw [E.out]; have r0 := of_decide_eq_false q0; have r1 := of_decide_eq_true q1; simp; try omega)
      clear E
      go_enter Try.func43, Try.ntmps43
      go_wp2
      go_ret
      exact ⟨ret_bool E2.out.symm, rfl⟩
  · skip
    have E2 : Hid (V = false) := (show V = false by rw [E.out]; have r0 := of_decide_eq_true q0; simp; try omega)
    clear E
    go_enter Try.func43, Try.ntmps43
    go_wp2
    go_ret
    exact ⟨ret_bool E2.out.symm, rfl⟩
end Go.Proofs.Ytkmbhhkgfofcoaa
