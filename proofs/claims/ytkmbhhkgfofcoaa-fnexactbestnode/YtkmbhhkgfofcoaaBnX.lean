import Derived.Test.YtkmbhhkgfofcoaaCr6
import Derived.Test.YtkmbhhkgfofcoaaCkS
import Derived.Deep.RegionWith
import Derived.BigQuiet
import Derived.Test.YtkmbhhkgfofcoaaCkNOD
import Derived.Deep.QuietTactic
import Derived.BigRegion
import Derived.Test.YtkmbhhkgfofcoaaBytesC
namespace Go.Proofs.Ytkmbhhkgfofcoaa
open Go.ChangeShapes Go.WideShapes Go.ChangeAt Go.RowKit

theorem rkB_0 {xs : List ByteArray} (h : 0 < xs.length) : rkB xs 0 = nmB xs[0] := by simp [rkB, List.getD, List.getElem?_eq_getElem h]
theorem rkB_s {xs : List ByteArray} {k : Nat} (h : k + 1 < xs.length) : rkB xs (k + 1) = (nmB xs[k + 1] && tlt xs[k] xs[k + 1]) := by
  simp [rkB, List.getD, List.getElem?_eq_getElem h, List.getElem?_eq_getElem (show k < xs.length by omega)]
set_option maxRecDepth 100000 in
set_option maxHeartbeats 4000000 in
theorem areRisingS_any {w : World} {v : Value} {xs : List ByteArray} (h : Srow w v xs) (hl : xs.length ≤ 1048576) : Calls Try.prog 70 #[v, .func (.func 54) #[] #[]] w fun e w' => e = .returned (.bool (rsB xs)) ∧ Below w.heap.size w w' := by
  obtain ⟨ao, cap, rfl⟩ := h.sl
  have HR : Hid (Srow w (.slice ao xs.length cap) xs) := h
  clear h
  have hcf : ∀ (xs : Array Value) (w' : World), (callFunc 54 xs).run Try.prog w' = .ok (.enter 54 xs) w' := by
    intro xs w'
    kernel_rfl
  have E : Hid (rsB xs = allD (rkB xs) xs.length) := rfl
  generalize rsB xs = V at *
  go_enter Try.func70, Try.ntmps70
  go_wp2
  go_loopw [9] (fun i wr => ∃ k : Nat, k ≤ xs.length ∧ i = .int .i64 k ∧ allD (rkB xs) k = true ∧ Below w.heap.size w wr) (fun i _ => xs.length - (intOf i).toNat)
  case atStart => exact ⟨0, Nat.zero_le _, rfl, rfl, Below.refl _ _⟩
  case round =>
    obtain ⟨k, hk, rfl, hok, hb⟩ := hrel
    have HALL : Hid (allD (rkB xs) k = true) := hok
    have HB : Hid (Below w.heap.size w wr) := hb
    clear hok hb
    by_cases hlt : k < xs.length
    · obtain ⟨g, o, cap2, hv, _, hg, hc⟩ := HR.out.resolve_left (fun h => by rw [h.1] at hlt; simp at hlt)
      injection hv with hv1 hv2 hv3
      subst hv1 hv3
      have hgw : g < wr.heap.size := Nat.lt_of_lt_of_le hg HB.out.size
      have hk0 : (0 : Int) ≤ (k : Int) := by omega
      have hk1 : (k : Int) < (xs.length : Int) := by omega
      have HS : Hid (allD (rkB xs) (k + 1) = (allD (rkB xs) k && rkB xs k)) := allD_succ _ _
      have HBAD : Hid (rkB xs k = false → V = false) := fun hh => by rw [E.out, allD_bad hlt hh]
      match k, hlt, hk, hk0, hk1, HALL, HS, HBAD with
      | 0, hlt, hk, hk0, hk1, HALL, HS, HBAD =>
        have d0 := hc.below HB.out hg 0 hlt
        simp only [Nat.add_zero] at d0
        have HEK : Hid (rkB xs 0 = nmB xs[0]) := rkB_0 hlt
        have hj4 : decide ((0 : Int) < ((0 : Nat) : Int)) = false := rfl
        generalize xs[0] = z at *
        have HNM : Hid (∀ u, Calls Try.prog 54 #[.string z] u fun e w' => e = .returned (.bool (nmB z)) ∧ w' = u) := fun u => isImageName_any z u
        generalize nmB z = NM at *
        clear hc E HR
        cases NM
        · skip
          have E2 : Hid (V = false) := HBAD.out (HEK.out.trans (by simp))
          clear HS HBAD HEK HALL
          go_wp2_with fail
          refine Calls.mono (HNM.out _) ?_
          rintro e u1 ⟨rfl, rfl⟩
          clear HNM
          go_wp2
          go_ret
          exact ⟨ret_bool E2.out.symm, HB.out⟩
        · skip
          have E2 : Hid (allD (rkB xs) (1) = true) := (show allD (rkB xs) (0 + 1) = true by rw [HS.out, HALL.out, HEK.out]; rfl)
          clear HS HBAD HEK HALL
          go_wp2_with fail
          refine Calls.mono (HNM.out _) ?_
          rintro e u1 ⟨rfl, rfl⟩
          clear HNM
          go_wp2
          exact ⟨⟨1, hlt, by go_num, E2.out, HB.out⟩, by simp [intOf]; omega⟩
      | j + 1, hlt, hk, hk0, hk1, HALL, HS, HBAD =>
        have d0 := hc.below HB.out hg (j + 1) hlt
        have y0 := hc.below HB.out hg j (by omega)
        have HEK : Hid (rkB xs (j + 1) = (nmB xs[j + 1] && tlt xs[j] xs[j + 1])) := rkB_s hlt
        generalize xs[j] = y at *
        have hj1 : ((j + 1 : Nat) : Int) - 1 = (j : Int) := by omega
        have hj2 : (j : Int) < (xs.length : Int) := by omega
        have hj3 : (0 : Int) ≤ (j : Int) := by omega
        have hj4 : decide ((0 : Int) < ((j + 1 : Nat) : Int)) = true := decide_eq_true (by omega)
        have hj5 : IntKind.i64.wrap (j : Int) = (j : Int) := by rw [IntKind.wrap_i64]; omega
        generalize xs[j + 1] = z at *
        have HNM : Hid (∀ u, Calls Try.prog 54 #[.string z] u fun e w' => e = .returned (.bool (nmB z)) ∧ w' = u) := fun u => isImageName_any z u
        generalize nmB z = NM at *
        have HTL : Hid ((Op.bytesLess z.toList y.toList || z.toList == y.toList) = !tlt y z) := bl_tri y.toList z.toList
        generalize tlt y z = TL at *
        clear hc E HR
        cases NM
        · skip
          have E2 : Hid (V = false) := HBAD.out (HEK.out.trans (by simp))
          clear HS HBAD HEK HALL
          go_wp2_with fail
          refine Calls.mono (HNM.out _) ?_
          rintro e u1 ⟨rfl, rfl⟩
          clear HNM
          go_wp2
          go_ret
          exact ⟨ret_bool E2.out.symm, HB.out⟩
        · cases TL
          · have ht : (Op.bytesLess z.toList y.toList || z.toList == y.toList) = true := HTL.out
            have E2 : Hid (V = false) := HBAD.out (HEK.out.trans (by simp))
            clear HS HBAD HEK HALL
            go_wp2_with fail
            refine Calls.mono (HNM.out _) ?_
            rintro e u1 ⟨rfl, rfl⟩
            clear HNM
            go_wp2
            go_ret
            exact ⟨ret_bool E2.out.symm, HB.out⟩
          · obtain ⟨ht1, ht2⟩ : Op.bytesLess z.toList y.toList = false ∧ (z.toList == y.toList) = false := by
              have h9 := HTL.out
              rw [Bool.not_true, Bool.or_eq_false_iff] at h9
              exact h9
            have E2 : Hid (allD (rkB xs) (j + 1 + 1) = true) := (show allD (rkB xs) (j + 1 + 1) = true by rw [HS.out, HALL.out, HEK.out]; rfl)
            clear HS HBAD HEK HALL
            go_wp2_with fail
            refine Calls.mono (HNM.out _) ?_
            rintro e u1 ⟨rfl, rfl⟩
            clear HNM
            go_wp2
            exact ⟨⟨j + 1 + 1, hlt, by go_num, E2.out, HB.out⟩, by simp [intOf]; omega⟩
    · obtain rfl : k = xs.length := by omega
      have hnl : ¬ ((xs.length : Nat) : Int) < (xs.length : Int) := by omega
      have E2 : Hid (V = true) := (show V = true by rw [E.out, HALL.out])
      clear E HALL
      go_wp2
      go_ret
      exact ⟨ret_bool E2.out.symm, HB.out⟩
def bdB (s : CL) : Bool := decide ((s.nodes.length : Int) ≤ 12) && lnB s && ovB s
set_option maxRecDepth 100000 in
set_option maxHeartbeats 4000000 in
theorem isBounded_any {w : World} {b : Nat} {s : CL} {a : CA} (h : CX w b s a) (hl : CLlen s) : Calls Try.prog 43 #[.pointer (some ⟨b, 0, none⟩)] w fun e w' => e = .returned (.bool (bdB s)) ∧ w' = w := by
  obtain ⟨an, kn, av, kv, ae, ke, e⟩ := h.rows.sl
  have k0 := h.cel 0 a.vnodes rfl
  have k1 := h.cel 1 a.vvms rfl
  have k2 := h.cel 2 a.vtenants rfl
  have k3 := h.cel 3 (.int .i64 s.over) rfl
  have k4 := h.cel 4 (.int .i64 s.time) rfl
  have kl := h.lt
  have l0 : s.nodes.length ≤ 1048576 := hl.lnodes.1
  have l1 : s.vms.length ≤ 1048576 := hl.lvms.1
  have l2 : s.tenants.length ≤ 1048576 := hl.ltenants
  clear h hl
  subst e
  simp only at k0 k1 k2
  have E : Hid (bdB s = (decide ((s.nodes.length : Int) ≤ 12) && (decide ((s.vms.length : Int) ≤ 30) && decide (1 ≤ (s.tenants.length : Int)) && decide ((s.tenants.length : Int) ≤ 8)) && (decide (100 ≤ s.over) && decide (s.over ≤ 400) && decide (0 ≤ s.time) && decide (s.time ≤ 1099511627776)))) := rfl
  generalize bdB s = V at *
  cases q0 : decide (12 < (s.nodes.length : Int))
  · skip
    cases q1 : decide (30 < (s.vms.length : Int))
    · skip
      cases q2 : decide ((s.tenants.length : Int) < 1)
      · skip
        cases q3 : decide (8 < (s.tenants.length : Int))
        · skip
          cases q4 : decide (100 ≤ s.over)
          · skip
            have E2 : Hid (V = false) := (show V = false by rw [E.out]; have r0 := of_decide_eq_false q0; have r1 := of_decide_eq_false q1; have r2 := of_decide_eq_false q2; have r3 := of_decide_eq_false q3; have r4 := of_decide_eq_false q4; simp; try omega)
            clear E
            go_enter Try.func43, Try.ntmps43
            go_wp2
            go_ret
            exact ⟨ret_bool E2.out.symm, rfl⟩
          · skip
            cases q5 : decide (s.over ≤ 400)
            · skip
              have E2 : Hid (V = false) := (show V = false by rw [E.out]; have r0 := of_decide_eq_false q0; have r1 := of_decide_eq_false q1; have r2 := of_decide_eq_false q2; have r3 := of_decide_eq_false q3; have r4 := of_decide_eq_true q4; have r5 := of_decide_eq_false q5; simp; try omega)
              clear E
              go_enter Try.func43, Try.ntmps43
              go_wp2
              go_ret
              exact ⟨ret_bool E2.out.symm, rfl⟩
            · skip
              cases q6 : decide (0 ≤ s.time)
              · skip
                have E2 : Hid (V = false) := (show V = false by rw [E.out]; have r0 := of_decide_eq_false q0; have r1 := of_decide_eq_false q1; have r2 := of_decide_eq_false q2; have r3 := of_decide_eq_false q3; have r4 := of_decide_eq_true q4; have r5 := of_decide_eq_true q5; have r6 := of_decide_eq_false q6; simp; try omega)
                clear E
                go_enter Try.func43, Try.ntmps43
                go_wp2
                go_ret
                exact ⟨ret_bool E2.out.symm, rfl⟩
              · skip
                cases q7 : decide (s.time ≤ 1099511627776)
                · skip
                  have E2 : Hid (V = false) := (show V = false by rw [E.out]; have r0 := of_decide_eq_false q0; have r1 := of_decide_eq_false q1; have r2 := of_decide_eq_false q2; have r3 := of_decide_eq_false q3; have r4 := of_decide_eq_true q4; have r5 := of_decide_eq_true q5; have r6 := of_decide_eq_true q6; have r7 := of_decide_eq_false q7; simp; try omega)
                  clear E
                  go_enter Try.func43, Try.ntmps43
                  go_wp2
                  go_ret
                  exact ⟨ret_bool E2.out.symm, rfl⟩
                · skip
                  have E2 : Hid (V = true) := (show V = true by rw [E.out]; have r0 := of_decide_eq_false q0; have r1 := of_decide_eq_false q1; have r2 := of_decide_eq_false q2; have r3 := of_decide_eq_false q3; have r4 := of_decide_eq_true q4; have r5 := of_decide_eq_true q5; have r6 := of_decide_eq_true q6; have r7 := of_decide_eq_true q7; simp; try omega)
                  clear E
                  go_enter Try.func43, Try.ntmps43
                  go_wp2
                  go_ret
                  exact ⟨ret_bool E2.out.symm, rfl⟩
        · skip
          have E2 : Hid (V = false) := (show V = false by rw [E.out]; have r0 := of_decide_eq_false q0; have r1 := of_decide_eq_false q1; have r2 := of_decide_eq_false q2; have r3 := of_decide_eq_true q3; simp; try omega)
          clear E
          go_enter Try.func43, Try.ntmps43
          go_wp2
          go_ret
          exact ⟨ret_bool E2.out.symm, rfl⟩
      · skip
        have E2 : Hid (V = false) := (show V = false by rw [E.out]; have r0 := of_decide_eq_false q0; have r1 := of_decide_eq_false q1; have r2 := of_decide_eq_true q2; simp; try omega)
        clear E
        go_enter Try.func43, Try.ntmps43
        go_wp2
        go_ret
        exact ⟨ret_bool E2.out.symm, rfl⟩
    · skip
      have E2 : Hid (V = false) := (show V = false by rw [E.out]; have r0 := of_decide_eq_false q0; have r1 := of_decide_eq_true q1; simp; try omega)
      clear E
      go_enter Try.func43, Try.ntmps43
      go_wp2
      go_ret
      exact ⟨ret_bool E2.out.symm, rfl⟩
  · skip
    have E2 : Hid (V = false) := (show V = false by rw [E.out]; have r0 := of_decide_eq_true q0; simp; try omega)
    clear E
    go_enter Try.func43, Try.ntmps43
    go_wp2
    go_ret
    exact ⟨ret_bool E2.out.symm, rfl⟩

theorem own_ge {w : World} {B e sz n : Nat} {v : Value} {xs : List Value} (h : w.ownsRow B e sz v n xs) : ∀ j, v.ownBlock = some j → B ≤ j := by
  intro j hj
  rcases h.2 with ⟨rfl, _⟩ | ⟨g, cap, cur, rfl, hg, _⟩
  · simp [Value.ownBlock] at hj
  · simp [Value.ownBlock] at hj
    omega
def ndR (s : CL) (k : Nat) : Bool := nodB s.time (ndA s k)
def nrB (s : CL) : Bool := allD (ndR s) s.nodes.length && rsB (s.nodes.map NOD.name)
def vmR (s : CL) (k : Nat) : Bool := vmB s.tenants.length (vmA s k) && epB (vmA s k)
def vrB (s : CL) : Bool := allD (vmR s) s.vms.length && rsB (s.vms.map VMC.name)
set_option maxRecDepth 100000 in
set_option maxHeartbeats 4000000 in
theorem nodesR_any {w : World} {b : Nat} {s : CL} {a : CA} (h : CX w b s a) (hl : s.nodes.length ≤ 1048576) : Calls Try.prog 44 #[.pointer (some ⟨b, 0, none⟩)] w fun e w' => e = .returned (.bool (nrB s)) ∧ Below w.heap.size w w' := by
  have HX : Hid (CX w b s a) := h
  obtain ⟨an, kn, av, kv, ae, ke, e⟩ := h.rows.sl
  subst e
  have HR : Hid (NODrow w (.slice an s.nodes.length kn) s.nodes) := h.rows.rnodes
  have k0 := h.cel 0 (.slice an s.nodes.length kn) rfl
  have kl := h.lt
  clear h
  have E : Hid (nrB s = (allD (ndR s) s.nodes.length && rsB (s.nodes.map NOD.name))) := rfl
  have HAR : Hid (∀ u v, Srow u v (s.nodes.map NOD.name) → Calls Try.prog 70 #[v, .func (.func 54) #[] #[]] u fun e w' => e = .returned (.bool (rsB (s.nodes.map NOD.name))) ∧ Below u.heap.size u w') := fun u v hv => areRisingS_any hv (by simpa using hl)
  generalize nrB s = V at *
  generalize rsB (s.nodes.map NOD.name) = RS at *
  go_enter Try.func44, Try.ntmps44
  go_wp2
  clear k0 kl
  go_loopw [3, 11] (fun nv i wr => ∃ (k : Nat) (ao : Option Addr) (cp : Nat), k ≤ s.nodes.length ∧ nv = .slice ao k cp ∧ i = .int .i64 k ∧ allD (ndR s) k = true ∧ wr.ownsRow w.heap.size 9 1 (.slice ao k cp) k (sR ((s.nodes.take k).map NOD.name)) ∧ Below w.heap.size w wr) (fun _ i _ => s.nodes.length - (intOf i).toNat)
  case atStart => exact ⟨0, none, 0, Nat.zero_le _, rfl, rfl, rfl, World.ownsRow_nil _ _ _ _, Below.refl _ _⟩
  case round =>
    obtain ⟨k, ao, cp, hk, rfl, rfl, hok, ho, hb⟩ := hrel
    have HALL : Hid (allD (ndR s) k = true) := hok
    have HB : Hid (Below w.heap.size w wr) := hb
    have HO : Hid (wr.ownsRow w.heap.size 9 1 (.slice ao k cp) k (sR ((s.nodes.take k).map NOD.name))) := ho
    have HXR : Hid (CX wr b s ⟨.slice an s.nodes.length kn, .slice av s.vms.length kv, .slice ae s.tenants.length ke⟩) := HX.out.below hb
    clear hok hb ho
    by_cases hlt : k < s.nodes.length
    · obtain ⟨g, o, cap2, hv, _, hg, hc⟩ := HR.out.resolve_left (fun h => by rw [h.1] at hlt; simp at hlt)
      injection hv with hv1 hv2 hv3
      subst hv1 hv3
      have hgw : g < wr.heap.size := Nat.lt_of_lt_of_le hg HB.out.size
      have hk0 : (0 : Int) ≤ (k : Int) := by omega
      have hk1 : (k : Int) < (s.nodes.length : Int) := by omega
      obtain ⟨d0, d1, d2, d3, d4, d5, d6⟩ := hc.below HB.out hg k hlt
      have HS : Hid (allD (ndR s) (k + 1) = (allD (ndR s) k && ndR s k)) := allD_succ _ _
      have HBAD : Hid (ndR s k = false → V = false) := fun hh => by rw [E.out, allD_bad hlt hh, Bool.false_and]
      have HEK : Hid (ndR s k = (nodB s.time s.nodes[k])) := (show ndR s k = (nodB s.time s.nodes[k]) by unfold ndR; rw [ndA_at hlt])
      have HTK : Hid (sR ((s.nodes.take (k + 1)).map NOD.name) = sR ((s.nodes.take k).map NOD.name) ++ [.string s.nodes[k].name]) := by rw [List.take_succ_eq_append_getElem hlt, List.map_append]; exact sR_snoc _ _
      have HCL : Hid (∀ u, Calls Try.prog 69 #[.agg #[.string s.nodes[k].name, .int .i64 s.nodes[k].cpu, .int .i64 s.nodes[k].mem, .int .i64 s.nodes[k].zone, .int .i64 s.nodes[k].beat, .bool s.nodes[k].fenced, .bool s.nodes[k].closed], .int .i64 s.time] u fun e w' => e = .returned (.bool (nodB s.time s.nodes[k])) ∧ Below u.heap.size u w') := fun u => ndRight_any _ _ u
      generalize nodB s.time s.nodes[k] = NB at *
      generalize s.nodes[k] = z at *
      go_upto_region 5 with fail
      have HZ : Hid (LG w (wr.alloc (.cells #[.string z.name, .int .i64 z.cpu, .int .i64 z.mem, .int .i64 z.zone, .int .i64 z.beat, .bool z.fenced, .bool z.closed] 73)) wr.heap.size #[.string z.name, .int .i64 z.cpu, .int .i64 z.mem, .int .i64 z.zone, .int .i64 z.beat, .bool z.fenced, .bool z.closed] 73) := LG.mk2 HB.out
      have HX1 : Hid (CX (wr.alloc (.cells #[.string z.name, .int .i64 z.cpu, .int .i64 z.mem, .int .i64 z.zone, .int .i64 z.beat, .bool z.fenced, .bool z.closed] 73)) b s ⟨.slice (some ⟨g, o, none⟩) s.nodes.length kn, .slice av s.vms.length kv, .slice ae s.tenants.length ke⟩) := HXR.out.below (bx1 _ _)
      have HO1 : Hid ((wr.alloc (.cells #[.string z.name, .int .i64 z.cpu, .int .i64 z.mem, .int .i64 z.zone, .int .i64 z.beat, .bool z.fenced, .bool z.closed] 73)).ownsRow w.heap.size 9 1 (.slice ao k cp) k (sR ((s.nodes.take k).map NOD.name))) := own_belowN HO.out (bx1 _ _)
      clear d0 d1 d2 d3 d4 d5 d6 hc hgw HXR HO hk0 hk1 HR E
      generalize (wr.alloc (.cells #[.string z.name, .int .i64 z.cpu, .int .i64 z.mem, .int .i64 z.zone, .int .i64 z.beat, .bool z.fenced, .bool z.closed] 73)) = u0 at *
      generalize wr.heap.size = b0 at *
      cases NB
      · skip
        have E3 : Hid (V = false) := HBAD.out HEK.out
        clear HS HALL HEK HBAD
        have HSB : Hid ((fun w' => (LG w w' b0 #[.string z.name, .int .i64 z.cpu, .int .i64 z.mem, .int .i64 z.zone, .int .i64 z.beat, .bool z.fenced, .bool z.closed] 73) ∧ CX w' b s ⟨.slice (some ⟨g, o, none⟩) s.nodes.length kn, .slice av s.vms.length kv, .slice ae s.tenants.length ke⟩ ∧ w'.ownsRow w.heap.size 9 1 (.slice ao k cp) k (sR ((s.nodes.take k).map NOD.name))) u0.drew) := ⟨HZ.out.drew, HX1.out.below ⟨rfl, rfl, rfl, Nat.le_refl _, fun _ _ => rfl⟩, own_belowN HO1.out (⟨rfl, rfl, rfl, Nat.le_refl _, fun _ _ => rfl⟩ : Below u0.heap.size u0 u0.drew)⟩
        refine wp_region_held (S := fun w' => (LG w w' b0 #[.string z.name, .int .i64 z.cpu, .int .i64 z.mem, .int .i64 z.zone, .int .i64 z.beat, .bool z.fenced, .bool z.closed] 73) ∧ CX w' b s ⟨.slice (some ⟨g, o, none⟩) s.nodes.length kn, .slice av s.vms.length kv, .slice ae s.tenants.length ke⟩ ∧ w'.ownsRow w.heap.size 9 1 (.slice ao k cp) k (sR ((s.nodes.take k).map NOD.name))) (by kernel_rfl) ?_
        change wpAnyH _ _ _ _ _ _ _ _ (World.drew _)
        refine wpAnyH_take (i := 0) (v := .agg #[.string z.name, .int .i64 z.cpu, .int .i64 z.mem, .int .i64 z.zone, .int .i64 z.beat, .bool z.fenced, .bool z.closed]) rfl (by kernel_rfl) (by kernel_rfl) (by kernel_rfl) (fun _ _ _ h => h) (Or.inl ⟨by kernel_rfl, fun w9 h9 => ?_⟩) HSB.out ?_
        · obtain ⟨hlg, hcx, _⟩ := h9; have z0 := hlg.cel 0 _ rfl; have z1 := hlg.cel 1 _ rfl; have z2 := hlg.cel 2 _ rfl; have z3 := hlg.cel 3 _ rfl; have z4 := hlg.cel 4 _ rfl; have z5 := hlg.cel 5 _ rfl; have z6 := hlg.cel 6 _ rfl; have x4 := hcx.cel 4 (.int .i64 s.time) rfl; go_simp
        refine wpAnyH_take (i := 1) (v := .pointer (some ⟨b, 0, none⟩)) rfl (by kernel_rfl) (by kernel_rfl) (by kernel_rfl) (fun _ _ _ h => h) (Or.inl ⟨by kernel_rfl, fun w9 h9 => ?_⟩) HSB.out ?_
        · go_simp
        refine wpAnyH_take (i := 2) (v := .pointer (some ⟨b, 0, none⟩)) rfl (by kernel_rfl) (by kernel_rfl) (by kernel_rfl) (fun _ _ _ h => h) (Or.inl ⟨by kernel_rfl, fun w9 h9 => ?_⟩) HSB.out ?_
        · go_simp
        refine wpAnyH_take (i := 3) (v := .pointer (some ⟨b, 4, none⟩)) rfl (by kernel_rfl) (by kernel_rfl) (by kernel_rfl) (fun _ _ _ h => h) (Or.inl ⟨by kernel_rfl, fun w9 h9 => ?_⟩) HSB.out ?_
        · go_simp
        refine wpAnyH_take (i := 4) (v := .int .i64 s.time) rfl (by kernel_rfl) (by kernel_rfl) (by kernel_rfl) (fun _ _ _ h => h) (Or.inl ⟨by kernel_rfl, fun w9 h9 => ?_⟩) HSB.out ?_
        · obtain ⟨hlg, hcx, _⟩ := h9; have z0 := hlg.cel 0 _ rfl; have z1 := hlg.cel 1 _ rfl; have z2 := hlg.cel 2 _ rfl; have z3 := hlg.cel 3 _ rfl; have z4 := hlg.cel 4 _ rfl; have z5 := hlg.cel 5 _ rfl; have z6 := hlg.cel 6 _ rfl; have x4 := hcx.cel 4 (.int .i64 s.time) rfl; go_simp
        refine held_one 5 (by kernel_rfl) rfl (by kernel_rfl) fun K hK => ?_
        go_simp
        go_wp2_with (go_at_call 69; refine Calls.mono (HCL.out _) ?_; rintro e u1 ⟨rfl, hb1⟩; have HS1 : Hid ((fun w' => (LG w w' b0 #[.string z.name, .int .i64 z.cpu, .int .i64 z.mem, .int .i64 z.zone, .int .i64 z.beat, .bool z.fenced, .bool z.closed] 73) ∧ CX w' b s ⟨.slice (some ⟨g, o, none⟩) s.nodes.length kn, .slice av s.vms.length kv, .slice ae s.tenants.length ke⟩ ∧ w'.ownsRow w.heap.size 9 1 (.slice ao k cp) k (sR ((s.nodes.take k).map NOD.name))) u1) := ⟨HSB.out.1.step hb1, HSB.out.2.1.below hb1, own_belowN HSB.out.2.2 hb1⟩; clear hb1)
        refine hK _ _ HS1.out ?_
        clear hK K
        refine wpAnyH_take (i := 6) (v := .bool true) rfl (by kernel_rfl) (by kernel_rfl) (by kernel_rfl) (fun _ _ _ h => h) (Or.inl ⟨by kernel_rfl, fun w9 h9 => ?_⟩) HS1.out ?_
        · go_simp
        refine wpAnyH_done (by kernel_rfl) ?_ _
        go_simp
        go_wp2
        go_ret
        exact ⟨ret_bool E3.out.symm, HS1.out.1.bel⟩
      · skip
        have E3 : Hid (allD (ndR s) (k + 1) = true) := (show allD (ndR s) (k + 1) = true by rw [HS.out, HALL.out, HEK.out]; rfl)
        clear HS HALL HEK HBAD
        have HSB : Hid ((fun w' => (LG w w' b0 #[.string z.name, .int .i64 z.cpu, .int .i64 z.mem, .int .i64 z.zone, .int .i64 z.beat, .bool z.fenced, .bool z.closed] 73) ∧ CX w' b s ⟨.slice (some ⟨g, o, none⟩) s.nodes.length kn, .slice av s.vms.length kv, .slice ae s.tenants.length ke⟩ ∧ w'.ownsRow w.heap.size 9 1 (.slice ao k cp) k (sR ((s.nodes.take k).map NOD.name))) u0.drew) := ⟨HZ.out.drew, HX1.out.below ⟨rfl, rfl, rfl, Nat.le_refl _, fun _ _ => rfl⟩, own_belowN HO1.out (⟨rfl, rfl, rfl, Nat.le_refl _, fun _ _ => rfl⟩ : Below u0.heap.size u0 u0.drew)⟩
        refine wp_region_held (S := fun w' => (LG w w' b0 #[.string z.name, .int .i64 z.cpu, .int .i64 z.mem, .int .i64 z.zone, .int .i64 z.beat, .bool z.fenced, .bool z.closed] 73) ∧ CX w' b s ⟨.slice (some ⟨g, o, none⟩) s.nodes.length kn, .slice av s.vms.length kv, .slice ae s.tenants.length ke⟩ ∧ w'.ownsRow w.heap.size 9 1 (.slice ao k cp) k (sR ((s.nodes.take k).map NOD.name))) (by kernel_rfl) ?_
        change wpAnyH _ _ _ _ _ _ _ _ (World.drew _)
        refine wpAnyH_take (i := 0) (v := .agg #[.string z.name, .int .i64 z.cpu, .int .i64 z.mem, .int .i64 z.zone, .int .i64 z.beat, .bool z.fenced, .bool z.closed]) rfl (by kernel_rfl) (by kernel_rfl) (by kernel_rfl) (fun _ _ _ h => h) (Or.inl ⟨by kernel_rfl, fun w9 h9 => ?_⟩) HSB.out ?_
        · obtain ⟨hlg, hcx, _⟩ := h9; have z0 := hlg.cel 0 _ rfl; have z1 := hlg.cel 1 _ rfl; have z2 := hlg.cel 2 _ rfl; have z3 := hlg.cel 3 _ rfl; have z4 := hlg.cel 4 _ rfl; have z5 := hlg.cel 5 _ rfl; have z6 := hlg.cel 6 _ rfl; have x4 := hcx.cel 4 (.int .i64 s.time) rfl; go_simp
        refine wpAnyH_take (i := 1) (v := .pointer (some ⟨b, 0, none⟩)) rfl (by kernel_rfl) (by kernel_rfl) (by kernel_rfl) (fun _ _ _ h => h) (Or.inl ⟨by kernel_rfl, fun w9 h9 => ?_⟩) HSB.out ?_
        · go_simp
        refine wpAnyH_take (i := 2) (v := .pointer (some ⟨b, 0, none⟩)) rfl (by kernel_rfl) (by kernel_rfl) (by kernel_rfl) (fun _ _ _ h => h) (Or.inl ⟨by kernel_rfl, fun w9 h9 => ?_⟩) HSB.out ?_
        · go_simp
        refine wpAnyH_take (i := 3) (v := .pointer (some ⟨b, 4, none⟩)) rfl (by kernel_rfl) (by kernel_rfl) (by kernel_rfl) (fun _ _ _ h => h) (Or.inl ⟨by kernel_rfl, fun w9 h9 => ?_⟩) HSB.out ?_
        · go_simp
        refine wpAnyH_take (i := 4) (v := .int .i64 s.time) rfl (by kernel_rfl) (by kernel_rfl) (by kernel_rfl) (fun _ _ _ h => h) (Or.inl ⟨by kernel_rfl, fun w9 h9 => ?_⟩) HSB.out ?_
        · obtain ⟨hlg, hcx, _⟩ := h9; have z0 := hlg.cel 0 _ rfl; have z1 := hlg.cel 1 _ rfl; have z2 := hlg.cel 2 _ rfl; have z3 := hlg.cel 3 _ rfl; have z4 := hlg.cel 4 _ rfl; have z5 := hlg.cel 5 _ rfl; have z6 := hlg.cel 6 _ rfl; have x4 := hcx.cel 4 (.int .i64 s.time) rfl; go_simp
        refine held_one 5 (by kernel_rfl) rfl (by kernel_rfl) fun K hK => ?_
        go_simp
        go_wp2_with (go_at_call 69; refine Calls.mono (HCL.out _) ?_; rintro e u1 ⟨rfl, hb1⟩; have HS1 : Hid ((fun w' => (LG w w' b0 #[.string z.name, .int .i64 z.cpu, .int .i64 z.mem, .int .i64 z.zone, .int .i64 z.beat, .bool z.fenced, .bool z.closed] 73) ∧ CX w' b s ⟨.slice (some ⟨g, o, none⟩) s.nodes.length kn, .slice av s.vms.length kv, .slice ae s.tenants.length ke⟩ ∧ w'.ownsRow w.heap.size 9 1 (.slice ao k cp) k (sR ((s.nodes.take k).map NOD.name))) u1) := ⟨HSB.out.1.step hb1, HSB.out.2.1.below hb1, own_belowN HSB.out.2.2 hb1⟩; clear hb1)
        refine hK _ _ HS1.out ?_
        clear hK K
        refine wpAnyH_take (i := 6) (v := .bool false) rfl (by kernel_rfl) (by kernel_rfl) (by kernel_rfl) (fun _ _ _ h => h) (Or.inl ⟨by kernel_rfl, fun w9 h9 => ?_⟩) HS1.out ?_
        · go_simp
        refine wpAnyH_done (by kernel_rfl) ?_ _
        go_simp
        have HZ2 : Hid (LG w u1 b0 #[.string z.name, .int .i64 z.cpu, .int .i64 z.mem, .int .i64 z.zone, .int .i64 z.beat, .bool z.fenced, .bool z.closed] 73) := HS1.out.1
        have HO2 : Hid (u1.ownsRow w.heap.size 9 1 (.slice ao k cp) k (sR ((s.nodes.take k).map NOD.name))) := HS1.out.2.2
        clear HSB HS1 HX1 HO1 HZ HCL
        have z0 := HZ2.out.cel 0 _ rfl
        have zl := HZ2.out.lt
        have HAP : Hid _ := app1S HO2.out z.name (by omega) HZ2.out.bel.size
        go_wp2_with (at_builtin; (refine wl_append_ex rfl _ _ 111 rfl _ _ rfl rfl HAP.out ?_; rintro v' u6 ⟨ho, hg9⟩; obtain ⟨a9, c9, rfl⟩ := s_slS ho; have HO6 : Hid (u6.ownsRow w.heap.size 9 1 (.slice a9 (k + 1) c9) (k + 1) (sR ((s.nodes.take ((k + 1))).map NOD.name))) := (by rw [HTK.out]; exact ho); have HB6 : Hid (Below w.heap.size w u6) := (HZ2.out.bel.alloc HZ2.out.bel.size _).grown hg9 (Nat.le_trans HZ2.out.bel.size (by simp)) (own_ge HO2.out); clear ho hg9))
        exact ⟨⟨k + 1, a9, c9, hlt, rfl, by go_num, E3.out, HO6.out, HB6.out⟩, by simp [intOf]; omega⟩
    · obtain rfl : k = s.nodes.length := by omega
      have E2 : Hid (V = RS) := (show V = RS by rw [E.out, HALL.out, Bool.true_and])
      have HSR : Hid (Srow wr (.slice ao s.nodes.length cp) (s.nodes.map NOD.name)) := by
        have h9 := HO.out
        rw [List.take_length] at h9
        have h8 : (s.nodes.map NOD.name).length = s.nodes.length := by simp
        have h7 := Srow.of (zs := s.nodes.map NOD.name) (v := .slice ao s.nodes.length cp) (B := w.heap.size) (w := wr) (by rw [h8]; exact h9)
        exact h7
      clear E HALL HO HXR
      go_wp2_with (go_at_call 70; refine Calls.mono (HAR.out _ _ HSR.out) ?_; rintro e u1 ⟨rfl, hu⟩; have HB1 : Hid (Below w.heap.size w u1) := HB.out.trans (hu.mono HB.out.size); clear hu)
      go_ret
      exact ⟨ret_bool E2.out.symm, HB1.out⟩
set_option maxRecDepth 100000 in
set_option maxHeartbeats 4000000 in
theorem vmsR_any {w : World} {b : Nat} {s : CL} {a : CA} (h : CX w b s a) (hl : s.vms.length ≤ 1048576) (hq : s.tenants.length ≤ 1048576) : Calls Try.prog 45 #[.pointer (some ⟨b, 0, none⟩)] w fun e w' => e = .returned (.bool (vrB s)) ∧ Below w.heap.size w w' := by
  have HX : Hid (CX w b s a) := h
  obtain ⟨an, kn, av, kv, ae, ke, e⟩ := h.rows.sl
  subst e
  have HR : Hid (VMCrow w (.slice av s.vms.length kv) s.vms) := h.rows.rvms
  have k1 := h.cel 1 (.slice av s.vms.length kv) rfl
  have kl := h.lt
  clear h
  have E : Hid (vrB s = (allD (vmR s) s.vms.length && rsB (s.vms.map VMC.name))) := rfl
  have HAR : Hid (∀ u v, Srow u v (s.vms.map VMC.name) → Calls Try.prog 70 #[v, .func (.func 54) #[] #[]] u fun e w' => e = .returned (.bool (rsB (s.vms.map VMC.name))) ∧ Below u.heap.size u w') := fun u v hv => areRisingS_any hv (by simpa using hl)
  generalize vrB s = V at *
  generalize rsB (s.vms.map VMC.name) = RS at *
  go_enter Try.func45, Try.ntmps45
  go_wp2
  clear k1 kl
  go_loopw [3, 11] (fun nv i wr => ∃ (k : Nat) (ao : Option Addr) (cp : Nat), k ≤ s.vms.length ∧ nv = .slice ao k cp ∧ i = .int .i64 k ∧ allD (vmR s) k = true ∧ wr.ownsRow w.heap.size 9 1 (.slice ao k cp) k (sR ((s.vms.take k).map VMC.name)) ∧ Below w.heap.size w wr) (fun _ i _ => s.vms.length - (intOf i).toNat)
  case atStart => exact ⟨0, none, 0, Nat.zero_le _, rfl, rfl, rfl, World.ownsRow_nil _ _ _ _, Below.refl _ _⟩
  case round =>
    obtain ⟨k, ao, cp, hk, rfl, rfl, hok, ho, hb⟩ := hrel
    have HALL : Hid (allD (vmR s) k = true) := hok
    have HB : Hid (Below w.heap.size w wr) := hb
    have HO : Hid (wr.ownsRow w.heap.size 9 1 (.slice ao k cp) k (sR ((s.vms.take k).map VMC.name))) := ho
    have HXR : Hid (CX wr b s ⟨.slice an s.nodes.length kn, .slice av s.vms.length kv, .slice ae s.tenants.length ke⟩) := HX.out.below hb
    clear hok hb ho
    by_cases hlt : k < s.vms.length
    · obtain ⟨g, o, cap2, hv, _, hg, hc⟩ := HR.out.resolve_left (fun h => by rw [h.1] at hlt; simp at hlt)
      injection hv with hv1 hv2 hv3
      subst hv1 hv3
      have hgw : g < wr.heap.size := Nat.lt_of_lt_of_le hg HB.out.size
      have hk0 : (0 : Int) ≤ (k : Int) := by omega
      have hk1 : (k : Int) < (s.vms.length : Int) := by omega
      obtain ⟨d0, d1, d2, d3, d4, d5, d6, d7⟩ := hc.below HB.out hg k hlt
      have HS : Hid (allD (vmR s) (k + 1) = (allD (vmR s) k && vmR s k)) := allD_succ _ _
      have HBAD : Hid (vmR s k = false → V = false) := fun hh => by rw [E.out, allD_bad hlt hh, Bool.false_and]
      have HEK : Hid (vmR s k = (vmB s.tenants.length s.vms[k] && epB s.vms[k])) := (show vmR s k = (vmB s.tenants.length s.vms[k] && epB s.vms[k]) by unfold vmR; rw [vmA_at hlt])
      have HTK : Hid (sR ((s.vms.take (k + 1)).map VMC.name) = sR ((s.vms.take k).map VMC.name) ++ [.string s.vms[k].name]) := by rw [List.take_succ_eq_append_getElem hlt, List.map_append]; exact sR_snoc _ _
      have HCL : Hid (∀ u, Calls Try.prog 34 #[.agg #[.string s.vms[k].name, .int .i64 s.vms[k].tenant, .int .i64 s.vms[k].cpu, .int .i64 s.vms[k].mem, .int .i64 s.vms[k].zone, .int .i64 s.vms[k].apart, .string s.vms[k].node, .int .i64 s.vms[k].epoch], .int .i64 (s.tenants.length : Nat)] u fun e w' => e = .returned (.bool (vmB s.tenants.length s.vms[k])) ∧ Below u.heap.size u w') := fun u => vmOne_any _ _ hq u
      generalize vmB s.tenants.length s.vms[k] = VB at *
      generalize s.vms[k] = z at *
      go_upto_region 5 with fail
      have HZ : Hid (LG w (wr.alloc (.cells #[.string z.name, .int .i64 z.tenant, .int .i64 z.cpu, .int .i64 z.mem, .int .i64 z.zone, .int .i64 z.apart, .string z.node, .int .i64 z.epoch] 41)) wr.heap.size #[.string z.name, .int .i64 z.tenant, .int .i64 z.cpu, .int .i64 z.mem, .int .i64 z.zone, .int .i64 z.apart, .string z.node, .int .i64 z.epoch] 41) := LG.mk2 HB.out
      have HX1 : Hid (CX (wr.alloc (.cells #[.string z.name, .int .i64 z.tenant, .int .i64 z.cpu, .int .i64 z.mem, .int .i64 z.zone, .int .i64 z.apart, .string z.node, .int .i64 z.epoch] 41)) b s ⟨.slice an s.nodes.length kn, .slice (some ⟨g, o, none⟩) s.vms.length kv, .slice ae s.tenants.length ke⟩) := HXR.out.below (bx1 _ _)
      have HO1 : Hid ((wr.alloc (.cells #[.string z.name, .int .i64 z.tenant, .int .i64 z.cpu, .int .i64 z.mem, .int .i64 z.zone, .int .i64 z.apart, .string z.node, .int .i64 z.epoch] 41)).ownsRow w.heap.size 9 1 (.slice ao k cp) k (sR ((s.vms.take k).map VMC.name))) := own_belowN HO.out (bx1 _ _)
      clear d0 d1 d2 d3 d4 d5 d6 d7 hc hgw HXR HO hk0 hk1 HR E
      generalize (wr.alloc (.cells #[.string z.name, .int .i64 z.tenant, .int .i64 z.cpu, .int .i64 z.mem, .int .i64 z.zone, .int .i64 z.apart, .string z.node, .int .i64 z.epoch] 41)) = u0 at *
      generalize wr.heap.size = b0 at *
      cases VB
      · skip
        have E3 : Hid (V = false) := HBAD.out (HEK.out.trans (by simp [epB]; try omega))
        clear HS HALL HEK HBAD
        have HSB : Hid ((fun w' => (LG w w' b0 #[.string z.name, .int .i64 z.tenant, .int .i64 z.cpu, .int .i64 z.mem, .int .i64 z.zone, .int .i64 z.apart, .string z.node, .int .i64 z.epoch] 41) ∧ CX w' b s ⟨.slice an s.nodes.length kn, .slice (some ⟨g, o, none⟩) s.vms.length kv, .slice ae s.tenants.length ke⟩ ∧ w'.ownsRow w.heap.size 9 1 (.slice ao k cp) k (sR ((s.vms.take k).map VMC.name))) u0.drew) := ⟨HZ.out.drew, HX1.out.below ⟨rfl, rfl, rfl, Nat.le_refl _, fun _ _ => rfl⟩, own_belowN HO1.out (⟨rfl, rfl, rfl, Nat.le_refl _, fun _ _ => rfl⟩ : Below u0.heap.size u0 u0.drew)⟩
        refine wp_region_held (S := fun w' => (LG w w' b0 #[.string z.name, .int .i64 z.tenant, .int .i64 z.cpu, .int .i64 z.mem, .int .i64 z.zone, .int .i64 z.apart, .string z.node, .int .i64 z.epoch] 41) ∧ CX w' b s ⟨.slice an s.nodes.length kn, .slice (some ⟨g, o, none⟩) s.vms.length kv, .slice ae s.tenants.length ke⟩ ∧ w'.ownsRow w.heap.size 9 1 (.slice ao k cp) k (sR ((s.vms.take k).map VMC.name))) (by kernel_rfl) ?_
        change wpAnyH _ _ _ _ _ _ _ _ (World.drew _)
        refine wpAnyH_take (i := 0) (v := .agg #[.string z.name, .int .i64 z.tenant, .int .i64 z.cpu, .int .i64 z.mem, .int .i64 z.zone, .int .i64 z.apart, .string z.node, .int .i64 z.epoch]) rfl (by kernel_rfl) (by kernel_rfl) (by kernel_rfl) (fun _ _ _ h => h) (Or.inl ⟨by kernel_rfl, fun w9 h9 => ?_⟩) HSB.out ?_
        · obtain ⟨hlg, hcx, _⟩ := h9; have z0 := hlg.cel 0 _ rfl; have z1 := hlg.cel 1 _ rfl; have z2 := hlg.cel 2 _ rfl; have z3 := hlg.cel 3 _ rfl; have z4 := hlg.cel 4 _ rfl; have z5 := hlg.cel 5 _ rfl; have z6 := hlg.cel 6 _ rfl; have z7 := hlg.cel 7 _ rfl; have x2 := hcx.cel 2 (.slice ae s.tenants.length ke) rfl; go_simp
        refine wpAnyH_take (i := 1) (v := .pointer (some ⟨b, 0, none⟩)) rfl (by kernel_rfl) (by kernel_rfl) (by kernel_rfl) (fun _ _ _ h => h) (Or.inl ⟨by kernel_rfl, fun w9 h9 => ?_⟩) HSB.out ?_
        · go_simp
        refine wpAnyH_take (i := 2) (v := .pointer (some ⟨b, 0, none⟩)) rfl (by kernel_rfl) (by kernel_rfl) (by kernel_rfl) (fun _ _ _ h => h) (Or.inl ⟨by kernel_rfl, fun w9 h9 => ?_⟩) HSB.out ?_
        · go_simp
        refine wpAnyH_take (i := 3) (v := .pointer (some ⟨b, 2, none⟩)) rfl (by kernel_rfl) (by kernel_rfl) (by kernel_rfl) (fun _ _ _ h => h) (Or.inl ⟨by kernel_rfl, fun w9 h9 => ?_⟩) HSB.out ?_
        · go_simp
        refine wpAnyH_take (i := 4) (v := .slice ae s.tenants.length ke) rfl (by kernel_rfl) (by kernel_rfl) (by kernel_rfl) (fun _ _ _ h => h) (Or.inl ⟨by kernel_rfl, fun w9 h9 => ?_⟩) HSB.out ?_
        · obtain ⟨hlg, hcx, _⟩ := h9; have z0 := hlg.cel 0 _ rfl; have z1 := hlg.cel 1 _ rfl; have z2 := hlg.cel 2 _ rfl; have z3 := hlg.cel 3 _ rfl; have z4 := hlg.cel 4 _ rfl; have z5 := hlg.cel 5 _ rfl; have z6 := hlg.cel 6 _ rfl; have z7 := hlg.cel 7 _ rfl; have x2 := hcx.cel 2 (.slice ae s.tenants.length ke) rfl; go_simp
        refine wpAnyH_take (i := 5) (v := .int .i64 (s.tenants.length : Nat)) rfl (by kernel_rfl) (by kernel_rfl) (by kernel_rfl) (fun _ _ _ h => h) (Or.inl ⟨by kernel_rfl, fun w9 h9 => ?_⟩) HSB.out ?_
        · go_simp
        refine held_one 6 (by kernel_rfl) rfl (by kernel_rfl) fun K hK => ?_
        go_simp
        go_wp2_with (go_at_call 34; refine Calls.mono (HCL.out _) ?_; rintro e u1 ⟨rfl, hb1⟩; have HS1 : Hid ((fun w' => (LG w w' b0 #[.string z.name, .int .i64 z.tenant, .int .i64 z.cpu, .int .i64 z.mem, .int .i64 z.zone, .int .i64 z.apart, .string z.node, .int .i64 z.epoch] 41) ∧ CX w' b s ⟨.slice an s.nodes.length kn, .slice (some ⟨g, o, none⟩) s.vms.length kv, .slice ae s.tenants.length ke⟩ ∧ w'.ownsRow w.heap.size 9 1 (.slice ao k cp) k (sR ((s.vms.take k).map VMC.name))) u1) := ⟨HSB.out.1.step hb1, HSB.out.2.1.below hb1, own_belowN HSB.out.2.2 hb1⟩; clear hb1)
        refine hK _ _ HS1.out ?_
        clear hK K
        refine wpAnyH_take (i := 7) (v := .bool true) rfl (by kernel_rfl) (by kernel_rfl) (by kernel_rfl) (fun _ _ _ h => h) (Or.inl ⟨by kernel_rfl, fun w9 h9 => ?_⟩) HS1.out ?_
        · go_simp
        refine wpAnyH_take (i := 8) (v := .bool true) rfl (by kernel_rfl) (by kernel_rfl) (by kernel_rfl) (fun _ _ _ h => h) (Or.inl ⟨by kernel_rfl, fun w9 h9 => ?_⟩) HS1.out ?_
        · go_simp
        refine wpAnyH_take (i := 9) (v := undef) rfl (by kernel_rfl) (by kernel_rfl) (by kernel_rfl) (fun _ _ _ h => h) (Or.inr ⟨by kernel_rfl, rfl⟩) HS1.out ?_
        refine wpAnyH_take (i := 10) (v := undef) rfl (by kernel_rfl) (by kernel_rfl) (by kernel_rfl) (fun _ _ _ h => h) (Or.inr ⟨by kernel_rfl, rfl⟩) HS1.out ?_
        refine wpAnyH_take (i := 11) (v := undef) rfl (by kernel_rfl) (by kernel_rfl) (by kernel_rfl) (fun _ _ _ h => h) (Or.inr ⟨by kernel_rfl, rfl⟩) HS1.out ?_
        refine wpAnyH_take (i := 12) (v := .bool true) rfl (by kernel_rfl) (by kernel_rfl) (by kernel_rfl) (fun _ _ _ h => h) (Or.inl ⟨by kernel_rfl, fun w9 h9 => ?_⟩) HS1.out ?_
        · go_simp
        refine wpAnyH_take (i := 13) (v := .bool true) rfl (by kernel_rfl) (by kernel_rfl) (by kernel_rfl) (fun _ _ _ h => h) (Or.inl ⟨by kernel_rfl, fun w9 h9 => ?_⟩) HS1.out ?_
        · go_simp
        refine wpAnyH_take (i := 14) (v := undef) rfl (by kernel_rfl) (by kernel_rfl) (by kernel_rfl) (fun _ _ _ h => h) (Or.inr ⟨by kernel_rfl, rfl⟩) HS1.out ?_
        refine wpAnyH_take (i := 15) (v := undef) rfl (by kernel_rfl) (by kernel_rfl) (by kernel_rfl) (fun _ _ _ h => h) (Or.inr ⟨by kernel_rfl, rfl⟩) HS1.out ?_
        refine wpAnyH_take (i := 16) (v := undef) rfl (by kernel_rfl) (by kernel_rfl) (by kernel_rfl) (fun _ _ _ h => h) (Or.inr ⟨by kernel_rfl, rfl⟩) HS1.out ?_
        refine wpAnyH_take (i := 17) (v := .bool true) rfl (by kernel_rfl) (by kernel_rfl) (by kernel_rfl) (fun _ _ _ h => h) (Or.inl ⟨by kernel_rfl, fun w9 h9 => ?_⟩) HS1.out ?_
        · go_simp
        refine wpAnyH_done (by kernel_rfl) ?_ _
        go_simp
        go_wp2
        go_ret
        exact ⟨ret_bool E3.out.symm, HS1.out.1.bel⟩
      · skip
        cases q1 : decide (z.epoch < 0)
        · skip
          cases q2 : decide (1099511627776 < z.epoch)
          · skip
            have E3 : Hid (allD (vmR s) (k + 1) = true) := (show allD (vmR s) (k + 1) = true by rw [HS.out, HALL.out, HEK.out]; have r1 := of_decide_eq_false q1; have r2 := of_decide_eq_false q2; simp [epB]; omega)
            clear HS HALL HEK HBAD
            have HSB : Hid ((fun w' => (LG w w' b0 #[.string z.name, .int .i64 z.tenant, .int .i64 z.cpu, .int .i64 z.mem, .int .i64 z.zone, .int .i64 z.apart, .string z.node, .int .i64 z.epoch] 41) ∧ CX w' b s ⟨.slice an s.nodes.length kn, .slice (some ⟨g, o, none⟩) s.vms.length kv, .slice ae s.tenants.length ke⟩ ∧ w'.ownsRow w.heap.size 9 1 (.slice ao k cp) k (sR ((s.vms.take k).map VMC.name))) u0.drew) := ⟨HZ.out.drew, HX1.out.below ⟨rfl, rfl, rfl, Nat.le_refl _, fun _ _ => rfl⟩, own_belowN HO1.out (⟨rfl, rfl, rfl, Nat.le_refl _, fun _ _ => rfl⟩ : Below u0.heap.size u0 u0.drew)⟩
            refine wp_region_held (S := fun w' => (LG w w' b0 #[.string z.name, .int .i64 z.tenant, .int .i64 z.cpu, .int .i64 z.mem, .int .i64 z.zone, .int .i64 z.apart, .string z.node, .int .i64 z.epoch] 41) ∧ CX w' b s ⟨.slice an s.nodes.length kn, .slice (some ⟨g, o, none⟩) s.vms.length kv, .slice ae s.tenants.length ke⟩ ∧ w'.ownsRow w.heap.size 9 1 (.slice ao k cp) k (sR ((s.vms.take k).map VMC.name))) (by kernel_rfl) ?_
            change wpAnyH _ _ _ _ _ _ _ _ (World.drew _)
            refine wpAnyH_take (i := 0) (v := .agg #[.string z.name, .int .i64 z.tenant, .int .i64 z.cpu, .int .i64 z.mem, .int .i64 z.zone, .int .i64 z.apart, .string z.node, .int .i64 z.epoch]) rfl (by kernel_rfl) (by kernel_rfl) (by kernel_rfl) (fun _ _ _ h => h) (Or.inl ⟨by kernel_rfl, fun w9 h9 => ?_⟩) HSB.out ?_
            · obtain ⟨hlg, hcx, _⟩ := h9; have z0 := hlg.cel 0 _ rfl; have z1 := hlg.cel 1 _ rfl; have z2 := hlg.cel 2 _ rfl; have z3 := hlg.cel 3 _ rfl; have z4 := hlg.cel 4 _ rfl; have z5 := hlg.cel 5 _ rfl; have z6 := hlg.cel 6 _ rfl; have z7 := hlg.cel 7 _ rfl; have x2 := hcx.cel 2 (.slice ae s.tenants.length ke) rfl; go_simp
            refine wpAnyH_take (i := 1) (v := .pointer (some ⟨b, 0, none⟩)) rfl (by kernel_rfl) (by kernel_rfl) (by kernel_rfl) (fun _ _ _ h => h) (Or.inl ⟨by kernel_rfl, fun w9 h9 => ?_⟩) HSB.out ?_
            · go_simp
            refine wpAnyH_take (i := 2) (v := .pointer (some ⟨b, 0, none⟩)) rfl (by kernel_rfl) (by kernel_rfl) (by kernel_rfl) (fun _ _ _ h => h) (Or.inl ⟨by kernel_rfl, fun w9 h9 => ?_⟩) HSB.out ?_
            · go_simp
            refine wpAnyH_take (i := 3) (v := .pointer (some ⟨b, 2, none⟩)) rfl (by kernel_rfl) (by kernel_rfl) (by kernel_rfl) (fun _ _ _ h => h) (Or.inl ⟨by kernel_rfl, fun w9 h9 => ?_⟩) HSB.out ?_
            · go_simp
            refine wpAnyH_take (i := 4) (v := .slice ae s.tenants.length ke) rfl (by kernel_rfl) (by kernel_rfl) (by kernel_rfl) (fun _ _ _ h => h) (Or.inl ⟨by kernel_rfl, fun w9 h9 => ?_⟩) HSB.out ?_
            · obtain ⟨hlg, hcx, _⟩ := h9; have z0 := hlg.cel 0 _ rfl; have z1 := hlg.cel 1 _ rfl; have z2 := hlg.cel 2 _ rfl; have z3 := hlg.cel 3 _ rfl; have z4 := hlg.cel 4 _ rfl; have z5 := hlg.cel 5 _ rfl; have z6 := hlg.cel 6 _ rfl; have z7 := hlg.cel 7 _ rfl; have x2 := hcx.cel 2 (.slice ae s.tenants.length ke) rfl; go_simp
            refine wpAnyH_take (i := 5) (v := .int .i64 (s.tenants.length : Nat)) rfl (by kernel_rfl) (by kernel_rfl) (by kernel_rfl) (fun _ _ _ h => h) (Or.inl ⟨by kernel_rfl, fun w9 h9 => ?_⟩) HSB.out ?_
            · go_simp
            refine held_one 6 (by kernel_rfl) rfl (by kernel_rfl) fun K hK => ?_
            go_simp
            go_wp2_with (go_at_call 34; refine Calls.mono (HCL.out _) ?_; rintro e u1 ⟨rfl, hb1⟩; have HS1 : Hid ((fun w' => (LG w w' b0 #[.string z.name, .int .i64 z.tenant, .int .i64 z.cpu, .int .i64 z.mem, .int .i64 z.zone, .int .i64 z.apart, .string z.node, .int .i64 z.epoch] 41) ∧ CX w' b s ⟨.slice an s.nodes.length kn, .slice (some ⟨g, o, none⟩) s.vms.length kv, .slice ae s.tenants.length ke⟩ ∧ w'.ownsRow w.heap.size 9 1 (.slice ao k cp) k (sR ((s.vms.take k).map VMC.name))) u1) := ⟨HSB.out.1.step hb1, HSB.out.2.1.below hb1, own_belowN HSB.out.2.2 hb1⟩; clear hb1)
            refine hK _ _ HS1.out ?_
            clear hK K
            refine wpAnyH_take (i := 7) (v := .bool false) rfl (by kernel_rfl) (by kernel_rfl) (by kernel_rfl) (fun _ _ _ h => h) (Or.inl ⟨by kernel_rfl, fun w9 h9 => ?_⟩) HS1.out ?_
            · go_simp
            refine wpAnyH_take (i := 8) (v := .bool false) rfl (by kernel_rfl) (by kernel_rfl) (by kernel_rfl) (fun _ _ _ h => h) (Or.inl ⟨by kernel_rfl, fun w9 h9 => ?_⟩) HS1.out ?_
            · go_simp
            refine wpAnyH_take (i := 9) (v := .pointer (some ⟨b0, 7, none⟩)) rfl (by kernel_rfl) (by kernel_rfl) (by kernel_rfl) (fun _ _ _ h => h) (Or.inl ⟨by kernel_rfl, fun w9 h9 => ?_⟩) HS1.out ?_
            · go_simp
            refine wpAnyH_take (i := 10) (v := .int .i64 z.epoch) rfl (by kernel_rfl) (by kernel_rfl) (by kernel_rfl) (fun _ _ _ h => h) (Or.inl ⟨by kernel_rfl, fun w9 h9 => ?_⟩) HS1.out ?_
            · obtain ⟨hlg, hcx, _⟩ := h9; have z0 := hlg.cel 0 _ rfl; have z1 := hlg.cel 1 _ rfl; have z2 := hlg.cel 2 _ rfl; have z3 := hlg.cel 3 _ rfl; have z4 := hlg.cel 4 _ rfl; have z5 := hlg.cel 5 _ rfl; have z6 := hlg.cel 6 _ rfl; have z7 := hlg.cel 7 _ rfl; have x2 := hcx.cel 2 (.slice ae s.tenants.length ke) rfl; go_simp
            refine wpAnyH_take (i := 11) (v := .bool false) rfl (by kernel_rfl) (by kernel_rfl) (by kernel_rfl) (fun _ _ _ h => h) (Or.inl ⟨by kernel_rfl, fun w9 h9 => ?_⟩) HS1.out ?_
            · go_simp; all_goals omega
            refine wpAnyH_take (i := 12) (v := .bool false) rfl (by kernel_rfl) (by kernel_rfl) (by kernel_rfl) (fun _ _ _ h => h) (Or.inl ⟨by kernel_rfl, fun w9 h9 => ?_⟩) HS1.out ?_
            · go_simp
            refine wpAnyH_take (i := 13) (v := .bool false) rfl (by kernel_rfl) (by kernel_rfl) (by kernel_rfl) (fun _ _ _ h => h) (Or.inl ⟨by kernel_rfl, fun w9 h9 => ?_⟩) HS1.out ?_
            · go_simp
            refine wpAnyH_take (i := 14) (v := .pointer (some ⟨b0, 7, none⟩)) rfl (by kernel_rfl) (by kernel_rfl) (by kernel_rfl) (fun _ _ _ h => h) (Or.inl ⟨by kernel_rfl, fun w9 h9 => ?_⟩) HS1.out ?_
            · go_simp
            refine wpAnyH_take (i := 15) (v := .int .i64 z.epoch) rfl (by kernel_rfl) (by kernel_rfl) (by kernel_rfl) (fun _ _ _ h => h) (Or.inl ⟨by kernel_rfl, fun w9 h9 => ?_⟩) HS1.out ?_
            · obtain ⟨hlg, hcx, _⟩ := h9; have z0 := hlg.cel 0 _ rfl; have z1 := hlg.cel 1 _ rfl; have z2 := hlg.cel 2 _ rfl; have z3 := hlg.cel 3 _ rfl; have z4 := hlg.cel 4 _ rfl; have z5 := hlg.cel 5 _ rfl; have z6 := hlg.cel 6 _ rfl; have z7 := hlg.cel 7 _ rfl; have x2 := hcx.cel 2 (.slice ae s.tenants.length ke) rfl; go_simp
            refine wpAnyH_take (i := 16) (v := .bool false) rfl (by kernel_rfl) (by kernel_rfl) (by kernel_rfl) (fun _ _ _ h => h) (Or.inl ⟨by kernel_rfl, fun w9 h9 => ?_⟩) HS1.out ?_
            · go_simp; all_goals omega
            refine wpAnyH_take (i := 17) (v := .bool false) rfl (by kernel_rfl) (by kernel_rfl) (by kernel_rfl) (fun _ _ _ h => h) (Or.inl ⟨by kernel_rfl, fun w9 h9 => ?_⟩) HS1.out ?_
            · go_simp
            refine wpAnyH_done (by kernel_rfl) ?_ _
            go_simp
            have HZ2 : Hid (LG w u1 b0 #[.string z.name, .int .i64 z.tenant, .int .i64 z.cpu, .int .i64 z.mem, .int .i64 z.zone, .int .i64 z.apart, .string z.node, .int .i64 z.epoch] 41) := HS1.out.1
            have HO2 : Hid (u1.ownsRow w.heap.size 9 1 (.slice ao k cp) k (sR ((s.vms.take k).map VMC.name))) := HS1.out.2.2
            clear HSB HS1 HX1 HO1 HZ HCL
            have z0 := HZ2.out.cel 0 _ rfl
            have zl := HZ2.out.lt
            have HAP : Hid _ := app1S HO2.out z.name (by omega) HZ2.out.bel.size
            go_wp2_with (at_builtin; (refine wl_append_ex rfl _ _ 111 rfl _ _ rfl rfl HAP.out ?_; rintro v' u6 ⟨ho, hg9⟩; obtain ⟨a9, c9, rfl⟩ := s_slS ho; have HO6 : Hid (u6.ownsRow w.heap.size 9 1 (.slice a9 (k + 1) c9) (k + 1) (sR ((s.vms.take ((k + 1))).map VMC.name))) := (by rw [HTK.out]; exact ho); have HB6 : Hid (Below w.heap.size w u6) := (HZ2.out.bel.alloc HZ2.out.bel.size _).grown hg9 (Nat.le_trans HZ2.out.bel.size (by simp)) (own_ge HO2.out); clear ho hg9))
            exact ⟨⟨k + 1, a9, c9, hlt, rfl, by go_num, E3.out, HO6.out, HB6.out⟩, by simp [intOf]; omega⟩
          · skip
            have E3 : Hid (V = false) := HBAD.out (HEK.out.trans (by have r1 := of_decide_eq_false q1; have r2 := of_decide_eq_true q2; simp [epB]; try omega))
            clear HS HALL HEK HBAD
            have HSB : Hid ((fun w' => (LG w w' b0 #[.string z.name, .int .i64 z.tenant, .int .i64 z.cpu, .int .i64 z.mem, .int .i64 z.zone, .int .i64 z.apart, .string z.node, .int .i64 z.epoch] 41) ∧ CX w' b s ⟨.slice an s.nodes.length kn, .slice (some ⟨g, o, none⟩) s.vms.length kv, .slice ae s.tenants.length ke⟩ ∧ w'.ownsRow w.heap.size 9 1 (.slice ao k cp) k (sR ((s.vms.take k).map VMC.name))) u0.drew) := ⟨HZ.out.drew, HX1.out.below ⟨rfl, rfl, rfl, Nat.le_refl _, fun _ _ => rfl⟩, own_belowN HO1.out (⟨rfl, rfl, rfl, Nat.le_refl _, fun _ _ => rfl⟩ : Below u0.heap.size u0 u0.drew)⟩
            refine wp_region_held (S := fun w' => (LG w w' b0 #[.string z.name, .int .i64 z.tenant, .int .i64 z.cpu, .int .i64 z.mem, .int .i64 z.zone, .int .i64 z.apart, .string z.node, .int .i64 z.epoch] 41) ∧ CX w' b s ⟨.slice an s.nodes.length kn, .slice (some ⟨g, o, none⟩) s.vms.length kv, .slice ae s.tenants.length ke⟩ ∧ w'.ownsRow w.heap.size 9 1 (.slice ao k cp) k (sR ((s.vms.take k).map VMC.name))) (by kernel_rfl) ?_
            change wpAnyH _ _ _ _ _ _ _ _ (World.drew _)
            refine wpAnyH_take (i := 0) (v := .agg #[.string z.name, .int .i64 z.tenant, .int .i64 z.cpu, .int .i64 z.mem, .int .i64 z.zone, .int .i64 z.apart, .string z.node, .int .i64 z.epoch]) rfl (by kernel_rfl) (by kernel_rfl) (by kernel_rfl) (fun _ _ _ h => h) (Or.inl ⟨by kernel_rfl, fun w9 h9 => ?_⟩) HSB.out ?_
            · obtain ⟨hlg, hcx, _⟩ := h9; have z0 := hlg.cel 0 _ rfl; have z1 := hlg.cel 1 _ rfl; have z2 := hlg.cel 2 _ rfl; have z3 := hlg.cel 3 _ rfl; have z4 := hlg.cel 4 _ rfl; have z5 := hlg.cel 5 _ rfl; have z6 := hlg.cel 6 _ rfl; have z7 := hlg.cel 7 _ rfl; have x2 := hcx.cel 2 (.slice ae s.tenants.length ke) rfl; go_simp
            refine wpAnyH_take (i := 1) (v := .pointer (some ⟨b, 0, none⟩)) rfl (by kernel_rfl) (by kernel_rfl) (by kernel_rfl) (fun _ _ _ h => h) (Or.inl ⟨by kernel_rfl, fun w9 h9 => ?_⟩) HSB.out ?_
            · go_simp
            refine wpAnyH_take (i := 2) (v := .pointer (some ⟨b, 0, none⟩)) rfl (by kernel_rfl) (by kernel_rfl) (by kernel_rfl) (fun _ _ _ h => h) (Or.inl ⟨by kernel_rfl, fun w9 h9 => ?_⟩) HSB.out ?_
            · go_simp
            refine wpAnyH_take (i := 3) (v := .pointer (some ⟨b, 2, none⟩)) rfl (by kernel_rfl) (by kernel_rfl) (by kernel_rfl) (fun _ _ _ h => h) (Or.inl ⟨by kernel_rfl, fun w9 h9 => ?_⟩) HSB.out ?_
            · go_simp
            refine wpAnyH_take (i := 4) (v := .slice ae s.tenants.length ke) rfl (by kernel_rfl) (by kernel_rfl) (by kernel_rfl) (fun _ _ _ h => h) (Or.inl ⟨by kernel_rfl, fun w9 h9 => ?_⟩) HSB.out ?_
            · obtain ⟨hlg, hcx, _⟩ := h9; have z0 := hlg.cel 0 _ rfl; have z1 := hlg.cel 1 _ rfl; have z2 := hlg.cel 2 _ rfl; have z3 := hlg.cel 3 _ rfl; have z4 := hlg.cel 4 _ rfl; have z5 := hlg.cel 5 _ rfl; have z6 := hlg.cel 6 _ rfl; have z7 := hlg.cel 7 _ rfl; have x2 := hcx.cel 2 (.slice ae s.tenants.length ke) rfl; go_simp
            refine wpAnyH_take (i := 5) (v := .int .i64 (s.tenants.length : Nat)) rfl (by kernel_rfl) (by kernel_rfl) (by kernel_rfl) (fun _ _ _ h => h) (Or.inl ⟨by kernel_rfl, fun w9 h9 => ?_⟩) HSB.out ?_
            · go_simp
            refine held_one 6 (by kernel_rfl) rfl (by kernel_rfl) fun K hK => ?_
            go_simp
            go_wp2_with (go_at_call 34; refine Calls.mono (HCL.out _) ?_; rintro e u1 ⟨rfl, hb1⟩; have HS1 : Hid ((fun w' => (LG w w' b0 #[.string z.name, .int .i64 z.tenant, .int .i64 z.cpu, .int .i64 z.mem, .int .i64 z.zone, .int .i64 z.apart, .string z.node, .int .i64 z.epoch] 41) ∧ CX w' b s ⟨.slice an s.nodes.length kn, .slice (some ⟨g, o, none⟩) s.vms.length kv, .slice ae s.tenants.length ke⟩ ∧ w'.ownsRow w.heap.size 9 1 (.slice ao k cp) k (sR ((s.vms.take k).map VMC.name))) u1) := ⟨HSB.out.1.step hb1, HSB.out.2.1.below hb1, own_belowN HSB.out.2.2 hb1⟩; clear hb1)
            refine hK _ _ HS1.out ?_
            clear hK K
            refine wpAnyH_take (i := 7) (v := .bool false) rfl (by kernel_rfl) (by kernel_rfl) (by kernel_rfl) (fun _ _ _ h => h) (Or.inl ⟨by kernel_rfl, fun w9 h9 => ?_⟩) HS1.out ?_
            · go_simp
            refine wpAnyH_take (i := 8) (v := .bool false) rfl (by kernel_rfl) (by kernel_rfl) (by kernel_rfl) (fun _ _ _ h => h) (Or.inl ⟨by kernel_rfl, fun w9 h9 => ?_⟩) HS1.out ?_
            · go_simp
            refine wpAnyH_take (i := 9) (v := .pointer (some ⟨b0, 7, none⟩)) rfl (by kernel_rfl) (by kernel_rfl) (by kernel_rfl) (fun _ _ _ h => h) (Or.inl ⟨by kernel_rfl, fun w9 h9 => ?_⟩) HS1.out ?_
            · go_simp
            refine wpAnyH_take (i := 10) (v := .int .i64 z.epoch) rfl (by kernel_rfl) (by kernel_rfl) (by kernel_rfl) (fun _ _ _ h => h) (Or.inl ⟨by kernel_rfl, fun w9 h9 => ?_⟩) HS1.out ?_
            · obtain ⟨hlg, hcx, _⟩ := h9; have z0 := hlg.cel 0 _ rfl; have z1 := hlg.cel 1 _ rfl; have z2 := hlg.cel 2 _ rfl; have z3 := hlg.cel 3 _ rfl; have z4 := hlg.cel 4 _ rfl; have z5 := hlg.cel 5 _ rfl; have z6 := hlg.cel 6 _ rfl; have z7 := hlg.cel 7 _ rfl; have x2 := hcx.cel 2 (.slice ae s.tenants.length ke) rfl; go_simp
            refine wpAnyH_take (i := 11) (v := .bool false) rfl (by kernel_rfl) (by kernel_rfl) (by kernel_rfl) (fun _ _ _ h => h) (Or.inl ⟨by kernel_rfl, fun w9 h9 => ?_⟩) HS1.out ?_
            · go_simp; all_goals omega
            refine wpAnyH_take (i := 12) (v := .bool false) rfl (by kernel_rfl) (by kernel_rfl) (by kernel_rfl) (fun _ _ _ h => h) (Or.inl ⟨by kernel_rfl, fun w9 h9 => ?_⟩) HS1.out ?_
            · go_simp
            refine wpAnyH_take (i := 13) (v := .bool false) rfl (by kernel_rfl) (by kernel_rfl) (by kernel_rfl) (fun _ _ _ h => h) (Or.inl ⟨by kernel_rfl, fun w9 h9 => ?_⟩) HS1.out ?_
            · go_simp
            refine wpAnyH_take (i := 14) (v := .pointer (some ⟨b0, 7, none⟩)) rfl (by kernel_rfl) (by kernel_rfl) (by kernel_rfl) (fun _ _ _ h => h) (Or.inl ⟨by kernel_rfl, fun w9 h9 => ?_⟩) HS1.out ?_
            · go_simp
            refine wpAnyH_take (i := 15) (v := .int .i64 z.epoch) rfl (by kernel_rfl) (by kernel_rfl) (by kernel_rfl) (fun _ _ _ h => h) (Or.inl ⟨by kernel_rfl, fun w9 h9 => ?_⟩) HS1.out ?_
            · obtain ⟨hlg, hcx, _⟩ := h9; have z0 := hlg.cel 0 _ rfl; have z1 := hlg.cel 1 _ rfl; have z2 := hlg.cel 2 _ rfl; have z3 := hlg.cel 3 _ rfl; have z4 := hlg.cel 4 _ rfl; have z5 := hlg.cel 5 _ rfl; have z6 := hlg.cel 6 _ rfl; have z7 := hlg.cel 7 _ rfl; have x2 := hcx.cel 2 (.slice ae s.tenants.length ke) rfl; go_simp
            refine wpAnyH_take (i := 16) (v := .bool true) rfl (by kernel_rfl) (by kernel_rfl) (by kernel_rfl) (fun _ _ _ h => h) (Or.inl ⟨by kernel_rfl, fun w9 h9 => ?_⟩) HS1.out ?_
            · go_simp; all_goals omega
            refine wpAnyH_take (i := 17) (v := .bool true) rfl (by kernel_rfl) (by kernel_rfl) (by kernel_rfl) (fun _ _ _ h => h) (Or.inl ⟨by kernel_rfl, fun w9 h9 => ?_⟩) HS1.out ?_
            · go_simp
            refine wpAnyH_done (by kernel_rfl) ?_ _
            go_simp
            go_wp2
            go_ret
            exact ⟨ret_bool E3.out.symm, HS1.out.1.bel⟩
        · skip
          have E3 : Hid (V = false) := HBAD.out (HEK.out.trans (by have r1 := of_decide_eq_true q1; simp [epB]; try omega))
          clear HS HALL HEK HBAD
          have HSB : Hid ((fun w' => (LG w w' b0 #[.string z.name, .int .i64 z.tenant, .int .i64 z.cpu, .int .i64 z.mem, .int .i64 z.zone, .int .i64 z.apart, .string z.node, .int .i64 z.epoch] 41) ∧ CX w' b s ⟨.slice an s.nodes.length kn, .slice (some ⟨g, o, none⟩) s.vms.length kv, .slice ae s.tenants.length ke⟩ ∧ w'.ownsRow w.heap.size 9 1 (.slice ao k cp) k (sR ((s.vms.take k).map VMC.name))) u0.drew) := ⟨HZ.out.drew, HX1.out.below ⟨rfl, rfl, rfl, Nat.le_refl _, fun _ _ => rfl⟩, own_belowN HO1.out (⟨rfl, rfl, rfl, Nat.le_refl _, fun _ _ => rfl⟩ : Below u0.heap.size u0 u0.drew)⟩
          refine wp_region_held (S := fun w' => (LG w w' b0 #[.string z.name, .int .i64 z.tenant, .int .i64 z.cpu, .int .i64 z.mem, .int .i64 z.zone, .int .i64 z.apart, .string z.node, .int .i64 z.epoch] 41) ∧ CX w' b s ⟨.slice an s.nodes.length kn, .slice (some ⟨g, o, none⟩) s.vms.length kv, .slice ae s.tenants.length ke⟩ ∧ w'.ownsRow w.heap.size 9 1 (.slice ao k cp) k (sR ((s.vms.take k).map VMC.name))) (by kernel_rfl) ?_
          change wpAnyH _ _ _ _ _ _ _ _ (World.drew _)
          refine wpAnyH_take (i := 0) (v := .agg #[.string z.name, .int .i64 z.tenant, .int .i64 z.cpu, .int .i64 z.mem, .int .i64 z.zone, .int .i64 z.apart, .string z.node, .int .i64 z.epoch]) rfl (by kernel_rfl) (by kernel_rfl) (by kernel_rfl) (fun _ _ _ h => h) (Or.inl ⟨by kernel_rfl, fun w9 h9 => ?_⟩) HSB.out ?_
          · obtain ⟨hlg, hcx, _⟩ := h9; have z0 := hlg.cel 0 _ rfl; have z1 := hlg.cel 1 _ rfl; have z2 := hlg.cel 2 _ rfl; have z3 := hlg.cel 3 _ rfl; have z4 := hlg.cel 4 _ rfl; have z5 := hlg.cel 5 _ rfl; have z6 := hlg.cel 6 _ rfl; have z7 := hlg.cel 7 _ rfl; have x2 := hcx.cel 2 (.slice ae s.tenants.length ke) rfl; go_simp
          refine wpAnyH_take (i := 1) (v := .pointer (some ⟨b, 0, none⟩)) rfl (by kernel_rfl) (by kernel_rfl) (by kernel_rfl) (fun _ _ _ h => h) (Or.inl ⟨by kernel_rfl, fun w9 h9 => ?_⟩) HSB.out ?_
          · go_simp
          refine wpAnyH_take (i := 2) (v := .pointer (some ⟨b, 0, none⟩)) rfl (by kernel_rfl) (by kernel_rfl) (by kernel_rfl) (fun _ _ _ h => h) (Or.inl ⟨by kernel_rfl, fun w9 h9 => ?_⟩) HSB.out ?_
          · go_simp
          refine wpAnyH_take (i := 3) (v := .pointer (some ⟨b, 2, none⟩)) rfl (by kernel_rfl) (by kernel_rfl) (by kernel_rfl) (fun _ _ _ h => h) (Or.inl ⟨by kernel_rfl, fun w9 h9 => ?_⟩) HSB.out ?_
          · go_simp
          refine wpAnyH_take (i := 4) (v := .slice ae s.tenants.length ke) rfl (by kernel_rfl) (by kernel_rfl) (by kernel_rfl) (fun _ _ _ h => h) (Or.inl ⟨by kernel_rfl, fun w9 h9 => ?_⟩) HSB.out ?_
          · obtain ⟨hlg, hcx, _⟩ := h9; have z0 := hlg.cel 0 _ rfl; have z1 := hlg.cel 1 _ rfl; have z2 := hlg.cel 2 _ rfl; have z3 := hlg.cel 3 _ rfl; have z4 := hlg.cel 4 _ rfl; have z5 := hlg.cel 5 _ rfl; have z6 := hlg.cel 6 _ rfl; have z7 := hlg.cel 7 _ rfl; have x2 := hcx.cel 2 (.slice ae s.tenants.length ke) rfl; go_simp
          refine wpAnyH_take (i := 5) (v := .int .i64 (s.tenants.length : Nat)) rfl (by kernel_rfl) (by kernel_rfl) (by kernel_rfl) (fun _ _ _ h => h) (Or.inl ⟨by kernel_rfl, fun w9 h9 => ?_⟩) HSB.out ?_
          · go_simp
          refine held_one 6 (by kernel_rfl) rfl (by kernel_rfl) fun K hK => ?_
          go_simp
          go_wp2_with (go_at_call 34; refine Calls.mono (HCL.out _) ?_; rintro e u1 ⟨rfl, hb1⟩; have HS1 : Hid ((fun w' => (LG w w' b0 #[.string z.name, .int .i64 z.tenant, .int .i64 z.cpu, .int .i64 z.mem, .int .i64 z.zone, .int .i64 z.apart, .string z.node, .int .i64 z.epoch] 41) ∧ CX w' b s ⟨.slice an s.nodes.length kn, .slice (some ⟨g, o, none⟩) s.vms.length kv, .slice ae s.tenants.length ke⟩ ∧ w'.ownsRow w.heap.size 9 1 (.slice ao k cp) k (sR ((s.vms.take k).map VMC.name))) u1) := ⟨HSB.out.1.step hb1, HSB.out.2.1.below hb1, own_belowN HSB.out.2.2 hb1⟩; clear hb1)
          refine hK _ _ HS1.out ?_
          clear hK K
          refine wpAnyH_take (i := 7) (v := .bool false) rfl (by kernel_rfl) (by kernel_rfl) (by kernel_rfl) (fun _ _ _ h => h) (Or.inl ⟨by kernel_rfl, fun w9 h9 => ?_⟩) HS1.out ?_
          · go_simp
          refine wpAnyH_take (i := 8) (v := .bool false) rfl (by kernel_rfl) (by kernel_rfl) (by kernel_rfl) (fun _ _ _ h => h) (Or.inl ⟨by kernel_rfl, fun w9 h9 => ?_⟩) HS1.out ?_
          · go_simp
          refine wpAnyH_take (i := 9) (v := .pointer (some ⟨b0, 7, none⟩)) rfl (by kernel_rfl) (by kernel_rfl) (by kernel_rfl) (fun _ _ _ h => h) (Or.inl ⟨by kernel_rfl, fun w9 h9 => ?_⟩) HS1.out ?_
          · go_simp
          refine wpAnyH_take (i := 10) (v := .int .i64 z.epoch) rfl (by kernel_rfl) (by kernel_rfl) (by kernel_rfl) (fun _ _ _ h => h) (Or.inl ⟨by kernel_rfl, fun w9 h9 => ?_⟩) HS1.out ?_
          · obtain ⟨hlg, hcx, _⟩ := h9; have z0 := hlg.cel 0 _ rfl; have z1 := hlg.cel 1 _ rfl; have z2 := hlg.cel 2 _ rfl; have z3 := hlg.cel 3 _ rfl; have z4 := hlg.cel 4 _ rfl; have z5 := hlg.cel 5 _ rfl; have z6 := hlg.cel 6 _ rfl; have z7 := hlg.cel 7 _ rfl; have x2 := hcx.cel 2 (.slice ae s.tenants.length ke) rfl; go_simp
          refine wpAnyH_take (i := 11) (v := .bool true) rfl (by kernel_rfl) (by kernel_rfl) (by kernel_rfl) (fun _ _ _ h => h) (Or.inl ⟨by kernel_rfl, fun w9 h9 => ?_⟩) HS1.out ?_
          · go_simp; all_goals omega
          refine wpAnyH_take (i := 12) (v := .bool true) rfl (by kernel_rfl) (by kernel_rfl) (by kernel_rfl) (fun _ _ _ h => h) (Or.inl ⟨by kernel_rfl, fun w9 h9 => ?_⟩) HS1.out ?_
          · go_simp
          refine wpAnyH_take (i := 13) (v := .bool true) rfl (by kernel_rfl) (by kernel_rfl) (by kernel_rfl) (fun _ _ _ h => h) (Or.inl ⟨by kernel_rfl, fun w9 h9 => ?_⟩) HS1.out ?_
          · go_simp
          refine wpAnyH_take (i := 14) (v := undef) rfl (by kernel_rfl) (by kernel_rfl) (by kernel_rfl) (fun _ _ _ h => h) (Or.inr ⟨by kernel_rfl, rfl⟩) HS1.out ?_
          refine wpAnyH_take (i := 15) (v := undef) rfl (by kernel_rfl) (by kernel_rfl) (by kernel_rfl) (fun _ _ _ h => h) (Or.inr ⟨by kernel_rfl, rfl⟩) HS1.out ?_
          refine wpAnyH_take (i := 16) (v := undef) rfl (by kernel_rfl) (by kernel_rfl) (by kernel_rfl) (fun _ _ _ h => h) (Or.inr ⟨by kernel_rfl, rfl⟩) HS1.out ?_
          refine wpAnyH_take (i := 17) (v := .bool true) rfl (by kernel_rfl) (by kernel_rfl) (by kernel_rfl) (fun _ _ _ h => h) (Or.inl ⟨by kernel_rfl, fun w9 h9 => ?_⟩) HS1.out ?_
          · go_simp
          refine wpAnyH_done (by kernel_rfl) ?_ _
          go_simp
          go_wp2
          go_ret
          exact ⟨ret_bool E3.out.symm, HS1.out.1.bel⟩
    · obtain rfl : k = s.vms.length := by omega
      have E2 : Hid (V = RS) := (show V = RS by rw [E.out, HALL.out, Bool.true_and])
      have HSR : Hid (Srow wr (.slice ao s.vms.length cp) (s.vms.map VMC.name)) := by
        have h9 := HO.out
        rw [List.take_length] at h9
        have h8 : (s.vms.map VMC.name).length = s.vms.length := by simp
        have h7 := Srow.of (zs := s.vms.map VMC.name) (v := .slice ao s.vms.length cp) (B := w.heap.size) (w := wr) (by rw [h8]; exact h9)
        exact h7
      clear E HALL HO HXR
      go_wp2_with (go_at_call 70; refine Calls.mono (HAR.out _ _ HSR.out) ?_; rintro e u1 ⟨rfl, hu⟩; have HB1 : Hid (Below w.heap.size w u1) := HB.out.trans (hu.mono HB.out.size); clear hu)
      go_ret
      exact ⟨ret_bool E2.out.symm, HB1.out⟩

def tbB (s : CL) (q : Nat) : Bool := decide (usC s q ≤ (teA s q).cpu) && decide (usM s q ≤ (teA s q).mem)
theorem CX.dr {w : World} {b : Nat} {s : CL} {a : CA} (h : CX w b s a) : CX w.drew b s a := h.below ⟨rfl, rfl, rfl, Nat.le_refl _, fun _ _ => rfl⟩
set_option maxRecDepth 100000 in
set_option maxHeartbeats 4000000 in
theorem tenantBears_any {w : World} {b : Nat} {s : CL} {a : CA} (h : CX w b s a) (hl : s.vms.length ≤ 1048576) (q : Nat) (hq : q < s.tenants.length) : Calls Try.prog 72 #[.pointer (some ⟨b, 0, none⟩), .agg #[.string ⟨#[]⟩, .int .i64 q, .int .i64 0, .int .i64 0, .int .i64 0, .int .i64 0, .string ⟨#[]⟩, .int .i64 0]] w fun e w' => e = .returned (.bool (tbB s q)) ∧ Below w.heap.size w w' := by
  have HV0 : Hid (LG w (w.alloc (.cells #[.string ⟨#[]⟩, .int .i64 q, .int .i64 0, .int .i64 0, .int .i64 0, .int .i64 0, .string ⟨#[]⟩, .int .i64 0] 41)) w.heap.size #[.string ⟨#[]⟩, .int .i64 q, .int .i64 0, .int .i64 0, .int .i64 0, .int .i64 0, .string ⟨#[]⟩, .int .i64 0] 41) := LG.new w _ _
  have HX0 : Hid (CX (w.alloc (.cells #[.string ⟨#[]⟩, .int .i64 q, .int .i64 0, .int .i64 0, .int .i64 0, .int .i64 0, .string ⟨#[]⟩, .int .i64 0] 41)) b s a) := h.below HV0.out.bel
  obtain ⟨an, kn, av, kv, ae, ke, e⟩ := h.rows.sl
  subst e
  have HR : Hid (VMCrow w (.slice av s.vms.length kv) s.vms) := h.rows.rvms
  have HT : Hid (TNTrow w (.slice ae s.tenants.length ke) s.tenants) := h.rows.rtenants
  clear h
  have HFC : Hid (usC s q = smW VMC.cpu (fun x => decide (x.tenant = (q : Int))) 0 (s.vms.take s.vms.length)) := (show _ = _ by rw [List.take_length]; rfl)
  have HFM : Hid (usM s q = smW VMC.mem (fun x => decide (x.tenant = (q : Int))) 0 (s.vms.take s.vms.length)) := (show _ = _ by rw [List.take_length]; rfl)
  have HE : Hid (tbB s q = (decide (usC s q ≤ s.tenants[q].cpu) && decide (usM s q ≤ s.tenants[q].mem))) := (show _ = _ by unfold tbB; rw [teA_at hq])
  generalize tbB s q = V at *
  go_enter Try.func72, Try.ntmps72
  go_upto_region 1 with fail
  generalize (w.alloc (.cells #[.string ⟨#[]⟩, .int .i64 q, .int .i64 0, .int .i64 0, .int .i64 0, .int .i64 0, .string ⟨#[]⟩, .int .i64 0] 41)) = u0 at *
  generalize hbv : w.heap.size = bv at HV0 ⊢
  have v1 := HV0.out.cel 1 _ rfl
  have v2 := HV0.out.cel 2 _ rfl
  have v3 := HV0.out.cel 3 _ rfl
  have vl := HV0.out.lt
  go_quiet (fail)
  have HV1 : Hid (∀ n, LG w (u0.drewN n) bv #[.string ⟨#[]⟩, .int .i64 q, .int .i64 0, .int .i64 0, .int .i64 0, .int .i64 0, .string ⟨#[]⟩, .int .i64 0] 41) := fun n => HV0.out.drewN n
  have HX1 : Hid (∀ n, CX (u0.drewN n) b s ⟨.slice an s.nodes.length kn, .slice av s.vms.length kv, .slice ae s.tenants.length ke⟩) := fun n => HX0.out.below (Below.drewN _ n)
  have c1 := HX0.out.cel 1 (.slice av s.vms.length kv) rfl
  have cl := HX0.out.lt
  clear v1 v2 v3 vl HV0
  go_wp2
  clear c1 cl HX0
  go_loopw [5, 6, 19] (fun c m i wr => ∃ k : Nat, k ≤ s.vms.length ∧ c = .int .i64 (smW VMC.cpu (fun x => decide (x.tenant = (q : Int))) 0 (s.vms.take k)) ∧ m = .int .i64 (smW VMC.mem (fun x => decide (x.tenant = (q : Int))) 0 (s.vms.take k)) ∧ i = .int .i64 k ∧ LG w wr bv #[.string ⟨#[]⟩, .int .i64 q, .int .i64 0, .int .i64 0, .int .i64 0, .int .i64 0, .string ⟨#[]⟩, .int .i64 0] 41 ∧ CX wr b s ⟨.slice an s.nodes.length kn, .slice av s.vms.length kv, .slice ae s.tenants.length ke⟩) (fun _ _ i _ => s.vms.length - (intOf i).toNat)
  case atStart => exact ⟨0, Nat.zero_le _, rfl, rfl, rfl, HV1.out _, HX1.out _⟩
  case round =>
    obtain ⟨k, hk, rfl, rfl, rfl, hv, hx⟩ := hrel
    have HV : Hid (LG w wr bv #[.string ⟨#[]⟩, .int .i64 q, .int .i64 0, .int .i64 0, .int .i64 0, .int .i64 0, .string ⟨#[]⟩, .int .i64 0] 41) := hv
    have HX : Hid (CX wr b s ⟨.slice an s.nodes.length kn, .slice av s.vms.length kv, .slice ae s.tenants.length ke⟩) := hx
    have HB : Hid (Below w.heap.size w wr) := hv.bel
    clear hv hx HV1 HX1
    by_cases hlt : k < s.vms.length
    · skip
      obtain ⟨g, o, cap2, hv, _, hg, hc⟩ := HR.out.resolve_left (fun h => by rw [h.1] at hlt; simp at hlt)
      injection hv with hv1 hv2 hv3
      subst hv1 hv3
      have hgw : g < wr.heap.size := Nat.lt_of_lt_of_le hg HB.out.size
      have hk0 : (0 : Int) ≤ (k : Int) := by omega
      have hk1 : (k : Int) < (s.vms.length : Int) := by omega
      obtain ⟨d0, d1, d2, d3, d4, d5, d6, d7⟩ := hc.below HB.out hg k hlt
      have HSC : Hid (smW VMC.cpu (fun x => decide (x.tenant = (q : Int))) 0 (s.vms.take (k + 1)) = _) := smW_succ hlt
      have HSM : Hid (smW VMC.mem (fun x => decide (x.tenant = (q : Int))) 0 (s.vms.take (k + 1)) = _) := smW_succ hlt
      generalize smW VMC.cpu (fun x => decide (x.tenant = (q : Int))) 0 (s.vms.take k) = SC at *
      generalize smW VMC.mem (fun x => decide (x.tenant = (q : Int))) 0 (s.vms.take k) = SM at *
      clear HFC HFM HE HT
      generalize s.vms[k] = z at *
      go_upto_region 5 with fail
      have HV2 : Hid (LG w (wr.alloc (.cells #[.string z.name, .int .i64 z.tenant, .int .i64 z.cpu, .int .i64 z.mem, .int .i64 z.zone, .int .i64 z.apart, .string z.node, .int .i64 z.epoch] 41)) bv #[.string ⟨#[]⟩, .int .i64 q, .int .i64 0, .int .i64 0, .int .i64 0, .int .i64 0, .string ⟨#[]⟩, .int .i64 0] 41) := HV.out.next
      have HX2 : Hid (CX (wr.alloc (.cells #[.string z.name, .int .i64 z.tenant, .int .i64 z.cpu, .int .i64 z.mem, .int .i64 z.zone, .int .i64 z.apart, .string z.node, .int .i64 z.epoch] 41)) b s ⟨.slice an s.nodes.length kn, .slice (some ⟨g, o, none⟩) s.vms.length kv, .slice ae s.tenants.length ke⟩) := HX.out.below (bx1 _ _)
      have HZ2 : Hid (LG w (wr.alloc (.cells #[.string z.name, .int .i64 z.tenant, .int .i64 z.cpu, .int .i64 z.mem, .int .i64 z.zone, .int .i64 z.apart, .string z.node, .int .i64 z.epoch] 41)) wr.heap.size #[.string z.name, .int .i64 z.tenant, .int .i64 z.cpu, .int .i64 z.mem, .int .i64 z.zone, .int .i64 z.apart, .string z.node, .int .i64 z.epoch] 41) := LG.mk2 HB.out
      clear hc d0 d1 d2 d3 d4 d5 d6 d7 HV HX HB hgw hk0 hk1 HR
      generalize (wr.alloc (.cells #[.string z.name, .int .i64 z.tenant, .int .i64 z.cpu, .int .i64 z.mem, .int .i64 z.zone, .int .i64 z.apart, .string z.node, .int .i64 z.epoch] 41)) = u1 at *
      generalize wr.heap.size = bz at *
      have v1 := HV2.out.cel 1 _ rfl
      have vl := HV2.out.lt
      have z1 := HZ2.out.cel 1 _ rfl
      have z2 := HZ2.out.cel 2 _ rfl
      have z3 := HZ2.out.cel 3 _ rfl
      have zl := HZ2.out.lt
      cases hq2 : (z.tenant == (q : Int))
      · have E2 : Hid (smW VMC.cpu (fun x => decide (x.tenant = (q : Int))) 0 (s.vms.take (k + 1)) = SC) := HSC.out.trans (if_neg (by simpa using hq2))
        have E3 : Hid (smW VMC.mem (fun x => decide (x.tenant = (q : Int))) 0 (s.vms.take (k + 1)) = SM) := HSM.out.trans (if_neg (by simpa using hq2))
        clear HSC HSM
        go_wp2
        exact ⟨⟨k + 1, hlt, by rw [E2.out], by rw [E3.out], by go_num, HV2.out, HX2.out⟩, by simp [intOf]; omega⟩
      · have E2 : Hid (smW VMC.cpu (fun x => decide (x.tenant = (q : Int))) 0 (s.vms.take (k + 1)) = wrap64 (SC + z.cpu)) := HSC.out.trans (if_pos (by simpa using hq2))
        have E3 : Hid (smW VMC.mem (fun x => decide (x.tenant = (q : Int))) 0 (s.vms.take (k + 1)) = wrap64 (SM + z.mem)) := HSM.out.trans (if_pos (by simpa using hq2))
        clear HSC HSM
        go_upto_region 6 with fail
        go_quiet (fail)
        go_wp2
        exact ⟨⟨k + 1, hlt, by rw [E2.out], by rw [E3.out], by go_num, HV2.out.drewN _, HX2.out.below (Below.drewN _ _)⟩, by simp [intOf]; omega⟩
    · obtain rfl : k = s.vms.length := by omega
      rw [← HFC.out, ← HFM.out]
      clear HFC HFM HR hk
      generalize usC s q = UC at *
      generalize usM s q = UM at *
      obtain ⟨g, o, cap2, hv, _, hg, hc⟩ := HT.out.resolve_left (fun h => by rw [h.1] at hq; simp at hq)
      injection hv with hv1 hv2 hv3
      subst hv1 hv3
      obtain ⟨d0, d1, d2⟩ := hc.below HB.out hg q hq
      have hgw : g < wr.heap.size := Nat.lt_of_lt_of_le hg HB.out.size
      have hk0 : (0 : Int) ≤ (q : Int) := by omega
      have hk1 : (q : Int) < (s.tenants.length : Int) := by omega
      have c2 := HX.out.cel 2 (.slice (some ⟨g, o, none⟩) s.tenants.length ke) rfl
      have cl := HX.out.lt
      have v1 := HV.out.cel 1 _ rfl
      have vl := HV.out.lt
      clear hc HT
      generalize s.tenants[q] = t at *
      go_upto_region 8 with fail
      go_region
      have HT2 : Hid (LG w (wr.alloc (.cells #[.int .i64 t.cpu, .int .i64 t.mem, .int .i64 t.bill] 54)).drew wr.heap.size #[.int .i64 t.cpu, .int .i64 t.mem, .int .i64 t.bill] 54) := (LG.mk2 HB.out).drew
      clear d0 d1 d2 c2 cl v1 vl hk0 hk1 hgw HV HX
      generalize (wr.alloc (.cells #[.int .i64 t.cpu, .int .i64 t.mem, .int .i64 t.bill] 54)).drew = u1 at *
      generalize wr.heap.size = bt at *
      have t0 := HT2.out.cel 0 _ rfl
      have t1 := HT2.out.cel 1 _ rfl
      have tl := HT2.out.lt
      cases q1 : decide (UC ≤ t.cpu)
      · have E2 : Hid (V = false) := (show V = false by rw [HE.out, q1]; rfl)
        clear HE
        go_wp2
        go_ret
        exact ⟨ret_bool E2.out.symm, hbv ▸ HT2.out.bel⟩
      · cases q2 : decide (UM ≤ t.mem)
        · have E2 : Hid (V = false) := (show V = false by rw [HE.out, q1, q2]; rfl)
          clear HE
          go_wp2
          go_ret
          exact ⟨ret_bool E2.out.symm, hbv ▸ HT2.out.bel⟩
        · have E2 : Hid (V = true) := (show V = true by rw [HE.out, q1, q2]; rfl)
          clear HE
          go_wp2
          go_ret
          exact ⟨ret_bool E2.out.symm, hbv ▸ HT2.out.bel⟩
set_option maxRecDepth 100000 in
set_option maxHeartbeats 4000000 in
theorem tenantsR_any {w : World} {b : Nat} {s : CL} {a : CA} (h : CX w b s a) (hl : s.vms.length ≤ 1048576) (ht : s.tenants.length ≤ 1048576) : Calls Try.prog 46 #[.pointer (some ⟨b, 0, none⟩)] w fun e w' => e = .returned (.bool (allD (tkB s) s.tenants.length)) ∧ Below w.heap.size w w' := by
  have HX : Hid (CX w b s a) := h
  obtain ⟨an, kn, av, kv, ae, ke, e⟩ := h.rows.sl
  subst e
  have HT : Hid (TNTrow w (.slice ae s.tenants.length ke) s.tenants) := h.rows.rtenants
  have c2 := h.cel 2 (.slice ae s.tenants.length ke) rfl
  have cl := h.lt
  clear h
  obtain ⟨V, hV⟩ : ∃ V, allD (tkB s) s.tenants.length = V := ⟨_, rfl⟩
  rw [hV]
  have E : Hid (V = allD (tkB s) s.tenants.length) := hV.symm
  clear hV
  go_enter Try.func46, Try.ntmps46
  go_wp2
  clear c2 cl
  go_loopw [10] (fun i wr => ∃ k : Nat, k ≤ s.tenants.length ∧ i = .int .i64 k ∧ allD (tkB s) k = true ∧ Below w.heap.size w wr) (fun i _ => s.tenants.length - (intOf i).toNat)
  case atStart => exact ⟨0, Nat.zero_le _, rfl, rfl, Below.refl _ _⟩
  case round =>
    obtain ⟨k, hk, rfl, hok, hb⟩ := hrel
    have HALL : Hid (allD (tkB s) k = true) := hok
    have HB : Hid (Below w.heap.size w wr) := hb
    clear hok hb
    by_cases hlt : k < s.tenants.length
    · have HXW : Hid (CX wr b s ⟨.slice an s.nodes.length kn, .slice av s.vms.length kv, .slice ae s.tenants.length ke⟩) := HX.out.below HB.out
      obtain ⟨g, o, cap2, hv, _, hg, hc⟩ := HT.out.resolve_left (fun h => by rw [h.1] at hlt; simp at hlt)
      injection hv with hv1 hv2 hv3
      subst hv1 hv3
      have hgw : g < wr.heap.size := Nat.lt_of_lt_of_le hg HB.out.size
      have hk0 : (0 : Int) ≤ (k : Int) := by omega
      have hk1 : (k : Int) < (s.tenants.length : Int) := by omega
      obtain ⟨d0, d1, d2⟩ := hc.below HB.out hg k hlt
      have HS : Hid (allD (tkB s) (k + 1) = (allD (tkB s) k && tkB s k)) := allD_succ _ _
      have HBAD : Hid (tkB s k = false → V = false) := fun hh => by rw [E.out, allD_bad hlt hh]
      have HEK : Hid (tkB s k = (tntB s.tenants[k] && tbB s k)) := (show _ = _ by rw [tkB_at hlt]; unfold tbB; rw [teA_at hlt, Bool.and_assoc])
      have HTR : Hid (∀ u, Calls Try.prog 71 #[.agg #[.int .i64 s.tenants[k].cpu, .int .i64 s.tenants[k].mem, .int .i64 s.tenants[k].bill]] u fun e w' => e = .returned (.bool (tntB s.tenants[k])) ∧ Below u.heap.size u w') := fun u => teRight_any _ u
      have HTB : Hid (∀ u, CX u b s ⟨.slice an s.nodes.length kn, .slice av s.vms.length kv, .slice (some ⟨g, o, none⟩) s.tenants.length ke⟩ → Calls Try.prog 72 #[.pointer (some ⟨b, 0, none⟩), .agg #[.string ⟨#[]⟩, .int .i64 k, .int .i64 0, .int .i64 0, .int .i64 0, .int .i64 0, .string ⟨#[]⟩, .int .i64 0]] u fun e w' => e = .returned (.bool (tbB s k)) ∧ Below u.heap.size u w') := fun u hu => tenantBears_any hu hl k hlt
      generalize s.tenants[k] = z at *
      generalize tntB z = TB1 at *
      generalize tbB s k = TB2 at *
      go_upto_region 4 with fail
      have HX2 : Hid (CX (wr.alloc (.cells #[.int .i64 z.cpu, .int .i64 z.mem, .int .i64 z.bill] 54)) b s ⟨.slice an s.nodes.length kn, .slice av s.vms.length kv, .slice (some ⟨g, o, none⟩) s.tenants.length ke⟩) := HXW.out.below (bx1 _ _)
      have HZ2 : Hid (LG w (wr.alloc (.cells #[.int .i64 z.cpu, .int .i64 z.mem, .int .i64 z.bill] 54)) wr.heap.size #[.int .i64 z.cpu, .int .i64 z.mem, .int .i64 z.bill] 54) := LG.mk2 HB.out
      clear hc d0 d1 d2 HXW HB hgw hk0 hk1 HT HX E
      generalize (wr.alloc (.cells #[.int .i64 z.cpu, .int .i64 z.mem, .int .i64 z.bill] 54)) = u1 at *
      generalize wr.heap.size = bz at *
      have z0 := HZ2.out.cel 0 _ rfl
      have z1 := HZ2.out.cel 1 _ rfl
      have z2 := HZ2.out.cel 2 _ rfl
      have zl := HZ2.out.lt
      cases TB1
      · have E2 : Hid (V = false) := HBAD.out (HEK.out.trans (by simp))
        clear HS HBAD HEK HALL HTB
        go_wp2_with (go_at_call 71; refine Calls.mono (HTR.out _) ?_; rintro e u2 ⟨rfl, hb⟩; have HZ3 : Hid (LG w u2 bz #[.int .i64 z.cpu, .int .i64 z.mem, .int .i64 z.bill] 54) := HZ2.out.step hb; clear hb)
        go_ret
        exact ⟨ret_bool E2.out.symm, HZ3.out.bel⟩
      · cases TB2
        · have E2 : Hid (V = false) := HBAD.out (HEK.out.trans (by simp))
          clear HS HBAD HEK HALL
          go_wp2_with (first | (go_at_call 71; refine Calls.mono (HTR.out _) ?_; rintro e u2 ⟨rfl, hb⟩; have HZ3 : Hid (LG w u2 bz #[.int .i64 z.cpu, .int .i64 z.mem, .int .i64 z.bill] 54) := HZ2.out.step hb; have HX3 : Hid (CX u2 b s ⟨.slice an s.nodes.length kn, .slice av s.vms.length kv, .slice (some ⟨g, o, none⟩) s.tenants.length ke⟩) := HX2.out.below hb; clear hb) | (go_at_call 72; refine Calls.mono (HTB.out _ HX3.out) ?_; rintro e u3 ⟨rfl, hb⟩; have HZ4 : Hid (LG w u3 bz #[.int .i64 z.cpu, .int .i64 z.mem, .int .i64 z.bill] 54) := HZ3.out.step hb; clear hb))
          go_ret
          exact ⟨ret_bool E2.out.symm, HZ4.out.bel⟩
        · have E2 : Hid (allD (tkB s) (k + 1) = true) := (show allD (tkB s) (k + 1) = true by rw [HS.out, HALL.out, HEK.out]; rfl)
          clear HS HBAD HEK HALL
          go_wp2_with (first | (go_at_call 71; refine Calls.mono (HTR.out _) ?_; rintro e u2 ⟨rfl, hb⟩; have HZ3 : Hid (LG w u2 bz #[.int .i64 z.cpu, .int .i64 z.mem, .int .i64 z.bill] 54) := HZ2.out.step hb; have HX3 : Hid (CX u2 b s ⟨.slice an s.nodes.length kn, .slice av s.vms.length kv, .slice (some ⟨g, o, none⟩) s.tenants.length ke⟩) := HX2.out.below hb; clear hb) | (go_at_call 72; refine Calls.mono (HTB.out _ HX3.out) ?_; rintro e u3 ⟨rfl, hb⟩; have HZ4 : Hid (LG w u3 bz #[.int .i64 z.cpu, .int .i64 z.mem, .int .i64 z.bill] 54) := HZ3.out.step hb; clear hb))
          exact ⟨⟨k + 1, hlt, by go_num, E2.out, HZ4.out.bel⟩, by simp [intOf]; omega⟩
    · obtain rfl : k = s.tenants.length := by omega
      have hnl : ¬ ((s.tenants.length : Nat) : Int) < (s.tenants.length : Int) := by omega
      have E2 : Hid (V = true) := (show V = true by rw [E.out, HALL.out])
      clear E HALL
      go_wp2
      go_ret
      exact ⟨ret_bool E2.out.symm, HB.out⟩

/-- A plain sum over machines. -/
def smP (f : VMC → Int) (p : VMC → Bool) : List VMC → Int
  | [] => 0
  | x :: xs => (if p x then f x else 0) + smP f p xs
theorem smP_bd {f : VMC → Int} {p : VMC → Bool} : ∀ xs : List VMC, (∀ x ∈ xs, 0 ≤ f x ∧ f x ≤ 1000) → 0 ≤ smP f p xs ∧ smP f p xs ≤ 1000 * (xs.length : Int)
  | [], _ => by simp [smP]
  | x :: xs, h => by
    have ih := smP_bd (f := f) (p := p) xs (fun y hy => h y (List.mem_cons_of_mem _ hy))
    have hx := h x List.mem_cons_self
    simp only [smP, List.length_cons]
    split <;> omega
theorem smW_eq {f : VMC → Int} {p : VMC → Bool} : ∀ (xs : List VMC) (a : Int), (∀ x ∈ xs, 0 ≤ f x ∧ f x ≤ 1000) → 0 ≤ a → a + 1000 * (xs.length : Int) ≤ 4000000000 → smW f p a xs = a + smP f p xs
  | [], a, _, _, _ => by simp [smW, smP]
  | x :: xs, a, h, h0, h1 => by
    have hx := h x List.mem_cons_self
    simp only [List.length_cons] at h1
    have e : smW f p a (x :: xs) = smW f p (if p x then wrap64 (a + f x) else a) xs := rfl
    have hw : wrap64 (a + f x) = a + f x := by unfold wrap64; omega
    rw [e, smP]
    cases hp : p x
    · simp only [Bool.false_eq_true, if_false]
      rw [smW_eq xs a (fun y hy => h y (List.mem_cons_of_mem _ hy)) h0 (by omega)]
      omega
    · simp only [if_true]
      rw [hw, smW_eq xs (a + f x) (fun y hy => h y (List.mem_cons_of_mem _ hy)) (by omega) (by omega)]
      omega
theorem smP_congr {f : VMC → Int} {p q : VMC → Bool} : ∀ xs : List VMC, (∀ x ∈ xs, p x = q x) → smP f p xs = smP f q xs
  | [], _ => rfl
  | x :: xs, h => by
    rw [smP, smP, h x List.mem_cons_self, smP_congr xs (fun y hy => h y (List.mem_cons_of_mem _ hy))]
theorem smP_split {f : VMC → Int} (p r : VMC → Bool) : ∀ xs : List VMC, smP f p xs = smP f (fun x => p x && r x) xs + smP f (fun x => p x && !r x) xs
  | [] => by simp [smP]
  | x :: xs => by
    rw [smP, smP, smP, smP_split p r xs]
    cases p x <;> cases r x <;> simp <;> omega
theorem smP_zero {f : VMC → Int} {p : VMC → Bool} : ∀ xs : List VMC, (∀ x ∈ xs, p x = false) → smP f p xs = 0
  | [], _ => rfl
  | x :: xs, h => by
    rw [smP, h x List.mem_cons_self, smP_zero xs (fun y hy => h y (List.mem_cons_of_mem _ hy))]
    simp
theorem smP_one {f : VMC → Int} {q : VMC → Bool} : ∀ (xs : List VMC) (j : Nat) (hj : j < xs.length), (∀ i (hi : i < xs.length), i ≠ j → q xs[i] = false) → smP f q xs = if q xs[j] then f xs[j] else 0
  | [], j, hj, _ => by simp at hj
  | x :: xs, 0, hj, h => by
    rw [smP, smP_zero xs (fun y hy => by
      obtain ⟨i, hi, rfl⟩ := List.getElem_of_mem hy
      exact h (i + 1) (by simpa using hi) (by omega))]
    simp
  | x :: xs, j + 1, hj, h => by
    rw [smP, smP_one xs j (by simpa using hj) (fun i hi hne => h (i + 1) (by simpa using hi) (by omega))]
    have := h 0 (by simp) (by omega)
    simp at this
    simp [this]
theorem getD_set_eq {cs : List (Int × Int)} {q : Nat} (hq : q < cs.length) (v : Int × Int) : (cs.set q v).getD q (0, 0) = v := by
  simp [List.getD, hq]
theorem getD_set_ne' {cs : List (Int × Int)} {q k : Nat} (h : q ≠ k) (v : Int × Int) : (cs.set q v).getD k (0, 0) = cs.getD k (0, 0) := by
  simp [List.getD, List.getElem?_set_ne h]
theorem stC_fold (s : CL) (k : Nat) : ∀ (l : List VMC) (cs : List (Int × Int)), (∀ x ∈ l, (0 ≤ x.cpu ∧ x.cpu ≤ 1000) ∧ 0 ≤ x.mem ∧ x.mem ≤ 1000) → cs.length = s.nodes.length →
    0 ≤ (cs.getD k (0, 0)).1 → (cs.getD k (0, 0)).1 + 1000 * (l.length : Int) ≤ 4000000000 → 0 ≤ (cs.getD k (0, 0)).2 → (cs.getD k (0, 0)).2 + 1000 * (l.length : Int) ≤ 4000000000 →
    ((l.foldl (stC s) cs).getD k (0, 0)).1 = (cs.getD k (0, 0)).1 + smP VMC.cpu (fun x => decide (ndX s x.node = k)) l ∧ ((l.foldl (stC s) cs).getD k (0, 0)).2 = (cs.getD k (0, 0)).2 + smP VMC.mem (fun x => decide (ndX s x.node = k)) l
  | [], cs, _, _, _, _, _, _ => by simp [smP]
  | x :: l, cs, h, hl, h0, h1, h2, h3 => by
    have hx := h x List.mem_cons_self
    simp only [List.length_cons] at h1 h3
    rw [List.foldl_cons, smP, smP]
    rcases ndX_or s x.node with ⟨e, _⟩ | ⟨q, hq, e, _⟩
    · rw [stC_no e]
      have := stC_fold s k l cs (fun y hy => h y (List.mem_cons_of_mem _ hy)) hl h0 (by omega) h2 (by omega)
      have hd : decide (ndX s x.node = (k : Int)) = false := decide_eq_false (by rw [e]; omega)
      rw [hd]
      simp only [Bool.false_eq_true, if_false]
      omega
    · have hq2 : q < cs.length := by omega
      rw [stC_yes e hq2]
      have g : cs[q] = cs.getD q (0, 0) := by simp [List.getD, hq2]
      by_cases hk : q = k
      · subst hk
        have hd : decide (ndX s x.node = (q : Int)) = true := decide_eq_true e
        have w1 : wrap64 (cs[q].1 + x.cpu) = (cs.getD q (0, 0)).1 + x.cpu := by rw [g]; unfold wrap64; omega
        have w2 : wrap64 (cs[q].2 + x.mem) = (cs.getD q (0, 0)).2 + x.mem := by rw [g]; unfold wrap64; omega
        rw [w1, w2]
        have gs := getD_set_eq hq2 ((cs.getD q (0, 0)).1 + x.cpu, (cs.getD q (0, 0)).2 + x.mem)
        have := stC_fold s q l (cs.set q ((cs.getD q (0, 0)).1 + x.cpu, (cs.getD q (0, 0)).2 + x.mem)) (fun y hy => h y (List.mem_cons_of_mem _ hy)) (by simpa using hl) (by rw [gs]; simp only; omega) (by rw [gs]; simp only; omega) (by rw [gs]; simp only; omega) (by rw [gs]; simp only; omega)
        rw [gs] at this
        rw [hd]
        simp only [if_true]
        simp only at this
        omega
      · have hd : decide (ndX s x.node = (k : Int)) = false := decide_eq_false (by rw [e]; omega)
        have gs := getD_set_ne' (cs := cs) hk (wrap64 (cs[q].1 + x.cpu), wrap64 (cs[q].2 + x.mem))
        have := stC_fold s k l (cs.set q (wrap64 (cs[q].1 + x.cpu), wrap64 (cs[q].2 + x.mem))) (fun y hy => h y (List.mem_cons_of_mem _ hy)) (by simpa using hl) (by rw [gs]; omega) (by rw [gs]; omega) (by rw [gs]; omega) (by rw [gs]; omega)
        rw [gs] at this
        rw [hd]
        simp only [Bool.false_eq_true, if_false]
        omega
theorem rs_lt {xs : List ByteArray} (h : rsB xs = true) : ∀ j (hj : j < xs.length) i (hi : i < j), tlt (xs[i]'(Nat.lt_trans hi hj)) xs[j] = true
  | 0, _, i, hi => absurd hi (Nat.not_lt_zero i)
  | j + 1, hj, i, hi => by
    have h1 := allD_iff.1 h (j + 1) hj
    rw [rkB_s hj, Bool.and_eq_true] at h1
    by_cases e : i = j
    · subst e
      exact h1.2
    · exact bl_trans _ _ _ (rs_lt h j (by omega) i (by omega)) h1.2
theorem rs_ne {xs : List ByteArray} (h : rsB xs = true) {i j : Nat} (hi : i < xs.length) (hj : j < xs.length) (hne : i ≠ j) : xs[i].toList ≠ xs[j].toList := by
  intro e
  rcases Nat.lt_or_ge i j with h1 | h1
  · have := rs_lt h j hj i h1
    unfold tlt at this
    rw [e, bl_irr] at this
    cases this
  · have := rs_lt h i hi j (by omega)
    unfold tlt at this
    rw [e, bl_irr] at this
    cases this
/-- What holds of a cluster whose lists are right. -/
structure GC (s : CL) : Prop where
  nn : s.nodes.length ≤ 12
  nv : s.vms.length ≤ 30
  nd : ∀ i j (hi : i < s.nodes.length) (hj : j < s.nodes.length), i ≠ j → s.nodes[i].name.toList ≠ s.nodes[j].name.toList
  vd : ∀ i j (hi : i < s.vms.length) (hj : j < s.vms.length), i ≠ j → s.vms[i].name.toList ≠ s.vms[j].name.toList
  vb : ∀ x ∈ s.vms, (0 ≤ x.cpu ∧ x.cpu ≤ 1000) ∧ 0 ≤ x.mem ∧ x.mem ≤ 1000
theorem GC.ndX {s : CL} (h : GC s) {k : Nat} (hk : k < s.nodes.length) (nm : ByteArray) : decide (ndX s nm = k) = (nm.toList == s.nodes[k].name.toList) := by
  rcases ndX_or s nm with ⟨e, hn⟩ | ⟨q, hq, e, hqe, _⟩
  · rw [decide_eq_false (by rw [e]; omega)]
    have := hn k hk
    cases h2 : (nm.toList == s.nodes[k].name.toList) with
    | false => rfl
    | true => rw [eq_of_beq h2] at this; simp at this
  · rw [e]
    by_cases hqk : q = k
    · subst hqk
      rw [decide_eq_true rfl, hqe]
      simp
    · rw [decide_eq_false (by omega)]
      cases h2 : (nm.toList == s.nodes[k].name.toList) with
      | false => rfl
      | true => exact absurd (hqe.trans (eq_of_beq h2)) (h.nd q k hq hk hqk)
theorem GC.cn {s : CL} (h : GC s) {k : Nat} (hk : k < s.nodes.length) :
    ((cnL s).getD k (0, 0)).1 = smP VMC.cpu (fun x => x.node.toList == s.nodes[k].name.toList) s.vms ∧ ((cnL s).getD k (0, 0)).2 = smP VMC.mem (fun x => x.node.toList == s.nodes[k].name.toList) s.vms := by
  have nv := h.nv
  have g : (List.replicate s.nodes.length ((0 : Int), (0 : Int))).getD k (0, 0) = (0, 0) := by simp [List.getD, hk]
  have := stC_fold s k s.vms (List.replicate s.nodes.length (0, 0)) h.vb (by simp) (by rw [g]; simp) (by rw [g]; simp only; omega) (by rw [g]; simp) (by rw [g]; simp only; omega)
  rw [g] at this
  simp only [Int.zero_add] at this
  refine ⟨this.1.trans (smP_congr _ fun x _ => h.ndX hk x.node), this.2.trans (smP_congr _ fun x _ => h.ndX hk x.node)⟩
theorem GC.one {s : CL} (h : GC s) (f : VMC → Int) (k : Nat) (hk : k < s.nodes.length) (nm : ByteArray) :
    smP f (fun x => (x.node.toList == s.nodes[k].name.toList) && (x.name.toList == nm.toList)) s.vms = if isO s k nm = true then f (vmA s (vmX s nm).toNat) else 0 := by
  rcases vmX_or s nm with ⟨e, hn⟩ | ⟨j, hj, e, he, _⟩
  · rw [isO_no e, smP_zero]
    · rfl
    · intro x hx
      obtain ⟨i, hi, rfl⟩ := List.getElem_of_mem hx
      rw [hn i hi, Bool.and_false]
  · rw [isO_at e hj hk, show vmA s (vmX s nm).toNat = s.vms[j] by rw [e]; exact vmA_at hj]
    rw [smP_one s.vms j hj]
    · rw [he]
      simp
    · intro i hi hne
      have := h.vd i j hi hj hne
      rw [he] at this
      have h2 : (s.vms[i].name.toList == nm.toList) = false := by simpa using this
      rw [h2, Bool.and_false]
theorem GC.ot {s : CL} (h : GC s) {k : Nat} (hk : k < s.nodes.length) (nm : ByteArray) : otC s (cnL s) k nm = smP VMC.cpu (onB s k nm) s.vms ∧ otM s (cnL s) k nm = smP VMC.mem (onB s k nm) s.vms := by
  have nv := h.nv
  obtain ⟨c1, c2⟩ := h.cn hk
  have o1 := h.one VMC.cpu k hk nm
  have o2 := h.one VMC.mem k hk nm
  have s1 := smP_split (f := VMC.cpu) (fun x => x.node.toList == s.nodes[k].name.toList) (fun x => x.name.toList == nm.toList) s.vms
  have s2 := smP_split (f := VMC.mem) (fun x => x.node.toList == s.nodes[k].name.toList) (fun x => x.name.toList == nm.toList) s.vms
  have e : onB s k nm = fun x => (x.node.toList == s.nodes[k].name.toList) && !(x.name.toList == nm.toList) := by
    funext x
    unfold onB
    rw [ndA_at hk]
  have b1 := smP_bd (f := VMC.cpu) (p := onB s k nm) s.vms (fun x hx => (h.vb x hx).1)
  have b2 := smP_bd (f := VMC.mem) (p := onB s k nm) s.vms (fun x hx => (h.vb x hx).2)
  rw [e] at b1 b2 ⊢
  unfold otC otM
  rw [c1, c2, s1, s2, o1, o2]
  generalize smP VMC.cpu (fun x => (x.node.toList == s.nodes[k].name.toList) && !(x.name.toList == nm.toList)) s.vms = P1 at *
  generalize smP VMC.mem (fun x => (x.node.toList == s.nodes[k].name.toList) && !(x.name.toList == nm.toList)) s.vms = P2 at *
  cases isO s k nm
  · simp
  · simp only [if_true]
    constructor
    · unfold wrap64
      omega
    · unfold wrap64
      omega
theorem GC.ft {s : CL} (h : GC s) {k : Nat} (hk : k < s.nodes.length) {v : VMC} (h1 : 0 ≤ v.cpu ∧ v.cpu ≤ 1000) (h2 : 0 ≤ v.mem ∧ v.mem ≤ 1000) : ftV s (cnL s) k v = hlV s k v := by
  have nv := h.nv
  obtain ⟨o1, o2⟩ := h.ot hk v.name
  have b1 := smP_bd (f := VMC.cpu) (p := onB s k v.name) s.vms (fun x hx => (h.vb x hx).1)
  have b2 := smP_bd (f := VMC.mem) (p := onB s k v.name) s.vms (fun x hx => (h.vb x hx).2)
  have w1 := smW_eq (f := VMC.cpu) (p := onB s k v.name) s.vms v.cpu (fun x hx => (h.vb x hx).1) h1.1 (by omega)
  have w2 := smW_eq (f := VMC.mem) (p := onB s k v.name) s.vms v.mem (fun x hx => (h.vb x hx).2) h2.1 (by omega)
  have e1 : wrap64 (otM s (cnL s) k v.name + v.mem) = smW VMC.mem (onB s k v.name) v.mem s.vms := by rw [w2, o2]; unfold wrap64; omega
  have e2 : wrap64 (otC s (cnL s) k v.name + v.cpu) = smW VMC.cpu (onB s k v.name) v.cpu s.vms := by rw [w1, o1]; unfold wrap64; omega
  unfold ftV hlV
  rw [e1, e2]
theorem GC.ms {s : CL} (h : GC s) {v : VMC} (h1 : 0 ≤ v.cpu ∧ v.cpu ≤ 1000) (h2 : 0 ≤ v.mem ∧ v.mem ≤ 1000) : msB s (cnL s) v = styB s v := by
  unfold msB styB
  rcases ndX_or s v.node with ⟨e, _⟩ | ⟨q, hq, e, _⟩
  · rw [e]
    rfl
  · rw [e, show ((q : Int).toNat) = q from rfl, h.ft hq h1 h2]
theorem rk_nodes {s : CL} {k : Nat} (hk : k < s.nodes.length) : rkB (s.nodes.map NOD.name) k = (nmB (ndA s k).name && (decide (k = 0) || tlt (ndA s (k - 1)).name (ndA s k).name)) := by
  cases k with
  | zero => rw [rkB_0 (by simpa using hk)]; simp [ndA_at hk]
  | succ k => rw [rkB_s (by simpa using hk)]; simp [ndA_at hk, ndA_at (show k < s.nodes.length by omega)]
theorem rk_vms {s : CL} {k : Nat} (hk : k < s.vms.length) : rkB (s.vms.map VMC.name) k = (nmB (vmA s k).name && (decide (k = 0) || tlt (vmA s (k - 1)).name (vmA s k).name)) := by
  cases k with
  | zero => rw [rkB_0 (by simpa using hk)]; simp [vmA_at hk]
  | succ k => rw [rkB_s (by simpa using hk)]; simp [vmA_at hk, vmA_at (show k < s.vms.length by omega)]
theorem nr_eq (s : CL) : nrB s = allD (nkB s) s.nodes.length := by
  rw [Bool.eq_iff_iff]
  unfold nrB rsB
  rw [Bool.and_eq_true, allD_iff, allD_iff, allD_iff]
  simp only [List.length_map]
  constructor
  · intro ⟨h1, h2⟩ k hk
    have a := h1 k hk
    have b := h2 k hk
    rw [rk_nodes hk] at b
    unfold ndR at a
    unfold nkB
    rw [b, a]
    rfl
  · intro h
    refine ⟨fun k hk => ?_, fun k hk => ?_⟩
    · have := h k hk
      unfold nkB at this
      rw [Bool.and_eq_true] at this
      exact this.2
    · have := h k hk
      unfold nkB at this
      rw [Bool.and_eq_true] at this
      rw [rk_nodes hk]
      exact this.1
theorem vr_eq (s : CL) : (vrB s && s.vms.all (styB s)) = allD (vkB s) s.vms.length := by
  rw [Bool.eq_iff_iff]
  unfold vrB rsB
  rw [Bool.and_eq_true, Bool.and_eq_true, allD_iff, allD_iff, allD_iff, List.all_eq_true]
  simp only [List.length_map]
  constructor
  · intro ⟨⟨h1, h2⟩, h3⟩ k hk
    have a := h1 k hk
    have b := h2 k hk
    have c := h3 s.vms[k] (List.getElem_mem hk)
    rw [rk_vms hk, Bool.and_eq_true] at b
    rw [← vmA_at hk] at c
    unfold vmR at a
    rw [Bool.and_eq_true] at a
    unfold vkB
    rw [a.1, b.2, a.2, c]
    rfl
  · intro h
    have h0 : ∀ k (hk : k < s.vms.length), ((vmB s.tenants.length (vmA s k) = true ∧ (decide (k = 0) || tlt (vmA s (k - 1)).name (vmA s k).name) = true) ∧ epB (vmA s k) = true) ∧ styB s (vmA s k) = true := fun k hk => by
      have := h k hk
      unfold vkB at this
      simpa only [Bool.and_eq_true] using this
    refine ⟨⟨fun k hk => ?_, fun k hk => ?_⟩, fun x hx => ?_⟩
    · unfold vmR
      rw [(h0 k hk).1.1.1, (h0 k hk).1.2]
      rfl
    · have h1 := (h0 k hk).1.1.1
      unfold vmB at h1
      simp only [Bool.and_eq_true] at h1
      rw [rk_vms hk, (h0 k hk).1.1.2, h1.1.1.1.1.1.1.1.1.1.1]
      rfl
    · obtain ⟨k, hk, rfl⟩ := List.getElem_of_mem hx
      have := (h0 k hk).2
      rwa [vmA_at hk] at this
theorem vmB_bd {T : Int} {v : VMC} (h : vmB T v = true) : (0 ≤ v.cpu ∧ v.cpu ≤ 1000) ∧ 0 ≤ v.mem ∧ v.mem ≤ 1000 := by
  unfold vmB at h
  simp only [Bool.and_eq_true, decide_eq_true_eq] at h
  omega
theorem GC.of {s : CL} (h1 : bdB s = true) (h2 : nrB s = true) (h3 : vrB s = true) : GC s := by
  unfold bdB lnB at h1
  simp only [Bool.and_eq_true, decide_eq_true_eq] at h1
  unfold nrB at h2
  unfold vrB at h3
  rw [Bool.and_eq_true] at h2 h3
  refine ⟨by omega, by omega, fun i j hi hj hne => ?_, fun i j hi hj hne => ?_, fun x hx => ?_⟩
  · have := rs_ne h2.2 (i := i) (j := j) (by simpa using hi) (by simpa using hj) hne
    simpa using this
  · have := rs_ne h3.2 (i := i) (j := j) (by simpa using hi) (by simpa using hj) hne
    simpa using this
  · obtain ⟨k, hk, rfl⟩ := List.getElem_of_mem hx
    have := allD_iff.1 h3.1 k hk
    unfold vmR at this
    rw [Bool.and_eq_true, vmA_at hk] at this
    exact vmB_bd this.1
def irB (s : CL) : Bool := bdB s && nrB s && vrB s && allD (tkB s) s.tenants.length && !(s.vms.any fun v => !msB s (cnL s) v)
theorem ir_eq (s : CL) : irB s = cfB s := by
  have e : cfB s = (bdB s && nrB s && (vrB s && s.vms.all (styB s)) && allD (tkB s) s.tenants.length) := by
    rw [vr_eq, nr_eq]
    unfold cfB nosB bdB
    generalize ovB s = A
    generalize lnB s = B
    generalize decide ((s.nodes.length : Int) ≤ 12) = C
    generalize allD (nkB s) s.nodes.length = D
    cases A <;> cases B <;> cases C <;> cases D <;> simp
  rw [e]
  unfold irB
  cases h1 : bdB s
  · simp
  cases h2 : nrB s
  · simp
  cases h3 : vrB s
  · simp
  have g := GC.of h1 h2 h3
  have hm : (!(s.vms.any fun v => !msB s (cnL s) v)) = s.vms.all (styB s) := by
    rw [List.any_eq_not_all_not]
    simp only [Bool.not_not]
    rw [Bool.eq_iff_iff, List.all_eq_true, List.all_eq_true]
    constructor
    · intro h x hx
      have := h x hx
      rwa [g.ms (g.vb x hx).1 (g.vb x hx).2] at this
    · intro h x hx
      rw [g.ms (g.vb x hx).1 (g.vb x hx).2]
      exact h x hx
  rw [hm]
  cases allD (tkB s) s.tenants.length <;> cases s.vms.all (styB s) <;> rfl

set_option maxRecDepth 100000 in
set_option maxHeartbeats 4000000 in
theorem isRight_any {w : World} {b : Nat} {s : CL} {a : CA} (h : CX w b s a) (hl : CLlen s) : Calls Try.prog 28 #[.pointer (some ⟨b, 0, none⟩)] w fun e w' => e = .returned (.bool (irB s)) ∧ Below w.heap.size w w' := by
  have HX : Hid (CX w b s a) := h
  have l0 : s.nodes.length ≤ 1048576 := hl.lnodes.1
  have l1 : s.vms.length ≤ 1048576 := hl.lvms.1
  have l2 : s.tenants.length ≤ 1048576 := hl.ltenants
  obtain ⟨an, kn, av, kv, ae, ke, e⟩ := h.rows.sl
  subst e
  clear h
  have HE : Hid (irB s = (bdB s && nrB s && vrB s && allD (tkB s) s.tenants.length && !(s.vms.any fun v => !msB s (cnL s) v))) := rfl
  have H1 : Hid (∀ u, Below w.heap.size w u → Calls Try.prog 43 #[.pointer (some ⟨b, 0, none⟩)] u fun e w' => e = .returned (.bool (bdB s)) ∧ Below u.heap.size u w') := fun u hu => Calls.mono (isBounded_any (HX.out.below hu) hl) (fun e w' hh => ⟨hh.1, by rw [hh.2]; exact Below.refl _ _⟩)
  have H2 : Hid (∀ u, Below w.heap.size w u → Calls Try.prog 44 #[.pointer (some ⟨b, 0, none⟩)] u fun e w' => e = .returned (.bool (nrB s)) ∧ Below u.heap.size u w') := fun u hu => nodesR_any (HX.out.below hu) l0
  have H3 : Hid (∀ u, Below w.heap.size w u → Calls Try.prog 45 #[.pointer (some ⟨b, 0, none⟩)] u fun e w' => e = .returned (.bool (vrB s)) ∧ Below u.heap.size u w') := fun u hu => vmsR_any (HX.out.below hu) l1 l2
  have H4 : Hid (∀ u, Below w.heap.size w u → Calls Try.prog 46 #[.pointer (some ⟨b, 0, none⟩)] u fun e w' => e = .returned (.bool (allD (tkB s) s.tenants.length)) ∧ Below u.heap.size u w') := fun u hu => tenantsR_any (HX.out.below hu) l1 l2
  have H5 : Hid (∀ u, Below w.heap.size w u → Calls Try.prog 35 #[.agg #[.slice an s.nodes.length kn, .slice av s.vms.length kv, .slice ae s.tenants.length ke, .int .i64 s.over, .int .i64 s.time]] u fun e w' => ∃ (r : Nat) (a2 : CA) (cb : Nat), e = .returned (.pointer (some ⟨r, 0, none⟩)) ∧ RX w' r s a2 cb (cnL s) ∧ Below u.heap.size u w') := (fun u hu => by have h9 := newRunner_any (HX.out.below hu).rows hl; unfold clA clC at h9; simp only at h9; exact h9)
  have H6 : Hid (∀ u p r a2 cb, RX u r s a2 cb (cnL s) → LG w u p #[.pointer (some ⟨r, 0, none⟩)] 66 → Calls Try.prog 47 #[a2.vvms, .func (.func 48) #[] #[.pointer (some ⟨p, 0, none⟩)]] u fun e w' => e = .returned (.bool (s.vms.any fun v => !msB s (cnL s) v)) ∧ Below u.heap.size u w') :=
    fun u p r a2 cb hr hp => containsVMC_any hr.cx.rows.rvms l1 _ _ (fun v => !msB s (cnL s) v) (fun xs w' => by kernel_rfl) (fun x w' hw => isRightF_any (w := w) (hr.below hw) l0 l1 x (hp.step hw))
  have k0 := HX.out.cel 0 (.slice an s.nodes.length kn) rfl
  have k1 := HX.out.cel 1 (.slice av s.vms.length kv) rfl
  have k2 := HX.out.cel 2 (.slice ae s.tenants.length ke) rfl
  have k3 := HX.out.cel 3 (.int .i64 s.over) rfl
  have k4 := HX.out.cel 4 (.int .i64 s.time) rfl
  have kl := HX.out.lt
  have HC : Hid (∀ u, Below w.heap.size w u → u.cell? ⟨b, 0, none⟩ = some (.slice an s.nodes.length kn) ∧ u.cell? ⟨b, 1, none⟩ = some (.slice av s.vms.length kv) ∧ u.cell? ⟨b, 2, none⟩ = some (.slice ae s.tenants.length ke) ∧ u.cell? ⟨b, 3, none⟩ = some (.int .i64 s.over) ∧ u.cell? ⟨b, 4, none⟩ = some (.int .i64 s.time) ∧ b < u.heap.size) := fun u hu => ⟨(HX.out.below hu).cel 0 _ rfl, (HX.out.below hu).cel 1 _ rfl, (HX.out.below hu).cel 2 _ rfl, (HX.out.below hu).cel 3 _ rfl, (HX.out.below hu).cel 4 _ rfl, (HX.out.below hu).lt⟩
  have HB0 : Hid (Below w.heap.size w w) := Below.refl _ _
  clear HX
  generalize irB s = V at *
  generalize bdB s = R1 at *
  generalize nrB s = R2 at *
  generalize vrB s = R3 at *
  generalize allD (tkB s) s.tenants.length = R4 at *
  generalize (s.vms.any fun v => !msB s (cnL s) v) = R5 at *
  cases R1
  · have E2 : Hid (V = false) := (show V = false by rw [HE.out]; simp)
    clear HE HC H5 H6
    go_enter Try.func28, Try.ntmps28
    go_wp2_with (go_at_call 43; refine Calls.mono (H1.out _ HB0.out) ?_; rintro e w1 ⟨rfl, hb⟩; have HB1 : Hid (Below w.heap.size w w1) := HB0.out.trans (hb.mono HB0.out.size); clear hb H1)
    go_ret
    exact ⟨ret_bool E2.out.symm, HB1.out⟩
  cases R2
  · have E2 : Hid (V = false) := (show V = false by rw [HE.out]; simp)
    clear HE HC H5 H6
    go_enter Try.func28, Try.ntmps28
    go_wp2_with (first | (go_at_call 43; refine Calls.mono (H1.out _ HB0.out) ?_; rintro e w1 ⟨rfl, hb⟩; have HB1 : Hid (Below w.heap.size w w1) := HB0.out.trans (hb.mono HB0.out.size); clear hb H1) | (go_at_call 44; refine Calls.mono (H2.out _ HB1.out) ?_; rintro e w2 ⟨rfl, hb⟩; have HB2 : Hid (Below w.heap.size w w2) := HB1.out.trans (hb.mono HB1.out.size); clear hb H2))
    go_ret
    exact ⟨ret_bool E2.out.symm, HB2.out⟩
  cases R3
  · have E2 : Hid (V = false) := (show V = false by rw [HE.out]; simp)
    clear HE HC H5 H6
    go_enter Try.func28, Try.ntmps28
    go_wp2_with (first | (go_at_call 43; refine Calls.mono (H1.out _ HB0.out) ?_; rintro e w1 ⟨rfl, hb⟩; have HB1 : Hid (Below w.heap.size w w1) := HB0.out.trans (hb.mono HB0.out.size); clear hb H1) | (go_at_call 44; refine Calls.mono (H2.out _ HB1.out) ?_; rintro e w2 ⟨rfl, hb⟩; have HB2 : Hid (Below w.heap.size w w2) := HB1.out.trans (hb.mono HB1.out.size); clear hb H2) | (go_at_call 45; refine Calls.mono (H3.out _ HB2.out) ?_; rintro e w3 ⟨rfl, hb⟩; have HB3 : Hid (Below w.heap.size w w3) := HB2.out.trans (hb.mono HB2.out.size); clear hb H3))
    go_ret
    exact ⟨ret_bool E2.out.symm, HB3.out⟩
  cases R4
  · have E2 : Hid (V = false) := (show V = false by rw [HE.out]; simp)
    clear HE HC H5 H6
    go_enter Try.func28, Try.ntmps28
    go_wp2_with (first | (go_at_call 43; refine Calls.mono (H1.out _ HB0.out) ?_; rintro e w1 ⟨rfl, hb⟩; have HB1 : Hid (Below w.heap.size w w1) := HB0.out.trans (hb.mono HB0.out.size); clear hb H1) | (go_at_call 44; refine Calls.mono (H2.out _ HB1.out) ?_; rintro e w2 ⟨rfl, hb⟩; have HB2 : Hid (Below w.heap.size w w2) := HB1.out.trans (hb.mono HB1.out.size); clear hb H2) | (go_at_call 45; refine Calls.mono (H3.out _ HB2.out) ?_; rintro e w3 ⟨rfl, hb⟩; have HB3 : Hid (Below w.heap.size w w3) := HB2.out.trans (hb.mono HB2.out.size); clear hb H3) | (go_at_call 46; refine Calls.mono (H4.out _ HB3.out) ?_; rintro e w4 ⟨rfl, hb⟩; have HB4 : Hid (Below w.heap.size w w4) := HB3.out.trans (hb.mono HB3.out.size); clear hb H4))
    go_ret
    exact ⟨ret_bool E2.out.symm, HB4.out⟩
  have E2 : Hid (V = !R5) := (show V = !R5 by rw [HE.out]; simp)
  clear HE
  go_enter Try.func28, Try.ntmps28
  go_upto_region 3 with (first | (go_at_call 43; refine Calls.mono (H1.out _ HB0.out) ?_; rintro e w1 ⟨rfl, hb⟩; have HB1 : Hid (Below w.heap.size w w1) := HB0.out.trans (hb.mono HB0.out.size); clear hb H1) | (go_at_call 44; refine Calls.mono (H2.out _ HB1.out) ?_; rintro e w2 ⟨rfl, hb⟩; have HB2 : Hid (Below w.heap.size w w2) := HB1.out.trans (hb.mono HB1.out.size); clear hb H2) | (go_at_call 45; refine Calls.mono (H3.out _ HB2.out) ?_; rintro e w3 ⟨rfl, hb⟩; have HB3 : Hid (Below w.heap.size w w3) := HB2.out.trans (hb.mono HB2.out.size); clear hb H3) | (go_at_call 46; refine Calls.mono (H4.out _ HB3.out) ?_; rintro e w4 ⟨rfl, hb⟩; have HB4 : Hid (Below w.heap.size w w4) := HB3.out.trans (hb.mono HB3.out.size); clear hb H4))
  obtain ⟨q0, q1, q2, q3, q4, ql⟩ := HC.out _ HB4.out
  clear k0 k1 k2 k3 k4 kl HC
  go_upto_region 4 with (go_at_call 35; refine Calls.mono (H5.out _ HB4.out) ?_; rintro e w5 ⟨r, a2, cb, rfl, hrx, hb⟩; have HR5 : Hid (RX w5 r s a2 cb (cnL s)) := hrx; have HB5 : Hid (Below w.heap.size w w5) := HB4.out.trans (hb.mono HB4.out.size); clear hb hrx H5)
  have HP : Hid (LG w (w5.alloc (.cells #[.pointer (some ⟨r, 0, none⟩)] 66)) w5.heap.size #[.pointer (some ⟨r, 0, none⟩)] 66) := LG.mk2 HB5.out
  have HR6 : Hid (RX (w5.alloc (.cells #[.pointer (some ⟨r, 0, none⟩)] 66)) r s a2 cb (cnL s)) := HR5.out.below (bx1 _ _)
  have HB6 : Hid (Below w.heap.size w (w5.alloc (.cells #[.pointer (some ⟨r, 0, none⟩)] 66))) := HP.out.bel
  have HI : Hid _ := H6.out _ _ _ _ _ HR6.out HP.out
  obtain ⟨an2, kn2, av2, kv2, ae2, ke2, e⟩ := HR6.out.sl
  have r1 := HR6.out.cx.cel 1 a2.vvms rfl
  have rl := HR6.out.cx.lt
  have p0 := HP.out.cel 0 _ rfl
  have pl := HP.out.lt
  subst e
  simp only at r1 HI
  clear HR5 HR6 HB5 H6 q0 q1 q2 q3 q4 ql HP
  generalize (w5.alloc (.cells #[.pointer (some ⟨r, 0, none⟩)] 66)) = w6 at *
  generalize w5.heap.size = bp at *
  go_wp2_with (go_at_call 47; refine Calls.mono HI.out ?_; rintro e w7 ⟨rfl, hb⟩; have HB7 : Hid (Below w.heap.size w w7) := HB6.out.trans (hb.mono HB6.out.size); clear hb)
  go_ret
  exact ⟨ret_bool E2.out.symm, HB7.out⟩
set_option maxRecDepth 100000 in
set_option maxHeartbeats 4000000 in
theorem implCF_any {w : World} {s : CL} {a : CA} (h : CLRows w s a) (hl : CLlen s) : Calls Try.prog 9 #[clA s a] w fun e w' => e = .returned (.int .i64 (cfV s)) ∧ Below w.heap.size w w' := by
  obtain ⟨an, kn, av, kv, ae, ke, e⟩ := h.sl
  subst e
  have HL0 : Hid (LG w (w.alloc (.cells #[.slice an s.nodes.length kn, .slice av s.vms.length kv, .slice ae s.tenants.length ke, .int .i64 s.over, .int .i64 s.time] 33)) w.heap.size #[.slice an s.nodes.length kn, .slice av s.vms.length kv, .slice ae s.tenants.length ke, .int .i64 s.over, .int .i64 s.time] 33) := LG.new w _ _
  have HI : Hid (Calls Try.prog 28 #[.pointer (some ⟨w.heap.size, 0, none⟩)] (w.alloc (.cells #[.slice an s.nodes.length kn, .slice av s.vms.length kv, .slice ae s.tenants.length ke, .int .i64 s.over, .int .i64 s.time] 33)) fun e w' => e = .returned (.bool (cfB s)) ∧ Below (w.alloc (.cells #[.slice an s.nodes.length kn, .slice av s.vms.length kv, .slice ae s.tenants.length ke, .int .i64 s.over, .int .i64 s.time] 33)).heap.size (w.alloc (.cells #[.slice an s.nodes.length kn, .slice av s.vms.length kv, .slice ae s.tenants.length ke, .int .i64 s.over, .int .i64 s.time] 33)) w') := by
    have h9 := isRight_any (w := w.alloc (.cells #[.slice an s.nodes.length kn, .slice av s.vms.length kv, .slice ae s.tenants.length ke, .int .i64 s.over, .int .i64 s.time] 33)) (b := w.heap.size) (s := s) (a := ⟨.slice an s.nodes.length kn, .slice av s.vms.length kv, .slice ae s.tenants.length ke⟩) ⟨HL0.out.lt, fun k v hk => HL0.out.cel k v hk, h.below HL0.out.bel⟩ hl
    rw [ir_eq] at h9
    exact h9
  have HE : Hid (cfV s = if cfB s = true then 0 else 1) := rfl
  clear h hl
  unfold clA clC
  simp only
  generalize cfV s = V at *
  generalize cfB s = R at *
  cases R
  · have E2 : Hid (V = 1) := HE.out
    clear HE
    go_enter Try.func9, Try.ntmps9
    go_upto_region 1 with fail
    generalize (w.alloc (.cells #[.slice an s.nodes.length kn, .slice av s.vms.length kv, .slice ae s.tenants.length ke, .int .i64 s.over, .int .i64 s.time] 33)) = u0 at *
    generalize w.heap.size = b0 at *
    go_wp2_with (go_at_call 28; refine Calls.mono HI.out ?_; rintro e u1 ⟨rfl, hb⟩; have HL1 : Hid (LG w u1 b0 _ _) := HL0.out.step hb; clear hb)
    go_ret
    exact ⟨ret_int E2.out.symm, HL1.out.bel⟩
  · have E2 : Hid (V = 0) := HE.out
    clear HE
    go_enter Try.func9, Try.ntmps9
    go_upto_region 1 with fail
    generalize (w.alloc (.cells #[.slice an s.nodes.length kn, .slice av s.vms.length kv, .slice ae s.tenants.length ke, .int .i64 s.over, .int .i64 s.time] 33)) = u0 at *
    generalize w.heap.size = b0 at *
    go_wp2_with (go_at_call 28; refine Calls.mono HI.out ?_; rintro e u1 ⟨rfl, hb⟩; have HL1 : Hid (LG w u1 b0 _ _) := HL0.out.step hb; clear hb)
    go_ret
    exact ⟨ret_int E2.out.symm, HL1.out.bel⟩

/-- What holdCode tells. -/
def hcV (s : CL) (cs : List (Int × Int)) (nm : ByteArray) (v : VMC) : Int :=
  if 65536 < (nm.size : Int) then 2 else if ndX s nm < 0 then 5 else if opnB (ndA s (ndX s nm).toNat) = false then 6 else ftV s cs (ndX s nm).toNat v
/-- What l22May tells. -/
def myV (s : CL) (nm : ByteArray) (v : VMC) : Int :=
  if ndX s nm < 0 then 5 else if opnB (ndA s (ndX s nm).toNat) = false then 6 else hlV s (ndX s nm).toNat v
def mhV (s : CL) (nm : ByteArray) (v : VMC) : Int :=
  if 65536 < (nm.size : Int) then 2 else if cfB s = false then 1 else if vmB s.tenants.length v = false then 1 else myV s nm v
theorem hc_my {s : CL} (h : cfB s = true) {nm : ByteArray} {v : VMC} (hv : vmB s.tenants.length v = true) (hs : ¬ 65536 < (nm.size : Int)) : hcV s (cnL s) nm v = myV s nm v := by
  have h2 := h
  rw [← ir_eq] at h2
  unfold irB at h2
  simp only [Bool.and_eq_true] at h2
  have g := GC.of h2.1.1.1.1 h2.1.1.1.2 h2.1.1.2
  have b := vmB_bd hv
  unfold hcV myV
  rw [if_neg hs]
  rcases ndX_or s nm with ⟨e, _⟩ | ⟨q, hq, e, _⟩
  · rw [e]
    rfl
  · rw [e, show ((q : Int).toNat) = q from rfl, g.ft hq b.1 b.2]
set_option maxRecDepth 100000 in
set_option maxHeartbeats 4000000 in
theorem tooLong22_any (nm : ByteArray) (w : World) : Calls Try.prog 33 #[.string nm] w fun e w' => e = .returned (.bool (decide (65536 < (nm.size : Int)))) ∧ w' = w := by
  go_enter Try.func33, Try.ntmps33
  go_wp2
  go_ret
  exact ⟨rfl, rfl⟩
set_option maxRecDepth 100000 in
set_option maxHeartbeats 4000000 in
theorem holdCode_any {w : World} {r : Nat} {s : CL} {a : CA} {cb : Nat} {cs : List (Int × Int)} (h : RX w r s a cb cs) (hn : s.nodes.length ≤ 1048576) (hl : s.vms.length ≤ 1048576) (nm : ByteArray) (v : VMC) : Calls Try.prog 36 #[.pointer (some ⟨r, 0, none⟩), .string nm, .agg #[.string v.name, .int .i64 v.tenant, .int .i64 v.cpu, .int .i64 v.mem, .int .i64 v.zone, .int .i64 v.apart, .string v.node, .int .i64 v.epoch]] w fun e w' => e = .returned (.int .i64 (hcV s cs nm v)) ∧ Below w.heap.size w w' := by
  have HE : Hid (hcV s cs nm v = if 65536 < (nm.size : Int) then 2 else if ndX s nm < 0 then 5 else if opnB (ndA s (ndX s nm).toNat) = false then 6 else ftV s cs (ndX s nm).toNat v) := rfl
  have HTL : Hid (∀ u, Calls Try.prog 33 #[.string nm] u fun e w' => e = .returned (.bool (decide (65536 < (nm.size : Int)))) ∧ w' = u) := fun u => tooLong22_any nm u
  have HV0 : Hid (LG w (w.alloc (.cells #[.string v.name, .int .i64 v.tenant, .int .i64 v.cpu, .int .i64 v.mem, .int .i64 v.zone, .int .i64 v.apart, .string v.node, .int .i64 v.epoch] 41)) w.heap.size #[.string v.name, .int .i64 v.tenant, .int .i64 v.cpu, .int .i64 v.mem, .int .i64 v.zone, .int .i64 v.apart, .string v.node, .int .i64 v.epoch] 41) := LG.new w _ _
  have HX0 : Hid (RX (w.alloc (.cells #[.string v.name, .int .i64 v.tenant, .int .i64 v.cpu, .int .i64 v.mem, .int .i64 v.zone, .int .i64 v.apart, .string v.node, .int .i64 v.epoch] 41)) r s a cb cs) := h.below HV0.out.bel
  clear h
  have HND : Hid (∀ u, RX u r s a cb cs → Calls Try.prog 60 #[.pointer (some ⟨r, 0, none⟩), .string nm] u fun e w' => e = .returned (.int .i64 (ndX s nm)) ∧ Below u.heap.size u w') := fun u hu => nodeAt_any hu.cx hn nm
  have HFT : Hid (∀ u q, RX u r s a cb cs → q < s.nodes.length → Calls Try.prog 63 #[.pointer (some ⟨r, 0, none⟩), .int .i64 (q : Nat), .agg #[.string v.name, .int .i64 v.tenant, .int .i64 v.cpu, .int .i64 v.mem, .int .i64 v.zone, .int .i64 v.apart, .string v.node, .int .i64 v.epoch]] u fun e w' => e = .returned (.int .i64 (ftV s cs q v)) ∧ Below u.heap.size u w') := fun u q hu hq => fitCode_any hu hl q hq v
  generalize hcV s cs nm v = V at *
  go_enter Try.func36, Try.ntmps36
  go_upto_region 1 with fail
  generalize (w.alloc (.cells #[.string v.name, .int .i64 v.tenant, .int .i64 v.cpu, .int .i64 v.mem, .int .i64 v.zone, .int .i64 v.apart, .string v.node, .int .i64 v.epoch] 41)) = u0 at *
  generalize hbv : w.heap.size = bv at HV0 ⊢
  cases t1 : decide (65536 < (nm.size : Int))
  rotate_left
  · have E2 : Hid (V = 2) := HE.out.trans (if_pos (of_decide_eq_true t1))
    rw [t1] at HTL
    clear HE t1
    go_wp2_with (go_at_call 33; refine Calls.mono (HTL.out _) ?_; rintro e u1 ⟨rfl, rfl⟩)
    go_ret
    exact ⟨ret_int E2.out.symm, hbv ▸ HV0.out.bel⟩
  have HE1 : Hid (V = if ndX s nm < 0 then 5 else if opnB (ndA s (ndX s nm).toNat) = false then 6 else ftV s cs (ndX s nm).toNat v) := HE.out.trans (if_neg (of_decide_eq_false t1))
  rw [t1] at HTL
  clear HE t1
  go_upto_region 3 with (go_at_call 33; refine Calls.mono (HTL.out _) ?_; rintro e u1 ⟨rfl, rfl⟩)
  clear HTL
  go_upto_region 4 with (go_at_call 60; refine Calls.mono (HND.out _ HX0.out) ?_; rintro e u1 ⟨rfl, hb⟩)
  have HV1 : Hid (LG w u1 bv #[.string v.name, .int .i64 v.tenant, .int .i64 v.cpu, .int .i64 v.mem, .int .i64 v.zone, .int .i64 v.apart, .string v.node, .int .i64 v.epoch] 41) := HV0.out.step hb
  have HX1 : Hid (RX u1 r s a cb cs) := HX0.out.below hb
  clear hb HV0 HX0 HND
  rcases ndX_or s nm with ⟨hx, _⟩ | ⟨q, hq, hx, _⟩
  · have E2 : Hid (V = 5) := HE1.out.trans (if_pos (by rw [hx]; decide))
    clear HE1 HFT
    rw [hx]
    clear hx
    go_wp2
    go_ret
    exact ⟨ret_int E2.out.symm, hbv ▸ HV1.out.bel⟩
  have HE2 : Hid (V = if opnB s.nodes[q] = false then 6 else ftV s cs q v) := (show V = _ by rw [HE1.out, hx, if_neg (by omega), show ((q : Int).toNat) = q from rfl, ndA_at hq])
  have HF1 : Hid (∀ u, RX u r s a cb cs → Calls Try.prog 63 #[.pointer (some ⟨r, 0, none⟩), .int .i64 (q : Int), .agg #[.string v.name, .int .i64 v.tenant, .int .i64 v.cpu, .int .i64 v.mem, .int .i64 v.zone, .int .i64 v.apart, .string v.node, .int .i64 v.epoch]] u fun e w' => e = .returned (.int .i64 (ftV s cs q v)) ∧ Below u.heap.size u w') := fun u hu => HFT.out u q hu hq
  rw [hx]
  clear hx HE1 HFT
  have hq0 : (0 : Int) ≤ (q : Int) := by omega
  have hq1 : (q : Int) < (s.nodes.length : Int) := by omega
  obtain ⟨gn, on, kn, en, hgn, hcn⟩ := HX1.out.nodeA hq
  obtain ⟨d0, d1, d2, d3, d4, d5, d6⟩ := hcn _ (Below.refl _ _) q hq
  have c0 := HX1.out.cx.cel 0 a.vnodes rfl
  rw [en] at c0
  have rl := HX1.out.cx.lt
  have HOP : Hid (∀ u, Calls Try.prog 62 #[.agg #[.string s.nodes[q].name, .int .i64 s.nodes[q].cpu, .int .i64 s.nodes[q].mem, .int .i64 s.nodes[q].zone, .int .i64 s.nodes[q].beat, .bool s.nodes[q].fenced, .bool s.nodes[q].closed]] u fun e w' => e = .returned (.bool (opnB s.nodes[q])) ∧ Below u.heap.size u w') := fun u => ndOpen_any _ u
  clear hcn en
  generalize s.nodes[q] = n at *
  generalize opnB n = O at *
  generalize ftV s cs q v = FV at *
  cases O
  · have E2 : Hid (V = 6) := HE2.out
    clear HE2 HF1
    go_wp2_with (go_at_call 62; refine Calls.mono (HOP.out _) ?_; rintro e u2 ⟨rfl, hb⟩)
    go_ret
    exact ⟨ret_int E2.out.symm, hbv ▸ (HV1.out.step hb).bel⟩
  · have E2 : Hid (V = FV) := HE2.out
    clear HE2
    go_upto_region 8 with (go_at_call 62; refine Calls.mono (HOP.out _) ?_; rintro e u2 ⟨rfl, hb⟩)
    have HV2 : Hid (LG w u2 bv #[.string v.name, .int .i64 v.tenant, .int .i64 v.cpu, .int .i64 v.mem, .int .i64 v.zone, .int .i64 v.apart, .string v.node, .int .i64 v.epoch] 41) := HV1.out.step hb
    have HX2 : Hid (RX u2 r s a cb cs) := HX1.out.below hb
    clear hb HV1 HX1 HOP d0 d1 d2 d3 d4 d5 d6 c0 rl hgn
    have v0 := HV2.out.cel 0 _ rfl
    have v1 := HV2.out.cel 1 _ rfl
    have v2 := HV2.out.cel 2 _ rfl
    have v3 := HV2.out.cel 3 _ rfl
    have v4 := HV2.out.cel 4 _ rfl
    have v5 := HV2.out.cel 5 _ rfl
    have v6 := HV2.out.cel 6 _ rfl
    have v7 := HV2.out.cel 7 _ rfl
    have vl := HV2.out.lt
    go_wp2_with (go_at_call 63; refine Calls.mono (HF1.out _ HX2.out) ?_; rintro e u3 ⟨rfl, hb⟩)
    go_ret
    exact ⟨ret_int E2.out.symm, hbv ▸ (HV2.out.step hb).bel⟩
set_option maxRecDepth 100000 in
set_option maxHeartbeats 8000000 in
theorem implMH_any {w : World} {s : CL} {a : CA} (h : CLRows w s a) (hl : CLlen s) (nm : ByteArray) (v : VMC) : Calls Try.prog 14 #[clA s a, .string nm, .agg #[.string v.name, .int .i64 v.tenant, .int .i64 v.cpu, .int .i64 v.mem, .int .i64 v.zone, .int .i64 v.apart, .string v.node, .int .i64 v.epoch]] w fun e w' => e = .returned (.int .i64 (mhV s nm v)) ∧ Below w.heap.size w w' := by
  have l0 : s.nodes.length ≤ 1048576 := hl.lnodes.1
  have l1 : s.vms.length ≤ 1048576 := hl.lvms.1
  have l2 : s.tenants.length ≤ 1048576 := hl.ltenants
  obtain ⟨an, kn, av, kv, ae, ke, e⟩ := h.sl
  subst e
  have HL0 : Hid (LG w ((w.alloc (.cells #[.slice an s.nodes.length kn, .slice av s.vms.length kv, .slice ae s.tenants.length ke, .int .i64 s.over, .int .i64 s.time] 33)).alloc (.cells #[.string v.name, .int .i64 v.tenant, .int .i64 v.cpu, .int .i64 v.mem, .int .i64 v.zone, .int .i64 v.apart, .string v.node, .int .i64 v.epoch] 41)) w.heap.size #[.slice an s.nodes.length kn, .slice av s.vms.length kv, .slice ae s.tenants.length ke, .int .i64 s.over, .int .i64 s.time] 33) := (LG.new w _ _).next
  have HV0 : Hid (LG w ((w.alloc (.cells #[.slice an s.nodes.length kn, .slice av s.vms.length kv, .slice ae s.tenants.length ke, .int .i64 s.over, .int .i64 s.time] 33)).alloc (.cells #[.string v.name, .int .i64 v.tenant, .int .i64 v.cpu, .int .i64 v.mem, .int .i64 v.zone, .int .i64 v.apart, .string v.node, .int .i64 v.epoch] 41)) (w.heap.size + 1) #[.string v.name, .int .i64 v.tenant, .int .i64 v.cpu, .int .i64 v.mem, .int .i64 v.zone, .int .i64 v.apart, .string v.node, .int .i64 v.epoch] 41) := (LG.mk2 (LG.new w _ _).bel).cast (by simp)
  have HX0 : Hid (CX ((w.alloc (.cells #[.slice an s.nodes.length kn, .slice av s.vms.length kv, .slice ae s.tenants.length ke, .int .i64 s.over, .int .i64 s.time] 33)).alloc (.cells #[.string v.name, .int .i64 v.tenant, .int .i64 v.cpu, .int .i64 v.mem, .int .i64 v.zone, .int .i64 v.apart, .string v.node, .int .i64 v.epoch] 41)) w.heap.size s ⟨.slice an s.nodes.length kn, .slice av s.vms.length kv, .slice ae s.tenants.length ke⟩) := ⟨HL0.out.lt, fun k v hk => HL0.out.cel k v hk, h.below HL0.out.bel⟩
  have HE : Hid (mhV s nm v = if 65536 < (nm.size : Int) then 2 else if cfB s = false then 1 else if vmB s.tenants.length v = false then 1 else myV s nm v) := rfl
  have HTL : Hid (∀ u, Calls Try.prog 33 #[.string nm] u fun e w' => e = .returned (.bool (decide (65536 < (nm.size : Int)))) ∧ w' = u) := fun u => tooLong22_any nm u
  have HIR : Hid (∀ u b, CX u b s ⟨.slice an s.nodes.length kn, .slice av s.vms.length kv, .slice ae s.tenants.length ke⟩ → Calls Try.prog 28 #[.pointer (some ⟨b, 0, none⟩)] u fun e w' => e = .returned (.bool (cfB s)) ∧ Below u.heap.size u w') := (fun u b hu => by have h9 := isRight_any hu hl; rw [ir_eq] at h9; exact h9)
  have HIO : Hid (∀ u, Calls Try.prog 34 #[.agg #[.string v.name, .int .i64 v.tenant, .int .i64 v.cpu, .int .i64 v.mem, .int .i64 v.zone, .int .i64 v.apart, .string v.node, .int .i64 v.epoch], .int .i64 (s.tenants.length : Nat)] u fun e w' => e = .returned (.bool (vmB s.tenants.length v)) ∧ Below u.heap.size u w') := fun u => vmOne_any v _ l2 u
  have HNR : Hid (∀ u, CLRows u s ⟨.slice an s.nodes.length kn, .slice av s.vms.length kv, .slice ae s.tenants.length ke⟩ → Calls Try.prog 35 #[.agg #[.slice an s.nodes.length kn, .slice av s.vms.length kv, .slice ae s.tenants.length ke, .int .i64 s.over, .int .i64 s.time]] u fun e w' => ∃ (r : Nat) (a2 : CA) (cb : Nat), e = .returned (.pointer (some ⟨r, 0, none⟩)) ∧ RX w' r s a2 cb (cnL s) ∧ Below u.heap.size u w') := (fun u hu => by have h9 := newRunner_any hu hl; unfold clA clC at h9; simp only at h9; exact h9)
  have HHC : Hid (∀ u r a2 cb, RX u r s a2 cb (cnL s) → Calls Try.prog 36 #[.pointer (some ⟨r, 0, none⟩), .string nm, .agg #[.string v.name, .int .i64 v.tenant, .int .i64 v.cpu, .int .i64 v.mem, .int .i64 v.zone, .int .i64 v.apart, .string v.node, .int .i64 v.epoch]] u fun e w' => e = .returned (.int .i64 (hcV s (cnL s) nm v)) ∧ Below u.heap.size u w') := fun u r a2 cb hu => holdCode_any hu l0 l1 nm v
  have HMY : Hid (cfB s = true → vmB s.tenants.length v = true → ¬ 65536 < (nm.size : Int) → hcV s (cnL s) nm v = myV s nm v) := fun h1 h2 h3 => hc_my h1 h2 h3
  clear h hl
  unfold clA clC
  simp only
  generalize mhV s nm v = V at *
  generalize myV s nm v = MY at *
  generalize hcV s (cnL s) nm v = HC at *
  generalize cfB s = R at *
  generalize vmB s.tenants.length v = VB at *
  go_enter Try.func14, Try.ntmps14
  go_upto_region 1 with fail
  generalize ((w.alloc (.cells #[.slice an s.nodes.length kn, .slice av s.vms.length kv, .slice ae s.tenants.length ke, .int .i64 s.over, .int .i64 s.time] 33)).alloc (.cells #[.string v.name, .int .i64 v.tenant, .int .i64 v.cpu, .int .i64 v.mem, .int .i64 v.zone, .int .i64 v.apart, .string v.node, .int .i64 v.epoch] 41)) = u0 at *
  generalize hvb : w.heap.size + 1 = bv at HV0 ⊢
  generalize hbb : w.heap.size = bc at HL0 HX0 ⊢
  cases t1 : decide (65536 < (nm.size : Int))
  rotate_left
  · have E2 : Hid (V = 2) := HE.out.trans (if_pos (of_decide_eq_true t1))
    rw [t1] at HTL
    clear HE t1
    go_wp2_with (go_at_call 33; refine Calls.mono (HTL.out _) ?_; rintro e u1 ⟨rfl, rfl⟩)
    go_ret
    exact ⟨ret_int E2.out.symm, hbb ▸ HL0.out.bel⟩
  have HE1 : Hid (V = if R = false then 1 else if VB = false then 1 else MY) := HE.out.trans (if_neg (of_decide_eq_false t1))
  have HMY1 : Hid (R = true → VB = true → HC = MY) := fun h1 h2 => HMY.out h1 h2 (of_decide_eq_false t1)
  rw [t1] at HTL
  clear HE t1 HMY
  go_upto_region 3 with (go_at_call 33; refine Calls.mono (HTL.out _) ?_; rintro e u1 ⟨rfl, rfl⟩)
  clear HTL
  have v0 := HV0.out.cel 0 _ rfl
  have v1 := HV0.out.cel 1 _ rfl
  have v2 := HV0.out.cel 2 _ rfl
  have v3 := HV0.out.cel 3 _ rfl
  have v4 := HV0.out.cel 4 _ rfl
  have v5 := HV0.out.cel 5 _ rfl
  have v6 := HV0.out.cel 6 _ rfl
  have v7 := HV0.out.cel 7 _ rfl
  have vl := HV0.out.lt
  have k0 := HL0.out.cel 0 _ rfl
  have k1 := HL0.out.cel 1 _ rfl
  have k2 := HL0.out.cel 2 _ rfl
  have k3 := HL0.out.cel 3 _ rfl
  have k4 := HL0.out.cel 4 _ rfl
  have kl := HL0.out.lt
  cases R
  · have E2 : Hid (V = 1) := HE1.out
    clear HE1
    go_wp2_with (go_at_call 28; refine Calls.mono (HIR.out _ _ HX0.out) ?_; rintro e u2 ⟨rfl, hb⟩)
    go_ret
    exact ⟨ret_int E2.out.symm, hbb ▸ (HL0.out.step hb).bel⟩
  cases VB
  · have E2 : Hid (V = 1) := HE1.out
    clear HE1
    go_wp2_with (first | (go_at_call 28; refine Calls.mono (HIR.out _ _ HX0.out) ?_; rintro e u2 ⟨rfl, hb⟩; have HL2 : Hid (LG w u2 bc #[.slice an s.nodes.length kn, .slice av s.vms.length kv, .slice ae s.tenants.length ke, .int .i64 s.over, .int .i64 s.time] 33) := HL0.out.step hb; have HV2 : Hid (LG w u2 bv #[.string v.name, .int .i64 v.tenant, .int .i64 v.cpu, .int .i64 v.mem, .int .i64 v.zone, .int .i64 v.apart, .string v.node, .int .i64 v.epoch] 41) := HV0.out.step hb; have HX2 : Hid (CX u2 bc s ⟨.slice an s.nodes.length kn, .slice av s.vms.length kv, .slice ae s.tenants.length ke⟩) := HX0.out.below hb; clear hb; have p2 := HL2.out.cel 2 _ rfl; have pl := HL2.out.lt; have y0 := HV2.out.cel 0 _ rfl; have y1 := HV2.out.cel 1 _ rfl; have y2 := HV2.out.cel 2 _ rfl; have y3 := HV2.out.cel 3 _ rfl; have y4 := HV2.out.cel 4 _ rfl; have y5 := HV2.out.cel 5 _ rfl; have y6 := HV2.out.cel 6 _ rfl; have y7 := HV2.out.cel 7 _ rfl; have yl := HV2.out.lt) | (go_at_call 34; refine Calls.mono (HIO.out _) ?_; rintro e u3 ⟨rfl, hb⟩; have HL3 : Hid (LG w u3 bc #[.slice an s.nodes.length kn, .slice av s.vms.length kv, .slice ae s.tenants.length ke, .int .i64 s.over, .int .i64 s.time] 33) := HL2.out.step hb; have HV3 : Hid (LG w u3 bv #[.string v.name, .int .i64 v.tenant, .int .i64 v.cpu, .int .i64 v.mem, .int .i64 v.zone, .int .i64 v.apart, .string v.node, .int .i64 v.epoch] 41) := HV2.out.step hb; have HX3 : Hid (CX u3 bc s ⟨.slice an s.nodes.length kn, .slice av s.vms.length kv, .slice ae s.tenants.length ke⟩) := HX2.out.below hb; clear hb))
    go_ret
    exact ⟨ret_int E2.out.symm, hbb ▸ HL3.out.bel⟩
  have E2 : Hid (V = HC) := (show V = HC by rw [HMY1.out rfl rfl]; exact HE1.out)
  clear HE1 HMY1
  go_upto_region 5 with (first | (go_at_call 28; refine Calls.mono (HIR.out _ _ HX0.out) ?_; rintro e u2 ⟨rfl, hb⟩; have HL2 : Hid (LG w u2 bc #[.slice an s.nodes.length kn, .slice av s.vms.length kv, .slice ae s.tenants.length ke, .int .i64 s.over, .int .i64 s.time] 33) := HL0.out.step hb; have HV2 : Hid (LG w u2 bv #[.string v.name, .int .i64 v.tenant, .int .i64 v.cpu, .int .i64 v.mem, .int .i64 v.zone, .int .i64 v.apart, .string v.node, .int .i64 v.epoch] 41) := HV0.out.step hb; have HX2 : Hid (CX u2 bc s ⟨.slice an s.nodes.length kn, .slice av s.vms.length kv, .slice ae s.tenants.length ke⟩) := HX0.out.below hb; clear hb; have p2 := HL2.out.cel 2 _ rfl; have pl := HL2.out.lt; have y0 := HV2.out.cel 0 _ rfl; have y1 := HV2.out.cel 1 _ rfl; have y2 := HV2.out.cel 2 _ rfl; have y3 := HV2.out.cel 3 _ rfl; have y4 := HV2.out.cel 4 _ rfl; have y5 := HV2.out.cel 5 _ rfl; have y6 := HV2.out.cel 6 _ rfl; have y7 := HV2.out.cel 7 _ rfl; have yl := HV2.out.lt) | (go_at_call 34; refine Calls.mono (HIO.out _) ?_; rintro e u3 ⟨rfl, hb⟩; have HL3 : Hid (LG w u3 bc #[.slice an s.nodes.length kn, .slice av s.vms.length kv, .slice ae s.tenants.length ke, .int .i64 s.over, .int .i64 s.time] 33) := HL2.out.step hb; have HV3 : Hid (LG w u3 bv #[.string v.name, .int .i64 v.tenant, .int .i64 v.cpu, .int .i64 v.mem, .int .i64 v.zone, .int .i64 v.apart, .string v.node, .int .i64 v.epoch] 41) := HV2.out.step hb; have HX3 : Hid (CX u3 bc s ⟨.slice an s.nodes.length kn, .slice av s.vms.length kv, .slice ae s.tenants.length ke⟩) := HX2.out.below hb; clear hb))
  clear p2 pl y0 y1 y2 y3 y4 y5 y6 y7 yl HL0 HV0 HX0 HL2 HV2 HX2 k0 k1 k2 k3 k4 kl v0 v1 v2 v3 v4 v5 v6 v7 vl
  have HSB : Hid ((fun w' => (LG w w' bc #[.slice an s.nodes.length kn, .slice av s.vms.length kv, .slice ae s.tenants.length ke, .int .i64 s.over, .int .i64 s.time] 33) ∧ LG w w' bv #[.string v.name, .int .i64 v.tenant, .int .i64 v.cpu, .int .i64 v.mem, .int .i64 v.zone, .int .i64 v.apart, .string v.node, .int .i64 v.epoch] 41 ∧ CLRows w' s ⟨.slice an s.nodes.length kn, .slice av s.vms.length kv, .slice ae s.tenants.length ke⟩) u3.drew) := ⟨HL3.out.drew, HV3.out.drew, HX3.out.rows.below ⟨rfl, rfl, rfl, Nat.le_refl _, fun _ _ => rfl⟩⟩
  refine wp_region_held (S := fun w' => (LG w w' bc #[.slice an s.nodes.length kn, .slice av s.vms.length kv, .slice ae s.tenants.length ke, .int .i64 s.over, .int .i64 s.time] 33) ∧ LG w w' bv #[.string v.name, .int .i64 v.tenant, .int .i64 v.cpu, .int .i64 v.mem, .int .i64 v.zone, .int .i64 v.apart, .string v.node, .int .i64 v.epoch] 41 ∧ CLRows w' s ⟨.slice an s.nodes.length kn, .slice av s.vms.length kv, .slice ae s.tenants.length ke⟩) (by kernel_rfl) ?_
  change wpAnyH _ _ _ _ _ _ _ _ (World.drew _)
  refine wpAnyH_take (i := 0) (v := .agg #[.slice an s.nodes.length kn, .slice av s.vms.length kv, .slice ae s.tenants.length ke, .int .i64 s.over, .int .i64 s.time]) rfl (by kernel_rfl) (by kernel_rfl) (by kernel_rfl) (fun _ _ _ h => h) (Or.inl ⟨by kernel_rfl, fun w9 h9 => ?_⟩) HSB.out ?_
  · obtain ⟨hlg, hvg, _⟩ := h9; have z0 := hlg.cel 0 _ rfl; have z1 := hlg.cel 1 _ rfl; have z2 := hlg.cel 2 _ rfl; have z3 := hlg.cel 3 _ rfl; have z4 := hlg.cel 4 _ rfl; have y0 := hvg.cel 0 _ rfl; have y1 := hvg.cel 1 _ rfl; have y2 := hvg.cel 2 _ rfl; have y3 := hvg.cel 3 _ rfl; have y4 := hvg.cel 4 _ rfl; have y5 := hvg.cel 5 _ rfl; have y6 := hvg.cel 6 _ rfl; have y7 := hvg.cel 7 _ rfl; go_simp
  refine wpAnyH_take (i := 2) (v := .string nm) rfl (by kernel_rfl) (by kernel_rfl) (by kernel_rfl) (fun _ _ _ h => h) (Or.inl ⟨by kernel_rfl, fun w9 h9 => ?_⟩) HSB.out ?_
  · go_simp
  refine wpAnyH_take (i := 3) (v := .agg #[.string v.name, .int .i64 v.tenant, .int .i64 v.cpu, .int .i64 v.mem, .int .i64 v.zone, .int .i64 v.apart, .string v.node, .int .i64 v.epoch]) rfl (by kernel_rfl) (by kernel_rfl) (by kernel_rfl) (fun _ _ _ h => h) (Or.inl ⟨by kernel_rfl, fun w9 h9 => ?_⟩) HSB.out ?_
  · obtain ⟨hlg, hvg, _⟩ := h9; have z0 := hlg.cel 0 _ rfl; have z1 := hlg.cel 1 _ rfl; have z2 := hlg.cel 2 _ rfl; have z3 := hlg.cel 3 _ rfl; have z4 := hlg.cel 4 _ rfl; have y0 := hvg.cel 0 _ rfl; have y1 := hvg.cel 1 _ rfl; have y2 := hvg.cel 2 _ rfl; have y3 := hvg.cel 3 _ rfl; have y4 := hvg.cel 4 _ rfl; have y5 := hvg.cel 5 _ rfl; have y6 := hvg.cel 6 _ rfl; have y7 := hvg.cel 7 _ rfl; go_simp
  refine held_one 1 (by kernel_rfl) rfl (by kernel_rfl) fun K hK => ?_
  go_simp
  go_wp2_with (go_at_call 35; refine Calls.mono (HNR.out _ HSB.out.2.2) ?_; rintro e w1 ⟨r, a2, cb, rfl, hrx, hb1⟩; have HRX : Hid (RX w1 r s a2 cb (cnL s)) := hrx; have HS1 : Hid ((fun w' => (LG w w' bc #[.slice an s.nodes.length kn, .slice av s.vms.length kv, .slice ae s.tenants.length ke, .int .i64 s.over, .int .i64 s.time] 33) ∧ LG w w' bv #[.string v.name, .int .i64 v.tenant, .int .i64 v.cpu, .int .i64 v.mem, .int .i64 v.zone, .int .i64 v.apart, .string v.node, .int .i64 v.epoch] 41 ∧ CLRows w' s ⟨.slice an s.nodes.length kn, .slice av s.vms.length kv, .slice ae s.tenants.length ke⟩) w1) := ⟨HSB.out.1.step hb1, HSB.out.2.1.step hb1, HSB.out.2.2.below hb1⟩; clear hb1 hrx)
  refine hK _ _ HS1.out ?_
  clear hK K
  refine held_one 4 (by kernel_rfl) rfl (by kernel_rfl) fun K hK => ?_
  go_simp
  go_wp2_with (go_at_call 36; refine Calls.mono (HHC.out _ _ _ _ HRX.out) ?_; rintro e w2 ⟨rfl, hb1⟩; have HS2 : Hid ((fun w' => (LG w w' bc #[.slice an s.nodes.length kn, .slice av s.vms.length kv, .slice ae s.tenants.length ke, .int .i64 s.over, .int .i64 s.time] 33) ∧ LG w w' bv #[.string v.name, .int .i64 v.tenant, .int .i64 v.cpu, .int .i64 v.mem, .int .i64 v.zone, .int .i64 v.apart, .string v.node, .int .i64 v.epoch] 41 ∧ CLRows w' s ⟨.slice an s.nodes.length kn, .slice av s.vms.length kv, .slice ae s.tenants.length ke⟩) w2) := ⟨HS1.out.1.step hb1, HS1.out.2.1.step hb1, HS1.out.2.2.below hb1⟩; clear hb1)
  refine hK _ _ HS2.out ?_
  clear hK K
  refine wpAnyH_take (i := 5) (v := .int .i64 HC) rfl (by kernel_rfl) (by kernel_rfl) (by kernel_rfl) (fun _ _ _ h => h) (Or.inl ⟨by kernel_rfl, fun w9 h9 => ?_⟩) HS2.out ?_
  · go_simp
  refine wpAnyH_done (by kernel_rfl) ?_ _
  go_simp
  go_wp2
  go_ret
  exact ⟨ret_int E2.out.symm, hbb ▸ HS2.out.1.bel⟩
end Go.Proofs.Ytkmbhhkgfofcoaa
