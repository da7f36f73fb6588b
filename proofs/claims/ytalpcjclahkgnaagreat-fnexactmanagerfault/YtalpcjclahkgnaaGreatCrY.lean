import Derived.Test.YtalpcjclahkgnaaGreatCr6
import Derived.Test.YtalpcjclahkgnaaGreatCkS
import Derived.Deep.RegionWith
import Derived.BigQuiet
import Derived.Test.YtalpcjclahkgnaaGreatCkZ
import Derived.Deep.QuietTactic
import Derived.BigRegion
namespace Go.Proofs.YtalpcjclahkgnaaGreat
open Go.ChangeShapes Go.WideShapes Go.ChangeAt Go.RowKit

theorem rkB_0 {xs : List ByteArray} (h : 0 < xs.length) : rkB xs 0 = nmB xs[0] := by simp [rkB, List.getD, List.getElem?_eq_getElem h]
theorem rkB_s {xs : List ByteArray} {k : Nat} (h : k + 1 < xs.length) : rkB xs (k + 1) = (nmB xs[k + 1] && tlt xs[k] xs[k + 1]) := by
  simp [rkB, List.getD, List.getElem?_eq_getElem h, List.getElem?_eq_getElem (show k < xs.length by omega)]
set_option maxRecDepth 100000 in
set_option maxHeartbeats 4000000 in
theorem areRisingS_any {w : World} {v : Value} {xs : List ByteArray} (h : Srow w v xs) (hl : xs.length ≤ 1048576) : Calls Tryz.prog 76 #[v, .func (.func 74) #[] #[]] w fun e w' => e = .returned (.bool (rsB xs)) ∧ Below w.heap.size w w' := by
  obtain ⟨ao, cap, rfl⟩ := h.sl
  have HR : Hid (Srow w (.slice ao xs.length cap) xs) := h
  clear h
  have hcf : ∀ (xs : Array Value) (w' : World), (callFunc 74 xs).run Tryz.prog w' = .ok (.enter 74 xs) w' := by
    intro xs w'
    kernel_rfl
  have E : Hid (rsB xs = allD (rkB xs) xs.length) := rfl
  generalize rsB xs = V at *
  go_enter Tryz.func76, Tryz.ntmps76
  go_wp2
  go_loopw [9] (fun i wr => ∃ k : Nat, k ≤ xs.length ∧ i = .int .i64 k ∧ allD (rkB xs) k = true ∧ Below w.heap.size w wr) (fun i _ => xs.length - (intOf i).toNat)
  case atStart => exact ⟨0, Nat.zero_le _, rfl, rfl, Below.refl _ _⟩
  case round =>
    obtain ⟨k, hk, rfl, hok, hb⟩ := hrel
    have HALL : Hid (allD (rkB xs) k = true) := hok
    have HB : Hid (Below w.heap.size w wr) := hb
    clear hok hb
    by_cases hlt : k < xs.length
    · obtain ⟨g, o, cap2, hv, _, hg, hc⟩ := HR.out.resolve_left (fun h => by rw [h.1] at hlt; simp at hlt)
      injection hv with hv1 hv2 hv3
      subst hv1 hv3
      have hgw : g < wr.heap.size := Nat.lt_of_lt_of_le hg HB.out.size
      have hk0 : (0 : Int) ≤ (k : Int) := by omega
      have hk1 : (k : Int) < (xs.length : Int) := by omega
      have HS : Hid (allD (rkB xs) (k + 1) = (allD (rkB xs) k && rkB xs k)) := allD_succ _ _
      have HBAD : Hid (rkB xs k = false → V = false) := fun hh => by rw [E.out, allD_bad hlt hh]
      match k, hlt, hk, hk0, hk1, HALL, HS, HBAD with
      | 0, hlt, hk, hk0, hk1, HALL, HS, HBAD =>
        have d0 := hc.below HB.out hg 0 hlt
        simp only [Nat.add_zero] at d0
        have HEK : Hid (rkB xs 0 = nmB xs[0]) := rkB_0 hlt
        have hj4 : decide ((0 : Int) < ((0 : Nat) : Int)) = false := rfl
        generalize xs[0] = z at *
        have HNM : Hid (∀ u, Calls Tryz.prog 74 #[.string z] u fun e w' => e = .returned (.bool (nmB z)) ∧ w' = u) := fun u => isImageName_any z u
        generalize nmB z = NM at *
        clear hc E HR
        cases NM
        · skip
          have E2 : Hid (V = false) := HBAD.out (HEK.out.trans (by simp))
          clear HS HBAD HEK HALL
          go_wp2_with fail
          refine Calls.mono (HNM.out _) ?_
          rintro e u1 ⟨rfl, rfl⟩
          clear HNM
          go_wp2
          go_ret
          exact ⟨ret_bool E2.out.symm, HB.out⟩
        · skip
          have E2 : Hid (allD (rkB xs) (1) = true) := (show allD (rkB xs) (0 + 1) = true by rw [HS.out, HALL.out, HEK.out]; rfl)
          clear HS HBAD HEK HALL
          go_wp2_with fail
          refine Calls.mono (HNM.out _) ?_
          rintro e u1 ⟨rfl, rfl⟩
          clear HNM
          go_wp2
          exact ⟨⟨1, hlt, by go_num, E2.out, HB.out⟩, by simp [intOf]; omega⟩
      | j + 1, hlt, hk, hk0, hk1, HALL, HS, HBAD =>
        have d0 := hc.below HB.out hg (j + 1) hlt
        have y0 := hc.below HB.out hg j (by omega)
        have HEK : Hid (rkB xs (j + 1) = (nmB xs[j + 1] && tlt xs[j] xs[j + 1])) := rkB_s hlt
        generalize xs[j] = y at *
        have hj1 : ((j + 1 : Nat) : Int) - 1 = (j : Int) := by omega
        have hj2 : (j : Int) < (xs.length : Int) := by omega
        have hj3 : (0 : Int) ≤ (j : Int) := by omega
        have hj4 : decide ((0 : Int) < ((j + 1 : Nat) : Int)) = true := decide_eq_true (by omega)
        have hj5 : IntKind.i64.wrap (j : Int) = (j : Int) := by rw [IntKind.wrap_i64]; omega
        generalize xs[j + 1] = z at *
        have HNM : Hid (∀ u, Calls Tryz.prog 74 #[.string z] u fun e w' => e = .returned (.bool (nmB z)) ∧ w' = u) := fun u => isImageName_any z u
        generalize nmB z = NM at *
        have HTL : Hid ((Op.bytesLess z.toList y.toList || z.toList == y.toList) = !tlt y z) := bl_tri y.toList z.toList
        generalize tlt y z = TL at *
        clear hc E HR
        cases NM
        · skip
          have E2 : Hid (V = false) := HBAD.out (HEK.out.trans (by simp))
          clear HS HBAD HEK HALL
          go_wp2_with fail
          refine Calls.mono (HNM.out _) ?_
          rintro e u1 ⟨rfl, rfl⟩
          clear HNM
          go_wp2
          go_ret
          exact ⟨ret_bool E2.out.symm, HB.out⟩
        · cases TL
          · have ht : (Op.bytesLess z.toList y.toList || z.toList == y.toList) = true := HTL.out
            have E2 : Hid (V = false) := HBAD.out (HEK.out.trans (by simp))
            clear HS HBAD HEK HALL
            go_wp2_with fail
            refine Calls.mono (HNM.out _) ?_
            rintro e u1 ⟨rfl, rfl⟩
            clear HNM
            go_wp2
            go_ret
            exact ⟨ret_bool E2.out.symm, HB.out⟩
          · obtain ⟨ht1, ht2⟩ : Op.bytesLess z.toList y.toList = false ∧ (z.toList == y.toList) = false := by
              have h9 := HTL.out
              rw [Bool.not_true, Bool.or_eq_false_iff] at h9
              exact h9
            have E2 : Hid (allD (rkB xs) (j + 1 + 1) = true) := (show allD (rkB xs) (j + 1 + 1) = true by rw [HS.out, HALL.out, HEK.out]; rfl)
            clear HS HBAD HEK HALL
            go_wp2_with fail
            refine Calls.mono (HNM.out _) ?_
            rintro e u1 ⟨rfl, rfl⟩
            clear HNM
            go_wp2
            exact ⟨⟨j + 1 + 1, hlt, by go_num, E2.out, HB.out⟩, by simp [intOf]; omega⟩
    · obtain rfl : k = xs.length := by omega
      have hnl : ¬ ((xs.length : Nat) : Int) < (xs.length : Int) := by omega
      have E2 : Hid (V = true) := (show V = true by rw [E.out, HALL.out])
      clear E HALL
      go_wp2
      go_ret
      exact ⟨ret_bool E2.out.symm, HB.out⟩
def bdB (s : CL) : Bool := decide ((s.nodes.length : Int) ≤ 12) && lnB s && ovB s
set_option maxRecDepth 100000 in
set_option maxHeartbeats 4000000 in
theorem isBounded_any {w : World} {b : Nat} {s : CL} {a : CA} (h : CX w b s a) (hl : CLlen s) : Calls Tryz.prog 58 #[.pointer (some ⟨b, 0, none⟩)] w fun e w' => e = .returned (.bool (bdB s)) ∧ w' = w := by
  obtain ⟨an, kn, av, kv, ae, ke, e⟩ := h.rows.sl
  have k0 := h.cel 0 a.vnodes rfl
  have k1 := h.cel 1 a.vvms rfl
  have k2 := h.cel 2 a.vtenants rfl
  have k3 := h.cel 3 (.int .i64 s.over) rfl
  have k4 := h.cel 4 (.int .i64 s.time) rfl
  have kl := h.lt
  have l0 : s.nodes.length ≤ 1048576 := hl.lnodes.1
  have l1 : s.vms.length ≤ 1048576 := hl.lvms.1
  have l2 : s.tenants.length ≤ 1048576 := hl.ltenants
  clear h hl
  subst e
  simp only at k0 k1 k2
  have E : Hid (bdB s = (decide ((s.nodes.length : Int) ≤ 12) && (decide ((s.vms.length : Int) ≤ 30) && decide (1 ≤ (s.tenants.length : Int)) && decide ((s.tenants.length : Int) ≤ 8)) && (decide (100 ≤ s.over) && decide (s.over ≤ 400) && decide (0 ≤ s.time) && decide (s.time ≤ 1099511627776)))) := rfl
  generalize bdB s = V at *
  cases q0 : decide (12 < (s.nodes.length : Int))
  · skip
    cases q1 : decide (30 < (s.vms.length : Int))
    · skip
      cases q2 : decide ((s.tenants.length : Int) < 1)
      · skip
        cases q3 : decide (8 < (s.tenants.length : Int))
        · skip
          cases q4 : decide (100 ≤ s.over)
          · skip
            have E2 : Hid (V = false) := (show V = false by rw [E.out]; have r0 := of_decide_eq_false q0; have r1 := of_decide_eq_false q1; have r2 := of_decide_eq_false q2; have r3 := of_decide_eq_false q3; have r4 := of_decide_eq_false q4; simp; try omega)
            clear E
            go_enter Tryz.func58, Tryz.ntmps58
            go_wp2
            go_ret
            exact ⟨ret_bool E2.out.symm, rfl⟩
          · skip
            cases q5 : decide (s.over ≤ 400)
            · skip
              have E2 : Hid (V = false) := (show V = false by rw [E.out]; have r0 := of_decide_eq_false q0; have r1 := of_decide_eq_false q1; have r2 := of_decide_eq_false q2; have r3 := of_decide_eq_false q3; have r4 := of_decide_eq_true q4; have r5 := of_decide_eq_false q5; simp; try omega)
              clear E
              go_enter Tryz.func58, Tryz.ntmps58
              go_wp2
              go_ret
              exact ⟨ret_bool E2.out.symm, rfl⟩
            · skip
              cases q6 : decide (0 ≤ s.time)
              · skip
                have E2 : Hid (V = false) := (show V = false by rw [E.out]; have r0 := of_decide_eq_false q0; have r1 := of_decide_eq_false q1; have r2 := of_decide_eq_false q2; have r3 := of_decide_eq_false q3; have r4 := of_decide_eq_true q4; have r5 := of_decide_eq_true q5; have r6 := of_decide_eq_false q6; simp; try omega)
                clear E
                go_enter Tryz.func58, Tryz.ntmps58
                go_wp2
                go_ret
                exact ⟨ret_bool E2.out.symm, rfl⟩
              · skip
                cases q7 : decide (s.time ≤ 1099511627776)
                · skip
                  have E2 : Hid (V = false) := (show V = false by rw [E.out]; have r0 := of_decide_eq_false q0; have r1 := of_decide_eq_false q1; have r2 := of_decide_eq_false q2; have r3 := of_decide_eq_false q3; have r4 := of_decide_eq_true q4; have r5 := of_decide_eq_true q5; have r6 := of_decide_eq_true q6; have r7 := of_decide_eq_false q7; simp; try omega)
                  clear E
                  go_enter Tryz.func58, Tryz.ntmps58
                  go_wp2
                  go_ret
                  exact ⟨ret_bool E2.out.symm, rfl⟩
                · skip
                  have E2 : Hid (V = true) := (show V = true by rw [E.out]; have r0 := of_decide_eq_false q0; have r1 := of_decide_eq_false q1; have r2 := of_decide_eq_false q2; have r3 := of_decide_eq_false q3; have r4 := of_decide_eq_true q4; have r5 := of_decide_eq_true q5; have r6 := of_decide_eq_true q6; have r7 := of_decide_eq_true q7; simp; try omega)
                  clear E
                  go_enter Tryz.func58, Tryz.ntmps58
                  go_wp2
                  go_ret
                  exact ⟨ret_bool E2.out.symm, rfl⟩
        · skip
          have E2 : Hid (V = false) := (show V = false by rw [E.out]; have r0 := of_decide_eq_false q0; have r1 := of_decide_eq_false q1; have r2 := of_decide_eq_false q2; have r3 := of_decide_eq_true q3; simp; try omega)
          clear E
          go_enter Tryz.func58, Tryz.ntmps58
          go_wp2
          go_ret
          exact ⟨ret_bool E2.out.symm, rfl⟩
      · skip
        have E2 : Hid (V = false) := (show V = false by rw [E.out]; have r0 := of_decide_eq_false q0; have r1 := of_decide_eq_false q1; have r2 := of_decide_eq_true q2; simp; try omega)
        clear E
        go_enter Tryz.func58, Tryz.ntmps58
        go_wp2
        go_ret
        exact ⟨ret_bool E2.out.symm, rfl⟩
    · skip
      have E2 : Hid (V = false) := (show V = false by rw [E.out]; have r0 := of_decide_eq_false q0; have r1 := of_decide_eq_true q1; simp; try omega)
      clear E
      go_enter Tryz.func58, Tryz.ntmps58
      go_wp2
      go_ret
      exact ⟨ret_bool E2.out.symm, rfl⟩
  · skip
    have E2 : Hid (V = false) := (show V = false by rw [E.out]; have r0 := of_decide_eq_true q0; simp; try omega)
    clear E
    go_enter Tryz.func58, Tryz.ntmps58
    go_wp2
    go_ret
    exact ⟨ret_bool E2.out.symm, rfl⟩

theorem own_ge {w : World} {B e sz n : Nat} {v : Value} {xs : List Value} (h : w.ownsRow B e sz v n xs) : ∀ j, v.ownBlock = some j → B ≤ j := by
  intro j hj
  rcases h.2 with ⟨rfl, _⟩ | ⟨g, cap, cur, rfl, hg, _⟩
  · simp [Value.ownBlock] at hj
  · simp [Value.ownBlock] at hj
    omega
def ndR (s : CL) (k : Nat) : Bool := nodB s.time (ndA s k)
def nrB (s : CL) : Bool := allD (ndR s) s.nodes.length && rsB (s.nodes.map NOD.name)
def vmR (s : CL) (k : Nat) : Bool := vmB s.tenants.length (vmA s k) && epB (vmA s k)
def vrB (s : CL) : Bool := allD (vmR s) s.vms.length && rsB (s.vms.map VMC.name)
set_option maxRecDepth 100000 in
set_option maxHeartbeats 4000000 in
theorem nodesR_any {w : World} {b : Nat} {s : CL} {a : CA} (h : CX w b s a) (hl : s.nodes.length ≤ 1048576) : Calls Tryz.prog 59 #[.pointer (some ⟨b, 0, none⟩)] w fun e w' => e = .returned (.bool (nrB s)) ∧ Below w.heap.size w w' := by
  have HX : Hid (CX w b s a) := h
  obtain ⟨an, kn, av, kv, ae, ke, e⟩ := h.rows.sl
  subst e
  have HR : Hid (NODrow w (.slice an s.nodes.length kn) s.nodes) := h.rows.rnodes
  have k0 := h.cel 0 (.slice an s.nodes.length kn) rfl
  have kl := h.lt
  clear h
  have E : Hid (nrB s = (allD (ndR s) s.nodes.length && rsB (s.nodes.map NOD.name))) := rfl
  have HAR : Hid (∀ u v, Srow u v (s.nodes.map NOD.name) → Calls Tryz.prog 76 #[v, .func (.func 74) #[] #[]] u fun e w' => e = .returned (.bool (rsB (s.nodes.map NOD.name))) ∧ Below u.heap.size u w') := fun u v hv => areRisingS_any hv (by simpa using hl)
  generalize nrB s = V at *
  generalize rsB (s.nodes.map NOD.name) = RS at *
  go_enter Tryz.func59, Tryz.ntmps59
  go_wp2
  clear k0 kl
  go_loopw [3, 11] (fun nv i wr => ∃ (k : Nat) (ao : Option Addr) (cp : Nat), k ≤ s.nodes.length ∧ nv = .slice ao k cp ∧ i = .int .i64 k ∧ allD (ndR s) k = true ∧ wr.ownsRow w.heap.size 9 1 (.slice ao k cp) k (sR ((s.nodes.take k).map NOD.name)) ∧ Below w.heap.size w wr) (fun _ i _ => s.nodes.length - (intOf i).toNat)
  case atStart => exact ⟨0, none, 0, Nat.zero_le _, rfl, rfl, rfl, World.ownsRow_nil _ _ _ _, Below.refl _ _⟩
  case round =>
    obtain ⟨k, ao, cp, hk, rfl, rfl, hok, ho, hb⟩ := hrel
    have HALL : Hid (allD (ndR s) k = true) := hok
    have HB : Hid (Below w.heap.size w wr) := hb
    have HO : Hid (wr.ownsRow w.heap.size 9 1 (.slice ao k cp) k (sR ((s.nodes.take k).map NOD.name))) := ho
    have HXR : Hid (CX wr b s ⟨.slice an s.nodes.length kn, .slice av s.vms.length kv, .slice ae s.tenants.length ke⟩) := HX.out.below hb
    clear hok hb ho
    by_cases hlt : k < s.nodes.length
    · obtain ⟨g, o, cap2, hv, _, hg, hc⟩ := HR.out.resolve_left (fun h => by rw [h.1] at hlt; simp at hlt)
      injection hv with hv1 hv2 hv3
      subst hv1 hv3
      have hgw : g < wr.heap.size := Nat.lt_of_lt_of_le hg HB.out.size
      have hk0 : (0 : Int) ≤ (k : Int) := by omega
      have hk1 : (k : Int) < (s.nodes.length : Int) := by omega
      obtain ⟨d0, d1, d2, d3, d4, d5, d6⟩ := hc.below HB.out hg k hlt
      have HS : Hid (allD (ndR s) (k + 1) = (allD (ndR s) k && ndR s k)) := allD_succ _ _
      have HBAD : Hid (ndR s k = false → V = false) := fun hh => by rw [E.out, allD_bad hlt hh, Bool.false_and]
      have HEK : Hid (ndR s k = (nodB s.time s.nodes[k])) := (show ndR s k = (nodB s.time s.nodes[k]) by unfold ndR; rw [ndA_at hlt])
      have HTK : Hid (sR ((s.nodes.take (k + 1)).map NOD.name) = sR ((s.nodes.take k).map NOD.name) ++ [.string s.nodes[k].name]) := by rw [List.take_succ_eq_append_getElem hlt, List.map_append]; exact sR_snoc _ _
      have HCL : Hid (∀ u, Calls Tryz.prog 75 #[.agg #[.string s.nodes[k].name, .int .i64 s.nodes[k].cpu, .int .i64 s.nodes[k].mem, .int .i64 s.nodes[k].zone, .int .i64 s.nodes[k].beat, .bool s.nodes[k].fenced, .bool s.nodes[k].closed], .int .i64 s.time] u fun e w' => e = .returned (.bool (nodB s.time s.nodes[k])) ∧ Below u.heap.size u w') := fun u => ndRight_any _ _ u
      generalize nodB s.time s.nodes[k] = NB at *
      generalize s.nodes[k] = z at *
      go_upto_region 5 with fail
      have HZ : Hid (LG w (wr.alloc (.cells #[.string z.name, .int .i64 z.cpu, .int .i64 z.mem, .int .i64 z.zone, .int .i64 z.beat, .bool z.fenced, .bool z.closed] 97)) wr.heap.size #[.string z.name, .int .i64 z.cpu, .int .i64 z.mem, .int .i64 z.zone, .int .i64 z.beat, .bool z.fenced, .bool z.closed] 97) := LG.mk2 HB.out
      have HX1 : Hid (CX (wr.alloc (.cells #[.string z.name, .int .i64 z.cpu, .int .i64 z.mem, .int .i64 z.zone, .int .i64 z.beat, .bool z.fenced, .bool z.closed] 97)) b s ⟨.slice (some ⟨g, o, none⟩) s.nodes.length kn, .slice av s.vms.length kv, .slice ae s.tenants.length ke⟩) := HXR.out.below (bx1 _ _)
      have HO1 : Hid ((wr.alloc (.cells #[.string z.name, .int .i64 z.cpu, .int .i64 z.mem, .int .i64 z.zone, .int .i64 z.beat, .bool z.fenced, .bool z.closed] 97)).ownsRow w.heap.size 9 1 (.slice ao k cp) k (sR ((s.nodes.take k).map NOD.name))) := own_belowN HO.out (bx1 _ _)
      clear d0 d1 d2 d3 d4 d5 d6 hc hgw HXR HO hk0 hk1 HR E
      generalize (wr.alloc (.cells #[.string z.name, .int .i64 z.cpu, .int .i64 z.mem, .int .i64 z.zone, .int .i64 z.beat, .bool z.fenced, .bool z.closed] 97)) = u0 at *
      generalize wr.heap.size = b0 at *
      cases NB
      · skip
        have E3 : Hid (V = false) := HBAD.out HEK.out
        clear HS HALL HEK HBAD
        have HSB : Hid ((fun w' => (LG w w' b0 #[.string z.name, .int .i64 z.cpu, .int .i64 z.mem, .int .i64 z.zone, .int .i64 z.beat, .bool z.fenced, .bool z.closed] 97) ∧ CX w' b s ⟨.slice (some ⟨g, o, none⟩) s.nodes.length kn, .slice av s.vms.length kv, .slice ae s.tenants.length ke⟩ ∧ w'.ownsRow w.heap.size 9 1 (.slice ao k cp) k (sR ((s.nodes.take k).map NOD.name))) u0.drew) := ⟨HZ.out.drew, HX1.out.below ⟨rfl, rfl, rfl, Nat.le_refl _, fun _ _ => rfl⟩, own_belowN HO1.out (⟨rfl, rfl, rfl, Nat.le_refl _, fun _ _ => rfl⟩ : Below u0.heap.size u0 u0.drew)⟩
        refine wp_region_held (S := fun w' => (LG w w' b0 #[.string z.name, .int .i64 z.cpu, .int .i64 z.mem, .int .i64 z.zone, .int .i64 z.beat, .bool z.fenced, .bool z.closed] 97) ∧ CX w' b s ⟨.slice (some ⟨g, o, none⟩) s.nodes.length kn, .slice av s.vms.length kv, .slice ae s.tenants.length ke⟩ ∧ w'.ownsRow w.heap.size 9 1 (.slice ao k cp) k (sR ((s.nodes.take k).map NOD.name))) (by kernel_rfl) ?_
        change wpAnyH _ _ _ _ _ _ _ _ (World.drew _)
        refine wpAnyH_take (i := 0) (v := .agg #[.string z.name, .int .i64 z.cpu, .int .i64 z.mem, .int .i64 z.zone, .int .i64 z.beat, .bool z.fenced, .bool z.closed]) rfl (by kernel_rfl) (by kernel_rfl) (by kernel_rfl) (fun _ _ _ h => h) (Or.inl ⟨by kernel_rfl, fun w9 h9 => ?_⟩) HSB.out ?_
        · obtain ⟨hlg, hcx, _⟩ := h9; have z0 := hlg.cel 0 _ rfl; have z1 := hlg.cel 1 _ rfl; have z2 := hlg.cel 2 _ rfl; have z3 := hlg.cel 3 _ rfl; have z4 := hlg.cel 4 _ rfl; have z5 := hlg.cel 5 _ rfl; have z6 := hlg.cel 6 _ rfl; have x4 := hcx.cel 4 (.int .i64 s.time) rfl; go_simp
        refine wpAnyH_take (i := 1) (v := .pointer (some ⟨b, 0, none⟩)) rfl (by kernel_rfl) (by kernel_rfl) (by kernel_rfl) (fun _ _ _ h => h) (Or.inl ⟨by kernel_rfl, fun w9 h9 => ?_⟩) HSB.out ?_
        · go_simp
        refine wpAnyH_take (i := 2) (v := .pointer (some ⟨b, 0, none⟩)) rfl (by kernel_rfl) (by kernel_rfl) (by kernel_rfl) (fun _ _ _ h => h) (Or.inl ⟨by kernel_rfl, fun w9 h9 => ?_⟩) HSB.out ?_
        · go_simp
        refine wpAnyH_take (i := 3) (v := .pointer (some ⟨b, 4, none⟩)) rfl (by kernel_rfl) (by kernel_rfl) (by kernel_rfl) (fun _ _ _ h => h) (Or.inl ⟨by kernel_rfl, fun w9 h9 => ?_⟩) HSB.out ?_
        · go_simp
        refine wpAnyH_take (i := 4) (v := .int .i64 s.time) rfl (by kernel_rfl) (by kernel_rfl) (by kernel_rfl) (fun _ _ _ h => h) (Or.inl ⟨by kernel_rfl, fun w9 h9 => ?_⟩) HSB.out ?_
        · obtain ⟨hlg, hcx, _⟩ := h9; have z0 := hlg.cel 0 _ rfl; have z1 := hlg.cel 1 _ rfl; have z2 := hlg.cel 2 _ rfl; have z3 := hlg.cel 3 _ rfl; have z4 := hlg.cel 4 _ rfl; have z5 := hlg.cel 5 _ rfl; have z6 := hlg.cel 6 _ rfl; have x4 := hcx.cel 4 (.int .i64 s.time) rfl; go_simp
        refine held_one 5 (by kernel_rfl) rfl (by kernel_rfl) fun K hK => ?_
        go_simp
        go_wp2_with (go_at_call 75; refine Calls.mono (HCL.out _) ?_; rintro e u1 ⟨rfl, hb1⟩; have HS1 : Hid ((fun w' => (LG w w' b0 #[.string z.name, .int .i64 z.cpu, .int .i64 z.mem, .int .i64 z.zone, .int .i64 z.beat, .bool z.fenced, .bool z.closed] 97) ∧ CX w' b s ⟨.slice (some ⟨g, o, none⟩) s.nodes.length kn, .slice av s.vms.length kv, .slice ae s.tenants.length ke⟩ ∧ w'.ownsRow w.heap.size 9 1 (.slice ao k cp) k (sR ((s.nodes.take k).map NOD.name))) u1) := ⟨HSB.out.1.step hb1, HSB.out.2.1.below hb1, own_belowN HSB.out.2.2 hb1⟩; clear hb1)
        refine hK _ _ HS1.out ?_
        clear hK K
        refine wpAnyH_take (i := 6) (v := .bool true) rfl (by kernel_rfl) (by kernel_rfl) (by kernel_rfl) (fun _ _ _ h => h) (Or.inl ⟨by kernel_rfl, fun w9 h9 => ?_⟩) HS1.out ?_
        · go_simp
        refine wpAnyH_done (by kernel_rfl) ?_ _
        go_simp
        go_wp2
        go_ret
        exact ⟨ret_bool E3.out.symm, HS1.out.1.bel⟩
      · skip
        have E3 : Hid (allD (ndR s) (k + 1) = true) := (show allD (ndR s) (k + 1) = true by rw [HS.out, HALL.out, HEK.out]; rfl)
        clear HS HALL HEK HBAD
        have HSB : Hid ((fun w' => (LG w w' b0 #[.string z.name, .int .i64 z.cpu, .int .i64 z.mem, .int .i64 z.zone, .int .i64 z.beat, .bool z.fenced, .bool z.closed] 97) ∧ CX w' b s ⟨.slice (some ⟨g, o, none⟩) s.nodes.length kn, .slice av s.vms.length kv, .slice ae s.tenants.length ke⟩ ∧ w'.ownsRow w.heap.size 9 1 (.slice ao k cp) k (sR ((s.nodes.take k).map NOD.name))) u0.drew) := ⟨HZ.out.drew, HX1.out.below ⟨rfl, rfl, rfl, Nat.le_refl _, fun _ _ => rfl⟩, own_belowN HO1.out (⟨rfl, rfl, rfl, Nat.le_refl _, fun _ _ => rfl⟩ : Below u0.heap.size u0 u0.drew)⟩
        refine wp_region_held (S := fun w' => (LG w w' b0 #[.string z.name, .int .i64 z.cpu, .int .i64 z.mem, .int .i64 z.zone, .int .i64 z.beat, .bool z.fenced, .bool z.closed] 97) ∧ CX w' b s ⟨.slice (some ⟨g, o, none⟩) s.nodes.length kn, .slice av s.vms.length kv, .slice ae s.tenants.length ke⟩ ∧ w'.ownsRow w.heap.size 9 1 (.slice ao k cp) k (sR ((s.nodes.take k).map NOD.name))) (by kernel_rfl) ?_
        change wpAnyH _ _ _ _ _ _ _ _ (World.drew _)
        refine wpAnyH_take (i := 0) (v := .agg #[.string z.name, .int .i64 z.cpu, .int .i64 z.mem, .int .i64 z.zone, .int .i64 z.beat, .bool z.fenced, .bool z.closed]) rfl (by kernel_rfl) (by kernel_rfl) (by kernel_rfl) (fun _ _ _ h => h) (Or.inl ⟨by kernel_rfl, fun w9 h9 => ?_⟩) HSB.out ?_
        · obtain ⟨hlg, hcx, _⟩ := h9; have z0 := hlg.cel 0 _ rfl; have z1 := hlg.cel 1 _ rfl; have z2 := hlg.cel 2 _ rfl; have z3 := hlg.cel 3 _ rfl; have z4 := hlg.cel 4 _ rfl; have z5 := hlg.cel 5 _ rfl; have z6 := hlg.cel 6 _ rfl; have x4 := hcx.cel 4 (.int .i64 s.time) rfl; go_simp
        refine wpAnyH_take (i := 1) (v := .pointer (some ⟨b, 0, none⟩)) rfl (by kernel_rfl) (by kernel_rfl) (by kernel_rfl) (fun _ _ _ h => h) (Or.inl ⟨by kernel_rfl, fun w9 h9 => ?_⟩) HSB.out ?_
        · go_simp
        refine wpAnyH_take (i := 2) (v := .pointer (some ⟨b, 0, none⟩)) rfl (by kernel_rfl) (by kernel_rfl) (by kernel_rfl) (fun _ _ _ h => h) (Or.inl ⟨by kernel_rfl, fun w9 h9 => ?_⟩) HSB.out ?_
        · go_simp
        refine wpAnyH_take (i := 3) (v := .pointer (some ⟨b, 4, none⟩)) rfl (by kernel_rfl) (by kernel_rfl) (by kernel_rfl) (fun _ _ _ h => h) (Or.inl ⟨by kernel_rfl, fun w9 h9 => ?_⟩) HSB.out ?_
        · go_simp
        refine wpAnyH_take (i := 4) (v := .int .i64 s.time) rfl (by kernel_rfl) (by kernel_rfl) (by kernel_rfl) (fun _ _ _ h => h) (Or.inl ⟨by kernel_rfl, fun w9 h9 => ?_⟩) HSB.out ?_
        · obtain ⟨hlg, hcx, _⟩ := h9; have z0 := hlg.cel 0 _ rfl; have z1 := hlg.cel 1 _ rfl; have z2 := hlg.cel 2 _ rfl; have z3 := hlg.cel 3 _ rfl; have z4 := hlg.cel 4 _ rfl; have z5 := hlg.cel 5 _ rfl; have z6 := hlg.cel 6 _ rfl; have x4 := hcx.cel 4 (.int .i64 s.time) rfl; go_simp
        refine held_one 5 (by kernel_rfl) rfl (by kernel_rfl) fun K hK => ?_
        go_simp
        go_wp2_with (go_at_call 75; refine Calls.mono (HCL.out _) ?_; rintro e u1 ⟨rfl, hb1⟩; have HS1 : Hid ((fun w' => (LG w w' b0 #[.string z.name, .int .i64 z.cpu, .int .i64 z.mem, .int .i64 z.zone, .int .i64 z.beat, .bool z.fenced, .bool z.closed] 97) ∧ CX w' b s ⟨.slice (some ⟨g, o, none⟩) s.nodes.length kn, .slice av s.vms.length kv, .slice ae s.tenants.length ke⟩ ∧ w'.ownsRow w.heap.size 9 1 (.slice ao k cp) k (sR ((s.nodes.take k).map NOD.name))) u1) := ⟨HSB.out.1.step hb1, HSB.out.2.1.below hb1, own_belowN HSB.out.2.2 hb1⟩; clear hb1)
        refine hK _ _ HS1.out ?_
        clear hK K
        refine wpAnyH_take (i := 6) (v := .bool false) rfl (by kernel_rfl) (by kernel_rfl) (by kernel_rfl) (fun _ _ _ h => h) (Or.inl ⟨by kernel_rfl, fun w9 h9 => ?_⟩) HS1.out ?_
        · go_simp
        refine wpAnyH_done (by kernel_rfl) ?_ _
        go_simp
        have HZ2 : Hid (LG w u1 b0 #[.string z.name, .int .i64 z.cpu, .int .i64 z.mem, .int .i64 z.zone, .int .i64 z.beat, .bool z.fenced, .bool z.closed] 97) := HS1.out.1
        have HO2 : Hid (u1.ownsRow w.heap.size 9 1 (.slice ao k cp) k (sR ((s.nodes.take k).map NOD.name))) := HS1.out.2.2
        clear HSB HS1 HX1 HO1 HZ HCL
        have z0 := HZ2.out.cel 0 _ rfl
        have zl := HZ2.out.lt
        have HAP : Hid _ := app1S HO2.out z.name (by omega) HZ2.out.bel.size
        go_wp2_with (at_builtin; (refine wl_append_ex rfl _ _ 51 rfl _ _ rfl rfl HAP.out ?_; rintro v' u6 ⟨ho, hg9⟩; obtain ⟨a9, c9, rfl⟩ := s_slS ho; have HO6 : Hid (u6.ownsRow w.heap.size 9 1 (.slice a9 (k + 1) c9) (k + 1) (sR ((s.nodes.take ((k + 1))).map NOD.name))) := (by rw [HTK.out]; exact ho); have HB6 : Hid (Below w.heap.size w u6) := (HZ2.out.bel.alloc HZ2.out.bel.size _).grown hg9 (Nat.le_trans HZ2.out.bel.size (by simp)) (own_ge HO2.out); clear ho hg9))
        exact ⟨⟨k + 1, a9, c9, hlt, rfl, by go_num, E3.out, HO6.out, HB6.out⟩, by simp [intOf]; omega⟩
    · obtain rfl : k = s.nodes.length := by omega
      have E2 : Hid (V = RS) := (show V = RS by rw [E.out, HALL.out, Bool.true_and])
      have HSR : Hid (Srow wr (.slice ao s.nodes.length cp) (s.nodes.map NOD.name)) := by
        have h9 := HO.out
        rw [List.take_length] at h9
        have h8 : (s.nodes.map NOD.name).length = s.nodes.length := by simp
        have h7 := Srow.of (zs := s.nodes.map NOD.name) (v := .slice ao s.nodes.length cp) (B := w.heap.size) (w := wr) (by rw [h8]; exact h9)
        exact h7
      clear E HALL HO HXR
      go_wp2_with (go_at_call 76; refine Calls.mono (HAR.out _ _ HSR.out) ?_; rintro e u1 ⟨rfl, hu⟩; have HB1 : Hid (Below w.heap.size w u1) := HB.out.trans (hu.mono HB.out.size); clear hu)
      go_ret
      exact ⟨ret_bool E2.out.symm, HB1.out⟩
set_option maxRecDepth 100000 in
set_option maxHeartbeats 4000000 in
theorem vmsR_any {w : World} {b : Nat} {s : CL} {a : CA} (h : CX w b s a) (hl : s.vms.length ≤ 1048576) (hq : s.tenants.length ≤ 1048576) : Calls Tryz.prog 60 #[.pointer (some ⟨b, 0, none⟩)] w fun e w' => e = .returned (.bool (vrB s)) ∧ Below w.heap.size w w' := by
  have HX : Hid (CX w b s a) := h
  obtain ⟨an, kn, av, kv, ae, ke, e⟩ := h.rows.sl
  subst e
  have HR : Hid (VMCrow w (.slice av s.vms.length kv) s.vms) := h.rows.rvms
  have k1 := h.cel 1 (.slice av s.vms.length kv) rfl
  have kl := h.lt
  clear h
  have E : Hid (vrB s = (allD (vmR s) s.vms.length && rsB (s.vms.map VMC.name))) := rfl
  have HAR : Hid (∀ u v, Srow u v (s.vms.map VMC.name) → Calls Tryz.prog 76 #[v, .func (.func 74) #[] #[]] u fun e w' => e = .returned (.bool (rsB (s.vms.map VMC.name))) ∧ Below u.heap.size u w') := fun u v hv => areRisingS_any hv (by simpa using hl)
  generalize vrB s = V at *
  generalize rsB (s.vms.map VMC.name) = RS at *
  go_enter Tryz.func60, Tryz.ntmps60
  go_wp2
  clear k1 kl
  go_loopw [3, 11] (fun nv i wr => ∃ (k : Nat) (ao : Option Addr) (cp : Nat), k ≤ s.vms.length ∧ nv = .slice ao k cp ∧ i = .int .i64 k ∧ allD (vmR s) k = true ∧ wr.ownsRow w.heap.size 9 1 (.slice ao k cp) k (sR ((s.vms.take k).map VMC.name)) ∧ Below w.heap.size w wr) (fun _ i _ => s.vms.length - (intOf i).toNat)
  case atStart => exact ⟨0, none, 0, Nat.zero_le _, rfl, rfl, rfl, World.ownsRow_nil _ _ _ _, Below.refl _ _⟩
  case round =>
    obtain ⟨k, ao, cp, hk, rfl, rfl, hok, ho, hb⟩ := hrel
    have HALL : Hid (allD (vmR s) k = true) := hok
    have HB : Hid (Below w.heap.size w wr) := hb
    have HO : Hid (wr.ownsRow w.heap.size 9 1 (.slice ao k cp) k (sR ((s.vms.take k).map VMC.name))) := ho
    have HXR : Hid (CX wr b s ⟨.slice an s.nodes.length kn, .slice av s.vms.length kv, .slice ae s.tenants.length ke⟩) := HX.out.below hb
    clear hok hb ho
    by_cases hlt : k < s.vms.length
    · obtain ⟨g, o, cap2, hv, _, hg, hc⟩ := HR.out.resolve_left (fun h => by rw [h.1] at hlt; simp at hlt)
      injection hv with hv1 hv2 hv3
      subst hv1 hv3
      have hgw : g < wr.heap.size := Nat.lt_of_lt_of_le hg HB.out.size
      have hk0 : (0 : Int) ≤ (k : Int) := by omega
      have hk1 : (k : Int) < (s.vms.length : Int) := by omega
      obtain ⟨d0, d1, d2, d3, d4, d5, d6, d7⟩ := hc.below HB.out hg k hlt
      have HS : Hid (allD (vmR s) (k + 1) = (allD (vmR s) k && vmR s k)) := allD_succ _ _
      have HBAD : Hid (vmR s k = false → V = false) := fun hh => by rw [E.out, allD_bad hlt hh, Bool.false_and]
      have HEK : Hid (vmR s k = (vmB s.tenants.length s.vms[k] && epB s.vms[k])) := (show vmR s k = (vmB s.tenants.length s.vms[k] && epB s.vms[k]) by unfold vmR; rw [vmA_at hlt])
      have HTK : Hid (sR ((s.vms.take (k + 1)).map VMC.name) = sR ((s.vms.take k).map VMC.name) ++ [.string s.vms[k].name]) := by rw [List.take_succ_eq_append_getElem hlt, List.map_append]; exact sR_snoc _ _
      have HCL : Hid (∀ u, Calls Tryz.prog 77 #[.agg #[.string s.vms[k].name, .int .i64 s.vms[k].tenant, .int .i64 s.vms[k].cpu, .int .i64 s.vms[k].mem, .int .i64 s.vms[k].zone, .int .i64 s.vms[k].apart, .string s.vms[k].node, .int .i64 s.vms[k].epoch], .int .i64 (s.tenants.length : Nat)] u fun e w' => e = .returned (.bool (vmB s.tenants.length s.vms[k])) ∧ Below u.heap.size u w') := fun u => vmOne_any _ _ hq u
      generalize vmB s.tenants.length s.vms[k] = VB at *
      generalize s.vms[k] = z at *
      go_upto_region 5 with fail
      have HZ : Hid (LG w (wr.alloc (.cells #[.string z.name, .int .i64 z.tenant, .int .i64 z.cpu, .int .i64 z.mem, .int .i64 z.zone, .int .i64 z.apart, .string z.node, .int .i64 z.epoch] 71)) wr.heap.size #[.string z.name, .int .i64 z.tenant, .int .i64 z.cpu, .int .i64 z.mem, .int .i64 z.zone, .int .i64 z.apart, .string z.node, .int .i64 z.epoch] 71) := LG.mk2 HB.out
      have HX1 : Hid (CX (wr.alloc (.cells #[.string z.name, .int .i64 z.tenant, .int .i64 z.cpu, .int .i64 z.mem, .int .i64 z.zone, .int .i64 z.apart, .string z.node, .int .i64 z.epoch] 71)) b s ⟨.slice an s.nodes.length kn, .slice (some ⟨g, o, none⟩) s.vms.length kv, .slice ae s.tenants.length ke⟩) := HXR.out.below (bx1 _ _)
      have HO1 : Hid ((wr.alloc (.cells #[.string z.name, .int .i64 z.tenant, .int .i64 z.cpu, .int .i64 z.mem, .int .i64 z.zone, .int .i64 z.apart, .string z.node, .int .i64 z.epoch] 71)).ownsRow w.heap.size 9 1 (.slice ao k cp) k (sR ((s.vms.take k).map VMC.name))) := own_belowN HO.out (bx1 _ _)
      clear d0 d1 d2 d3 d4 d5 d6 d7 hc hgw HXR HO hk0 hk1 HR E
      generalize (wr.alloc (.cells #[.string z.name, .int .i64 z.tenant, .int .i64 z.cpu, .int .i64 z.mem, .int .i64 z.zone, .int .i64 z.apart, .string z.node, .int .i64 z.epoch] 71)) = u0 at *
      generalize wr.heap.size = b0 at *
      cases VB
      · skip
        have E3 : Hid (V = false) := HBAD.out (HEK.out.trans (by simp [epB]; try omega))
        clear HS HALL HEK HBAD
        have HSB : Hid ((fun w' => (LG w w' b0 #[.string z.name, .int .i64 z.tenant, .int .i64 z.cpu, .int .i64 z.mem, .int .i64 z.zone, .int .i64 z.apart, .string z.node, .int .i64 z.epoch] 71) ∧ CX w' b s ⟨.slice an s.nodes.length kn, .slice (some ⟨g, o, none⟩) s.vms.length kv, .slice ae s.tenants.length ke⟩ ∧ w'.ownsRow w.heap.size 9 1 (.slice ao k cp) k (sR ((s.vms.take k).map VMC.name))) u0.drew) := ⟨HZ.out.drew, HX1.out.below ⟨rfl, rfl, rfl, Nat.le_refl _, fun _ _ => rfl⟩, own_belowN HO1.out (⟨rfl, rfl, rfl, Nat.le_refl _, fun _ _ => rfl⟩ : Below u0.heap.size u0 u0.drew)⟩
        refine wp_region_held (S := fun w' => (LG w w' b0 #[.string z.name, .int .i64 z.tenant, .int .i64 z.cpu, .int .i64 z.mem, .int .i64 z.zone, .int .i64 z.apart, .string z.node, .int .i64 z.epoch] 71) ∧ CX w' b s ⟨.slice an s.nodes.length kn, .slice (some ⟨g, o, none⟩) s.vms.length kv, .slice ae s.tenants.length ke⟩ ∧ w'.ownsRow w.heap.size 9 1 (.slice ao k cp) k (sR ((s.vms.take k).map VMC.name))) (by kernel_rfl) ?_
        change wpAnyH _ _ _ _ _ _ _ _ (World.drew _)
        refine wpAnyH_take (i := 0) (v := .agg #[.string z.name, .int .i64 z.tenant, .int .i64 z.cpu, .int .i64 z.mem, .int .i64 z.zone, .int .i64 z.apart, .string z.node, .int .i64 z.epoch]) rfl (by kernel_rfl) (by kernel_rfl) (by kernel_rfl) (fun _ _ _ h => h) (Or.inl ⟨by kernel_rfl, fun w9 h9 => ?_⟩) HSB.out ?_
        · obtain ⟨hlg, hcx, _⟩ := h9; have z0 := hlg.cel 0 _ rfl; have z1 := hlg.cel 1 _ rfl; have z2 := hlg.cel 2 _ rfl; have z3 := hlg.cel 3 _ rfl; have z4 := hlg.cel 4 _ rfl; have z5 := hlg.cel 5 _ rfl; have z6 := hlg.cel 6 _ rfl; have z7 := hlg.cel 7 _ rfl; have x2 := hcx.cel 2 (.slice ae s.tenants.length ke) rfl; go_simp
        refine wpAnyH_take (i := 1) (v := .pointer (some ⟨b, 0, none⟩)) rfl (by kernel_rfl) (by kernel_rfl) (by kernel_rfl) (fun _ _ _ h => h) (Or.inl ⟨by kernel_rfl, fun w9 h9 => ?_⟩) HSB.out ?_
        · go_simp
        refine wpAnyH_take (i := 2) (v := .pointer (some ⟨b, 0, none⟩)) rfl (by kernel_rfl) (by kernel_rfl) (by kernel_rfl) (fun _ _ _ h => h) (Or.inl ⟨by kernel_rfl, fun w9 h9 => ?_⟩) HSB.out ?_
        · go_simp
        refine wpAnyH_take (i := 3) (v := .pointer (some ⟨b, 2, none⟩)) rfl (by kernel_rfl) (by kernel_rfl) (by kernel_rfl) (fun _ _ _ h => h) (Or.inl ⟨by kernel_rfl, fun w9 h9 => ?_⟩) HSB.out ?_
        · go_simp
        refine wpAnyH_take (i := 4) (v := .slice ae s.tenants.length ke) rfl (by kernel_rfl) (by kernel_rfl) (by kernel_rfl) (fun _ _ _ h => h) (Or.inl ⟨by kernel_rfl, fun w9 h9 => ?_⟩) HSB.out ?_
        · obtain ⟨hlg, hcx, _⟩ := h9; have z0 := hlg.cel 0 _ rfl; have z1 := hlg.cel 1 _ rfl; have z2 := hlg.cel 2 _ rfl; have z3 := hlg.cel 3 _ rfl; have z4 := hlg.cel 4 _ rfl; have z5 := hlg.cel 5 _ rfl; have z6 := hlg.cel 6 _ rfl; have z7 := hlg.cel 7 _ rfl; have x2 := hcx.cel 2 (.slice ae s.tenants.length ke) rfl; go_simp
        refine wpAnyH_take (i := 5) (v := .int .i64 (s.tenants.length : Nat)) rfl (by kernel_rfl) (by kernel_rfl) (by kernel_rfl) (fun _ _ _ h => h) (Or.inl ⟨by kernel_rfl, fun w9 h9 => ?_⟩) HSB.out ?_
        · go_simp
        refine held_one 6 (by kernel_rfl) rfl (by kernel_rfl) fun K hK => ?_
        go_simp
        go_wp2_with (go_at_call 77; refine Calls.mono (HCL.out _) ?_; rintro e u1 ⟨rfl, hb1⟩; have HS1 : Hid ((fun w' => (LG w w' b0 #[.string z.name, .int .i64 z.tenant, .int .i64 z.cpu, .int .i64 z.mem, .int .i64 z.zone, .int .i64 z.apart, .string z.node, .int .i64 z.epoch] 71) ∧ CX w' b s ⟨.slice an s.nodes.length kn, .slice (some ⟨g, o, none⟩) s.vms.length kv, .slice ae s.tenants.length ke⟩ ∧ w'.ownsRow w.heap.size 9 1 (.slice ao k cp) k (sR ((s.vms.take k).map VMC.name))) u1) := ⟨HSB.out.1.step hb1, HSB.out.2.1.below hb1, own_belowN HSB.out.2.2 hb1⟩; clear hb1)
        refine hK _ _ HS1.out ?_
        clear hK K
        refine wpAnyH_take (i := 7) (v := .bool true) rfl (by kernel_rfl) (by kernel_rfl) (by kernel_rfl) (fun _ _ _ h => h) (Or.inl ⟨by kernel_rfl, fun w9 h9 => ?_⟩) HS1.out ?_
        · go_simp
        refine wpAnyH_take (i := 8) (v := .bool true) rfl (by kernel_rfl) (by kernel_rfl) (by kernel_rfl) (fun _ _ _ h => h) (Or.inl ⟨by kernel_rfl, fun w9 h9 => ?_⟩) HS1.out ?_
        · go_simp
        refine wpAnyH_take (i := 9) (v := undef) rfl (by kernel_rfl) (by kernel_rfl) (by kernel_rfl) (fun _ _ _ h => h) (Or.inr ⟨by kernel_rfl, rfl⟩) HS1.out ?_
        refine wpAnyH_take (i := 10) (v := undef) rfl (by kernel_rfl) (by kernel_rfl) (by kernel_rfl) (fun _ _ _ h => h) (Or.inr ⟨by kernel_rfl, rfl⟩) HS1.out ?_
        refine wpAnyH_take (i := 11) (v := undef) rfl (by kernel_rfl) (by kernel_rfl) (by kernel_rfl) (fun _ _ _ h => h) (Or.inr ⟨by kernel_rfl, rfl⟩) HS1.out ?_
        refine wpAnyH_take (i := 12) (v := .bool true) rfl (by kernel_rfl) (by kernel_rfl) (by kernel_rfl) (fun _ _ _ h => h) (Or.inl ⟨by kernel_rfl, fun w9 h9 => ?_⟩) HS1.out ?_
        · go_simp
        refine wpAnyH_take (i := 13) (v := .bool true) rfl (by kernel_rfl) (by kernel_rfl) (by kernel_rfl) (fun _ _ _ h => h) (Or.inl ⟨by kernel_rfl, fun w9 h9 => ?_⟩) HS1.out ?_
        · go_simp
        refine wpAnyH_take (i := 14) (v := undef) rfl (by kernel_rfl) (by kernel_rfl) (by kernel_rfl) (fun _ _ _ h => h) (Or.inr ⟨by kernel_rfl, rfl⟩) HS1.out ?_
        refine wpAnyH_take (i := 15) (v := undef) rfl (by kernel_rfl) (by kernel_rfl) (by kernel_rfl) (fun _ _ _ h => h) (Or.inr ⟨by kernel_rfl, rfl⟩) HS1.out ?_
        refine wpAnyH_take (i := 16) (v := undef) rfl (by kernel_rfl) (by kernel_rfl) (by kernel_rfl) (fun _ _ _ h => h) (Or.inr ⟨by kernel_rfl, rfl⟩) HS1.out ?_
        refine wpAnyH_take (i := 17) (v := .bool true) rfl (by kernel_rfl) (by kernel_rfl) (by kernel_rfl) (fun _ _ _ h => h) (Or.inl ⟨by kernel_rfl, fun w9 h9 => ?_⟩) HS1.out ?_
        · go_simp
        refine wpAnyH_done (by kernel_rfl) ?_ _
        go_simp
        go_wp2
        go_ret
        exact ⟨ret_bool E3.out.symm, HS1.out.1.bel⟩
      · skip
        cases q1 : decide (z.epoch < 0)
        · skip
          cases q2 : decide (1099511627776 < z.epoch)
          · skip
            have E3 : Hid (allD (vmR s) (k + 1) = true) := (show allD (vmR s) (k + 1) = true by rw [HS.out, HALL.out, HEK.out]; have r1 := of_decide_eq_false q1; have r2 := of_decide_eq_false q2; simp [epB]; omega)
            clear HS HALL HEK HBAD
            have HSB : Hid ((fun w' => (LG w w' b0 #[.string z.name, .int .i64 z.tenant, .int .i64 z.cpu, .int .i64 z.mem, .int .i64 z.zone, .int .i64 z.apart, .string z.node, .int .i64 z.epoch] 71) ∧ CX w' b s ⟨.slice an s.nodes.length kn, .slice (some ⟨g, o, none⟩) s.vms.length kv, .slice ae s.tenants.length ke⟩ ∧ w'.ownsRow w.heap.size 9 1 (.slice ao k cp) k (sR ((s.vms.take k).map VMC.name))) u0.drew) := ⟨HZ.out.drew, HX1.out.below ⟨rfl, rfl, rfl, Nat.le_refl _, fun _ _ => rfl⟩, own_belowN HO1.out (⟨rfl, rfl, rfl, Nat.le_refl _, fun _ _ => rfl⟩ : Below u0.heap.size u0 u0.drew)⟩
            refine wp_region_held (S := fun w' => (LG w w' b0 #[.string z.name, .int .i64 z.tenant, .int .i64 z.cpu, .int .i64 z.mem, .int .i64 z.zone, .int .i64 z.apart, .string z.node, .int .i64 z.epoch] 71) ∧ CX w' b s ⟨.slice an s.nodes.length kn, .slice (some ⟨g, o, none⟩) s.vms.length kv, .slice ae s.tenants.length ke⟩ ∧ w'.ownsRow w.heap.size 9 1 (.slice ao k cp) k (sR ((s.vms.take k).map VMC.name))) (by kernel_rfl) ?_
            change wpAnyH _ _ _ _ _ _ _ _ (World.drew _)
            refine wpAnyH_take (i := 0) (v := .agg #[.string z.name, .int .i64 z.tenant, .int .i64 z.cpu, .int .i64 z.mem, .int .i64 z.zone, .int .i64 z.apart, .string z.node, .int .i64 z.epoch]) rfl (by kernel_rfl) (by kernel_rfl) (by kernel_rfl) (fun _ _ _ h => h) (Or.inl ⟨by kernel_rfl, fun w9 h9 => ?_⟩) HSB.out ?_
            · obtain ⟨hlg, hcx, _⟩ := h9; have z0 := hlg.cel 0 _ rfl; have z1 := hlg.cel 1 _ rfl; have z2 := hlg.cel 2 _ rfl; have z3 := hlg.cel 3 _ rfl; have z4 := hlg.cel 4 _ rfl; have z5 := hlg.cel 5 _ rfl; have z6 := hlg.cel 6 _ rfl; have z7 := hlg.cel 7 _ rfl; have x2 := hcx.cel 2 (.slice ae s.tenants.length ke) rfl; go_simp
            refine wpAnyH_take (i := 1) (v := .pointer (some ⟨b, 0, none⟩)) rfl (by kernel_rfl) (by kernel_rfl) (by kernel_rfl) (fun _ _ _ h => h) (Or.inl ⟨by kernel_rfl, fun w9 h9 => ?_⟩) HSB.out ?_
            · go_simp
            refine wpAnyH_take (i := 2) (v := .pointer (some ⟨b, 0, none⟩)) rfl (by kernel_rfl) (by kernel_rfl) (by kernel_rfl) (fun _ _ _ h => h) (Or.inl ⟨by kernel_rfl, fun w9 h9 => ?_⟩) HSB.out ?_
            · go_simp
            refine wpAnyH_take (i := 3) (v := .pointer (some ⟨b, 2, none⟩)) rfl (by kernel_rfl) (by kernel_rfl) (by kernel_rfl) (fun _ _ _ h => h) (Or.inl ⟨by kernel_rfl, fun w9 h9 => ?_⟩) HSB.out ?_
            · go_simp
            refine wpAnyH_take (i := 4) (v := .slice ae s.tenants.length ke) rfl (by kernel_rfl) (by kernel_rfl) (by kernel_rfl) (fun _ _ _ h => h) (Or.inl ⟨by kernel_rfl, fun w9 h9 => ?_⟩) HSB.out ?_
            · obtain ⟨hlg, hcx, _⟩ := h9; have z0 := hlg.cel 0 _ rfl; have z1 := hlg.cel 1 _ rfl; have z2 := hlg.cel 2 _ rfl; have z3 := hlg.cel 3 _ rfl; have z4 := hlg.cel 4 _ rfl; have z5 := hlg.cel 5 _ rfl; have z6 := hlg.cel 6 _ rfl; have z7 := hlg.cel 7 _ rfl; have x2 := hcx.cel 2 (.slice ae s.tenants.length ke) rfl; go_simp
            refine wpAnyH_take (i := 5) (v := .int .i64 (s.tenants.length : Nat)) rfl (by kernel_rfl) (by kernel_rfl) (by kernel_rfl) (fun _ _ _ h => h) (Or.inl ⟨by kernel_rfl, fun w9 h9 => ?_⟩) HSB.out ?_
            · go_simp
            refine held_one 6 (by kernel_rfl) rfl (by kernel_rfl) fun K hK => ?_
            go_simp
            go_wp2_with (go_at_call 77; refine Calls.mono (HCL.out _) ?_; rintro e u1 ⟨rfl, hb1⟩; have HS1 : Hid ((fun w' => (LG w w' b0 #[.string z.name, .int .i64 z.tenant, .int .i64 z.cpu, .int .i64 z.mem, .int .i64 z.zone, .int .i64 z.apart, .string z.node, .int .i64 z.epoch] 71) ∧ CX w' b s ⟨.slice an s.nodes.length kn, .slice (some ⟨g, o, none⟩) s.vms.length kv, .slice ae s.tenants.length ke⟩ ∧ w'.ownsRow w.heap.size 9 1 (.slice ao k cp) k (sR ((s.vms.take k).map VMC.name))) u1) := ⟨HSB.out.1.step hb1, HSB.out.2.1.below hb1, own_belowN HSB.out.2.2 hb1⟩; clear hb1)
            refine hK _ _ HS1.out ?_
            clear hK K
            refine wpAnyH_take (i := 7) (v := .bool false) rfl (by kernel_rfl) (by kernel_rfl) (by kernel_rfl) (fun _ _ _ h => h) (Or.inl ⟨by kernel_rfl, fun w9 h9 => ?_⟩) HS1.out ?_
            · go_simp
            refine wpAnyH_take (i := 8) (v := .bool false) rfl (by kernel_rfl) (by kernel_rfl) (by kernel_rfl) (fun _ _ _ h => h) (Or.inl ⟨by kernel_rfl, fun w9 h9 => ?_⟩) HS1.out ?_
            · go_simp
            refine wpAnyH_take (i := 9) (v := .pointer (some ⟨b0, 7, none⟩)) rfl (by kernel_rfl) (by kernel_rfl) (by kernel_rfl) (fun _ _ _ h => h) (Or.inl ⟨by kernel_rfl, fun w9 h9 => ?_⟩) HS1.out ?_
            · go_simp
            refine wpAnyH_take (i := 10) (v := .int .i64 z.epoch) rfl (by kernel_rfl) (by kernel_rfl) (by kernel_rfl) (fun _ _ _ h => h) (Or.inl ⟨by kernel_rfl, fun w9 h9 => ?_⟩) HS1.out ?_
            · obtain ⟨hlg, hcx, _⟩ := h9; have z0 := hlg.cel 0 _ rfl; have z1 := hlg.cel 1 _ rfl; have z2 := hlg.cel 2 _ rfl; have z3 := hlg.cel 3 _ rfl; have z4 := hlg.cel 4 _ rfl; have z5 := hlg.cel 5 _ rfl; have z6 := hlg.cel 6 _ rfl; have z7 := hlg.cel 7 _ rfl; have x2 := hcx.cel 2 (.slice ae s.tenants.length ke) rfl; go_simp
            refine wpAnyH_take (i := 11) (v := .bool false) rfl (by kernel_rfl) (by kernel_rfl) (by kernel_rfl) (fun _ _ _ h => h) (Or.inl ⟨by kernel_rfl, fun w9 h9 => ?_⟩) HS1.out ?_
            · go_simp; all_goals omega
            refine wpAnyH_take (i := 12) (v := .bool false) rfl (by kernel_rfl) (by kernel_rfl) (by kernel_rfl) (fun _ _ _ h => h) (Or.inl ⟨by kernel_rfl, fun w9 h9 => ?_⟩) HS1.out ?_
            · go_simp
            refine wpAnyH_take (i := 13) (v := .bool false) rfl (by kernel_rfl) (by kernel_rfl) (by kernel_rfl) (fun _ _ _ h => h) (Or.inl ⟨by kernel_rfl, fun w9 h9 => ?_⟩) HS1.out ?_
            · go_simp
            refine wpAnyH_take (i := 14) (v := .pointer (some ⟨b0, 7, none⟩)) rfl (by kernel_rfl) (by kernel_rfl) (by kernel_rfl) (fun _ _ _ h => h) (Or.inl ⟨by kernel_rfl, fun w9 h9 => ?_⟩) HS1.out ?_
            · go_simp
            refine wpAnyH_take (i := 15) (v := .int .i64 z.epoch) rfl (by kernel_rfl) (by kernel_rfl) (by kernel_rfl) (fun _ _ _ h => h) (Or.inl ⟨by kernel_rfl, fun w9 h9 => ?_⟩) HS1.out ?_
            · obtain ⟨hlg, hcx, _⟩ := h9; have z0 := hlg.cel 0 _ rfl; have z1 := hlg.cel 1 _ rfl; have z2 := hlg.cel 2 _ rfl; have z3 := hlg.cel 3 _ rfl; have z4 := hlg.cel 4 _ rfl; have z5 := hlg.cel 5 _ rfl; have z6 := hlg.cel 6 _ rfl; have z7 := hlg.cel 7 _ rfl; have x2 := hcx.cel 2 (.slice ae s.tenants.length ke) rfl; go_simp
            refine wpAnyH_take (i := 16) (v := .bool false) rfl (by kernel_rfl) (by kernel_rfl) (by kernel_rfl) (fun _ _ _ h => h) (Or.inl ⟨by kernel_rfl, fun w9 h9 => ?_⟩) HS1.out ?_
            · go_simp; all_goals omega
            refine wpAnyH_take (i := 17) (v := .bool false) rfl (by kernel_rfl) (by kernel_rfl) (by kernel_rfl) (fun _ _ _ h => h) (Or.inl ⟨by kernel_rfl, fun w9 h9 => ?_⟩) HS1.out ?_
            · go_simp
            refine wpAnyH_done (by kernel_rfl) ?_ _
            go_simp
            have HZ2 : Hid (LG w u1 b0 #[.string z.name, .int .i64 z.tenant, .int .i64 z.cpu, .int .i64 z.mem, .int .i64 z.zone, .int .i64 z.apart, .string z.node, .int .i64 z.epoch] 71) := HS1.out.1
            have HO2 : Hid (u1.ownsRow w.heap.size 9 1 (.slice ao k cp) k (sR ((s.vms.take k).map VMC.name))) := HS1.out.2.2
            clear HSB HS1 HX1 HO1 HZ HCL
            have z0 := HZ2.out.cel 0 _ rfl
            have zl := HZ2.out.lt
            have HAP : Hid _ := app1S HO2.out z.name (by omega) HZ2.out.bel.size
            go_wp2_with (at_builtin; (refine wl_append_ex rfl _ _ 51 rfl _ _ rfl rfl HAP.out ?_; rintro v' u6 ⟨ho, hg9⟩; obtain ⟨a9, c9, rfl⟩ := s_slS ho; have HO6 : Hid (u6.ownsRow w.heap.size 9 1 (.slice a9 (k + 1) c9) (k + 1) (sR ((s.vms.take ((k + 1))).map VMC.name))) := (by rw [HTK.out]; exact ho); have HB6 : Hid (Below w.heap.size w u6) := (HZ2.out.bel.alloc HZ2.out.bel.size _).grown hg9 (Nat.le_trans HZ2.out.bel.size (by simp)) (own_ge HO2.out); clear ho hg9))
            exact ⟨⟨k + 1, a9, c9, hlt, rfl, by go_num, E3.out, HO6.out, HB6.out⟩, by simp [intOf]; omega⟩
          · skip
            have E3 : Hid (V = false) := HBAD.out (HEK.out.trans (by have r1 := of_decide_eq_false q1; have r2 := of_decide_eq_true q2; simp [epB]; try omega))
            clear HS HALL HEK HBAD
            have HSB : Hid ((fun w' => (LG w w' b0 #[.string z.name, .int .i64 z.tenant, .int .i64 z.cpu, .int .i64 z.mem, .int .i64 z.zone, .int .i64 z.apart, .string z.node, .int .i64 z.epoch] 71) ∧ CX w' b s ⟨.slice an s.nodes.length kn, .slice (some ⟨g, o, none⟩) s.vms.length kv, .slice ae s.tenants.length ke⟩ ∧ w'.ownsRow w.heap.size 9 1 (.slice ao k cp) k (sR ((s.vms.take k).map VMC.name))) u0.drew) := ⟨HZ.out.drew, HX1.out.below ⟨rfl, rfl, rfl, Nat.le_refl _, fun _ _ => rfl⟩, own_belowN HO1.out (⟨rfl, rfl, rfl, Nat.le_refl _, fun _ _ => rfl⟩ : Below u0.heap.size u0 u0.drew)⟩
            refine wp_region_held (S := fun w' => (LG w w' b0 #[.string z.name, .int .i64 z.tenant, .int .i64 z.cpu, .int .i64 z.mem, .int .i64 z.zone, .int .i64 z.apart, .string z.node, .int .i64 z.epoch] 71) ∧ CX w' b s ⟨.slice an s.nodes.length kn, .slice (some ⟨g, o, none⟩) s.vms.length kv, .slice ae s.tenants.length ke⟩ ∧ w'.ownsRow w.heap.size 9 1 (.slice ao k cp) k (sR ((s.vms.take k).map VMC.name))) (by kernel_rfl) ?_
            change wpAnyH _ _ _ _ _ _ _ _ (World.drew _)
            refine wpAnyH_take (i := 0) (v := .agg #[.string z.name, .int .i64 z.tenant, .int .i64 z.cpu, .int .i64 z.mem, .int .i64 z.zone, .int .i64 z.apart, .string z.node, .int .i64 z.epoch]) rfl (by kernel_rfl) (by kernel_rfl) (by kernel_rfl) (fun _ _ _ h => h) (Or.inl ⟨by kernel_rfl, fun w9 h9 => ?_⟩) HSB.out ?_
            · obtain ⟨hlg, hcx, _⟩ := h9; have z0 := hlg.cel 0 _ rfl; have z1 := hlg.cel 1 _ rfl; have z2 := hlg.cel 2 _ rfl; have z3 := hlg.cel 3 _ rfl; have z4 := hlg.cel 4 _ rfl; have z5 := hlg.cel 5 _ rfl; have z6 := hlg.cel 6 _ rfl; have z7 := hlg.cel 7 _ rfl; have x2 := hcx.cel 2 (.slice ae s.tenants.length ke) rfl; go_simp
            refine wpAnyH_take (i := 1) (v := .pointer (some ⟨b, 0, none⟩)) rfl (by kernel_rfl) (by kernel_rfl) (by kernel_rfl) (fun _ _ _ h => h) (Or.inl ⟨by kernel_rfl, fun w9 h9 => ?_⟩) HSB.out ?_
            · go_simp
            refine wpAnyH_take (i := 2) (v := .pointer (some ⟨b, 0, none⟩)) rfl (by kernel_rfl) (by kernel_rfl) (by kernel_rfl) (fun _ _ _ h => h) (Or.inl ⟨by kernel_rfl, fun w9 h9 => ?_⟩) HSB.out ?_
            · go_simp
            refine wpAnyH_take (i := 3) (v := .pointer (some ⟨b, 2, none⟩)) rfl (by kernel_rfl) (by kernel_rfl) (by kernel_rfl) (fun _ _ _ h => h) (Or.inl ⟨by kernel_rfl, fun w9 h9 => ?_⟩) HSB.out ?_
            · go_simp
            refine wpAnyH_take (i := 4) (v := .slice ae s.tenants.length ke) rfl (by kernel_rfl) (by kernel_rfl) (by kernel_rfl) (fun _ _ _ h => h) (Or.inl ⟨by kernel_rfl, fun w9 h9 => ?_⟩) HSB.out ?_
            · obtain ⟨hlg, hcx, _⟩ := h9; have z0 := hlg.cel 0 _ rfl; have z1 := hlg.cel 1 _ rfl; have z2 := hlg.cel 2 _ rfl; have z3 := hlg.cel 3 _ rfl; have z4 := hlg.cel 4 _ rfl; have z5 := hlg.cel 5 _ rfl; have z6 := hlg.cel 6 _ rfl; have z7 := hlg.cel 7 _ rfl; have x2 := hcx.cel 2 (.slice ae s.tenants.length ke) rfl; go_simp
            refine wpAnyH_take (i := 5) (v := .int .i64 (s.tenants.length : Nat)) rfl (by kernel_rfl) (by kernel_rfl) (by kernel_rfl) (fun _ _ _ h => h) (Or.inl ⟨by kernel_rfl, fun w9 h9 => ?_⟩) HSB.out ?_
            · go_simp
            refine held_one 6 (by kernel_rfl) rfl (by kernel_rfl) fun K hK => ?_
            go_simp
            go_wp2_with (go_at_call 77; refine Calls.mono (HCL.out _) ?_; rintro e u1 ⟨rfl, hb1⟩; have HS1 : Hid ((fun w' => (LG w w' b0 #[.string z.name, .int .i64 z.tenant, .int .i64 z.cpu, .int .i64 z.mem, .int .i64 z.zone, .int .i64 z.apart, .string z.node, .int .i64 z.epoch] 71) ∧ CX w' b s ⟨.slice an s.nodes.length kn, .slice (some ⟨g, o, none⟩) s.vms.length kv, .slice ae s.tenants.length ke⟩ ∧ w'.ownsRow w.heap.size 9 1 (.slice ao k cp) k (sR ((s.vms.take k).map VMC.name))) u1) := ⟨HSB.out.1.step hb1, HSB.out.2.1.below hb1, own_belowN HSB.out.2.2 hb1⟩; clear hb1)
            refine hK _ _ HS1.out ?_
            clear hK K
            refine wpAnyH_take (i := 7) (v := .bool false) rfl (by kernel_rfl) (by kernel_rfl) (by kernel_rfl) (fun _ _ _ h => h) (Or.inl ⟨by kernel_rfl, fun w9 h9 => ?_⟩) HS1.out ?_
            · go_simp
            refine wpAnyH_take (i := 8) (v := .bool false) rfl (by kernel_rfl) (by kernel_rfl) (by kernel_rfl) (fun _ _ _ h => h) (Or.inl ⟨by kernel_rfl, fun w9 h9 => ?_⟩) HS1.out ?_
            · go_simp
            refine wpAnyH_take (i := 9) (v := .pointer (some ⟨b0, 7, none⟩)) rfl (by kernel_rfl) (by kernel_rfl) (by kernel_rfl) (fun _ _ _ h => h) (Or.inl ⟨by kernel_rfl, fun w9 h9 => ?_⟩) HS1.out ?_
            · go_simp
            refine wpAnyH_take (i := 10) (v := .int .i64 z.epoch) rfl (by kernel_rfl) (by kernel_rfl) (by kernel_rfl) (fun _ _ _ h => h) (Or.inl ⟨by kernel_rfl, fun w9 h9 => ?_⟩) HS1.out ?_
            · obtain ⟨hlg, hcx, _⟩ := h9; have z0 := hlg.cel 0 _ rfl; have z1 := hlg.cel 1 _ rfl; have z2 := hlg.cel 2 _ rfl; have z3 := hlg.cel 3 _ rfl; have z4 := hlg.cel 4 _ rfl; have z5 := hlg.cel 5 _ rfl; have z6 := hlg.cel 6 _ rfl; have z7 := hlg.cel 7 _ rfl; have x2 := hcx.cel 2 (.slice ae s.tenants.length ke) rfl; go_simp
            refine wpAnyH_take (i := 11) (v := .bool false) rfl (by kernel_rfl) (by kernel_rfl) (by kernel_rfl) (fun _ _ _ h => h) (Or.inl ⟨by kernel_rfl, fun w9 h9 => ?_⟩) HS1.out ?_
            · go_simp; all_goals omega
            refine wpAnyH_take (i := 12) (v := .bool false) rfl (by kernel_rfl) (by kernel_rfl) (by kernel_rfl) (fun _ _ _ h => h) (Or.inl ⟨by kernel_rfl, fun w9 h9 => ?_⟩) HS1.out ?_
            · go_simp
            refine wpAnyH_take (i := 13) (v := .bool false) rfl (by kernel_rfl) (by kernel_rfl) (by kernel_rfl) (fun _ _ _ h => h) (Or.inl ⟨by kernel_rfl, fun w9 h9 => ?_⟩) HS1.out ?_
            · go_simp
            refine wpAnyH_take (i := 14) (v := .pointer (some ⟨b0, 7, none⟩)) rfl (by kernel_rfl) (by kernel_rfl) (by kernel_rfl) (fun _ _ _ h => h) (Or.inl ⟨by kernel_rfl, fun w9 h9 => ?_⟩) HS1.out ?_
            · go_simp
            refine wpAnyH_take (i := 15) (v := .int .i64 z.epoch) rfl (by kernel_rfl) (by kernel_rfl) (by kernel_rfl) (fun _ _ _ h => h) (Or.inl ⟨by kernel_rfl, fun w9 h9 => ?_⟩) HS1.out ?_
            · obtain ⟨hlg, hcx, _⟩ := h9; have z0 := hlg.cel 0 _ rfl; have z1 := hlg.cel 1 _ rfl; have z2 := hlg.cel 2 _ rfl; have z3 := hlg.cel 3 _ rfl; have z4 := hlg.cel 4 _ rfl; have z5 := hlg.cel 5 _ rfl; have z6 := hlg.cel 6 _ rfl; have z7 := hlg.cel 7 _ rfl; have x2 := hcx.cel 2 (.slice ae s.tenants.length ke) rfl; go_simp
            refine wpAnyH_take (i := 16) (v := .bool true) rfl (by kernel_rfl) (by kernel_rfl) (by kernel_rfl) (fun _ _ _ h => h) (Or.inl ⟨by kernel_rfl, fun w9 h9 => ?_⟩) HS1.out ?_
            · go_simp; all_goals omega
            refine wpAnyH_take (i := 17) (v := .bool true) rfl (by kernel_rfl) (by kernel_rfl) (by kernel_rfl) (fun _ _ _ h => h) (Or.inl ⟨by kernel_rfl, fun w9 h9 => ?_⟩) HS1.out ?_
            · go_simp
            refine wpAnyH_done (by kernel_rfl) ?_ _
            go_simp
            go_wp2
            go_ret
            exact ⟨ret_bool E3.out.symm, HS1.out.1.bel⟩
        · skip
          have E3 : Hid (V = false) := HBAD.out (HEK.out.trans (by have r1 := of_decide_eq_true q1; simp [epB]; try omega))
          clear HS HALL HEK HBAD
          have HSB : Hid ((fun w' => (LG w w' b0 #[.string z.name, .int .i64 z.tenant, .int .i64 z.cpu, .int .i64 z.mem, .int .i64 z.zone, .int .i64 z.apart, .string z.node, .int .i64 z.epoch] 71) ∧ CX w' b s ⟨.slice an s.nodes.length kn, .slice (some ⟨g, o, none⟩) s.vms.length kv, .slice ae s.tenants.length ke⟩ ∧ w'.ownsRow w.heap.size 9 1 (.slice ao k cp) k (sR ((s.vms.take k).map VMC.name))) u0.drew) := ⟨HZ.out.drew, HX1.out.below ⟨rfl, rfl, rfl, Nat.le_refl _, fun _ _ => rfl⟩, own_belowN HO1.out (⟨rfl, rfl, rfl, Nat.le_refl _, fun _ _ => rfl⟩ : Below u0.heap.size u0 u0.drew)⟩
          refine wp_region_held (S := fun w' => (LG w w' b0 #[.string z.name, .int .i64 z.tenant, .int .i64 z.cpu, .int .i64 z.mem, .int .i64 z.zone, .int .i64 z.apart, .string z.node, .int .i64 z.epoch] 71) ∧ CX w' b s ⟨.slice an s.nodes.length kn, .slice (some ⟨g, o, none⟩) s.vms.length kv, .slice ae s.tenants.length ke⟩ ∧ w'.ownsRow w.heap.size 9 1 (.slice ao k cp) k (sR ((s.vms.take k).map VMC.name))) (by kernel_rfl) ?_
          change wpAnyH _ _ _ _ _ _ _ _ (World.drew _)
          refine wpAnyH_take (i := 0) (v := .agg #[.string z.name, .int .i64 z.tenant, .int .i64 z.cpu, .int .i64 z.mem, .int .i64 z.zone, .int .i64 z.apart, .string z.node, .int .i64 z.epoch]) rfl (by kernel_rfl) (by kernel_rfl) (by kernel_rfl) (fun _ _ _ h => h) (Or.inl ⟨by kernel_rfl, fun w9 h9 => ?_⟩) HSB.out ?_
          · obtain ⟨hlg, hcx, _⟩ := h9; have z0 := hlg.cel 0 _ rfl; have z1 := hlg.cel 1 _ rfl; have z2 := hlg.cel 2 _ rfl; have z3 := hlg.cel 3 _ rfl; have z4 := hlg.cel 4 _ rfl; have z5 := hlg.cel 5 _ rfl; have z6 := hlg.cel 6 _ rfl; have z7 := hlg.cel 7 _ rfl; have x2 := hcx.cel 2 (.slice ae s.tenants.length ke) rfl; go_simp
          refine wpAnyH_take (i := 1) (v := .pointer (some ⟨b, 0, none⟩)) rfl (by kernel_rfl) (by kernel_rfl) (by kernel_rfl) (fun _ _ _ h => h) (Or.inl ⟨by kernel_rfl, fun w9 h9 => ?_⟩) HSB.out ?_
          · go_simp
          refine wpAnyH_take (i := 2) (v := .pointer (some ⟨b, 0, none⟩)) rfl (by kernel_rfl) (by kernel_rfl) (by kernel_rfl) (fun _ _ _ h => h) (Or.inl ⟨by kernel_rfl, fun w9 h9 => ?_⟩) HSB.out ?_
          · go_simp
          refine wpAnyH_take (i := 3) (v := .pointer (some ⟨b, 2, none⟩)) rfl (by kernel_rfl) (by kernel_rfl) (by kernel_rfl) (fun _ _ _ h => h) (Or.inl ⟨by kernel_rfl, fun w9 h9 => ?_⟩) HSB.out ?_
          · go_simp
          refine wpAnyH_take (i := 4) (v := .slice ae s.tenants.length ke) rfl (by kernel_rfl) (by kernel_rfl) (by kernel_rfl) (fun _ _ _ h => h) (Or.inl ⟨by kernel_rfl, fun w9 h9 => ?_⟩) HSB.out ?_
          · obtain ⟨hlg, hcx, _⟩ := h9; have z0 := hlg.cel 0 _ rfl; have z1 := hlg.cel 1 _ rfl; have z2 := hlg.cel 2 _ rfl; have z3 := hlg.cel 3 _ rfl; have z4 := hlg.cel 4 _ rfl; have z5 := hlg.cel 5 _ rfl; have z6 := hlg.cel 6 _ rfl; have z7 := hlg.cel 7 _ rfl; have x2 := hcx.cel 2 (.slice ae s.tenants.length ke) rfl; go_simp
          refine wpAnyH_take (i := 5) (v := .int .i64 (s.tenants.length : Nat)) rfl (by kernel_rfl) (by kernel_rfl) (by kernel_rfl) (fun _ _ _ h => h) (Or.inl ⟨by kernel_rfl, fun w9 h9 => ?_⟩) HSB.out ?_
          · go_simp
          refine held_one 6 (by kernel_rfl) rfl (by kernel_rfl) fun K hK => ?_
          go_simp
          go_wp2_with (go_at_call 77; refine Calls.mono (HCL.out _) ?_; rintro e u1 ⟨rfl, hb1⟩; have HS1 : Hid ((fun w' => (LG w w' b0 #[.string z.name, .int .i64 z.tenant, .int .i64 z.cpu, .int .i64 z.mem, .int .i64 z.zone, .int .i64 z.apart, .string z.node, .int .i64 z.epoch] 71) ∧ CX w' b s ⟨.slice an s.nodes.length kn, .slice (some ⟨g, o, none⟩) s.vms.length kv, .slice ae s.tenants.length ke⟩ ∧ w'.ownsRow w.heap.size 9 1 (.slice ao k cp) k (sR ((s.vms.take k).map VMC.name))) u1) := ⟨HSB.out.1.step hb1, HSB.out.2.1.below hb1, own_belowN HSB.out.2.2 hb1⟩; clear hb1)
          refine hK _ _ HS1.out ?_
          clear hK K
          refine wpAnyH_take (i := 7) (v := .bool false) rfl (by kernel_rfl) (by kernel_rfl) (by kernel_rfl) (fun _ _ _ h => h) (Or.inl ⟨by kernel_rfl, fun w9 h9 => ?_⟩) HS1.out ?_
          · go_simp
          refine wpAnyH_take (i := 8) (v := .bool false) rfl (by kernel_rfl) (by kernel_rfl) (by kernel_rfl) (fun _ _ _ h => h) (Or.inl ⟨by kernel_rfl, fun w9 h9 => ?_⟩) HS1.out ?_
          · go_simp
          refine wpAnyH_take (i := 9) (v := .pointer (some ⟨b0, 7, none⟩)) rfl (by kernel_rfl) (by kernel_rfl) (by kernel_rfl) (fun _ _ _ h => h) (Or.inl ⟨by kernel_rfl, fun w9 h9 => ?_⟩) HS1.out ?_
          · go_simp
          refine wpAnyH_take (i := 10) (v := .int .i64 z.epoch) rfl (by kernel_rfl) (by kernel_rfl) (by kernel_rfl) (fun _ _ _ h => h) (Or.inl ⟨by kernel_rfl, fun w9 h9 => ?_⟩) HS1.out ?_
          · obtain ⟨hlg, hcx, _⟩ := h9; have z0 := hlg.cel 0 _ rfl; have z1 := hlg.cel 1 _ rfl; have z2 := hlg.cel 2 _ rfl; have z3 := hlg.cel 3 _ rfl; have z4 := hlg.cel 4 _ rfl; have z5 := hlg.cel 5 _ rfl; have z6 := hlg.cel 6 _ rfl; have z7 := hlg.cel 7 _ rfl; have x2 := hcx.cel 2 (.slice ae s.tenants.length ke) rfl; go_simp
          refine wpAnyH_take (i := 11) (v := .bool true) rfl (by kernel_rfl) (by kernel_rfl) (by kernel_rfl) (fun _ _ _ h => h) (Or.inl ⟨by kernel_rfl, fun w9 h9 => ?_⟩) HS1.out ?_
          · go_simp; all_goals omega
          refine wpAnyH_take (i := 12) (v := .bool true) rfl (by kernel_rfl) (by kernel_rfl) (by kernel_rfl) (fun _ _ _ h => h) (Or.inl ⟨by kernel_rfl, fun w9 h9 => ?_⟩) HS1.out ?_
          · go_simp
          refine wpAnyH_take (i := 13) (v := .bool true) rfl (by kernel_rfl) (by kernel_rfl) (by kernel_rfl) (fun _ _ _ h => h) (Or.inl ⟨by kernel_rfl, fun w9 h9 => ?_⟩) HS1.out ?_
          · go_simp
          refine wpAnyH_take (i := 14) (v := undef) rfl (by kernel_rfl) (by kernel_rfl) (by kernel_rfl) (fun _ _ _ h => h) (Or.inr ⟨by kernel_rfl, rfl⟩) HS1.out ?_
          refine wpAnyH_take (i := 15) (v := undef) rfl (by kernel_rfl) (by kernel_rfl) (by kernel_rfl) (fun _ _ _ h => h) (Or.inr ⟨by kernel_rfl, rfl⟩) HS1.out ?_
          refine wpAnyH_take (i := 16) (v := undef) rfl (by kernel_rfl) (by kernel_rfl) (by kernel_rfl) (fun _ _ _ h => h) (Or.inr ⟨by kernel_rfl, rfl⟩) HS1.out ?_
          refine wpAnyH_take (i := 17) (v := .bool true) rfl (by kernel_rfl) (by kernel_rfl) (by kernel_rfl) (fun _ _ _ h => h) (Or.inl ⟨by kernel_rfl, fun w9 h9 => ?_⟩) HS1.out ?_
          · go_simp
          refine wpAnyH_done (by kernel_rfl) ?_ _
          go_simp
          go_wp2
          go_ret
          exact ⟨ret_bool E3.out.symm, HS1.out.1.bel⟩
    · obtain rfl : k = s.vms.length := by omega
      have E2 : Hid (V = RS) := (show V = RS by rw [E.out, HALL.out, Bool.true_and])
      have HSR : Hid (Srow wr (.slice ao s.vms.length cp) (s.vms.map VMC.name)) := by
        have h9 := HO.out
        rw [List.take_length] at h9
        have h8 : (s.vms.map VMC.name).length = s.vms.length := by simp
        have h7 := Srow.of (zs := s.vms.map VMC.name) (v := .slice ao s.vms.length cp) (B := w.heap.size) (w := wr) (by rw [h8]; exact h9)
        exact h7
      clear E HALL HO HXR
      go_wp2_with (go_at_call 76; refine Calls.mono (HAR.out _ _ HSR.out) ?_; rintro e u1 ⟨rfl, hu⟩; have HB1 : Hid (Below w.heap.size w u1) := HB.out.trans (hu.mono HB.out.size); clear hu)
      go_ret
      exact ⟨ret_bool E2.out.symm, HB1.out⟩

def tbB (s : CL) (q : Nat) : Bool := decide (usC s q ≤ (teA s q).cpu) && decide (usM s q ≤ (teA s q).mem)
theorem CX.dr {w : World} {b : Nat} {s : CL} {a : CA} (h : CX w b s a) : CX w.drew b s a := h.below ⟨rfl, rfl, rfl, Nat.le_refl _, fun _ _ => rfl⟩
set_option maxRecDepth 100000 in
set_option maxHeartbeats 4000000 in
theorem tenantBears_any {w : World} {b : Nat} {s : CL} {a : CA} (h : CX w b s a) (hl : s.vms.length ≤ 1048576) (q : Nat) (hq : q < s.tenants.length) : Calls Tryz.prog 79 #[.pointer (some ⟨b, 0, none⟩), .agg #[.string ⟨#[]⟩, .int .i64 q, .int .i64 0, .int .i64 0, .int .i64 0, .int .i64 0, .string ⟨#[]⟩, .int .i64 0]] w fun e w' => e = .returned (.bool (tbB s q)) ∧ Below w.heap.size w w' := by
  have HV0 : Hid (LG w (w.alloc (.cells #[.string ⟨#[]⟩, .int .i64 q, .int .i64 0, .int .i64 0, .int .i64 0, .int .i64 0, .string ⟨#[]⟩, .int .i64 0] 71)) w.heap.size #[.string ⟨#[]⟩, .int .i64 q, .int .i64 0, .int .i64 0, .int .i64 0, .int .i64 0, .string ⟨#[]⟩, .int .i64 0] 71) := LG.new w _ _
  have HX0 : Hid (CX (w.alloc (.cells #[.string ⟨#[]⟩, .int .i64 q, .int .i64 0, .int .i64 0, .int .i64 0, .int .i64 0, .string ⟨#[]⟩, .int .i64 0] 71)) b s a) := h.below HV0.out.bel
  obtain ⟨an, kn, av, kv, ae, ke, e⟩ := h.rows.sl
  subst e
  have HR : Hid (VMCrow w (.slice av s.vms.length kv) s.vms) := h.rows.rvms
  have HT : Hid (TNTrow w (.slice ae s.tenants.length ke) s.tenants) := h.rows.rtenants
  clear h
  have HFC : Hid (usC s q = smW VMC.cpu (fun x => decide (x.tenant = (q : Int))) 0 (s.vms.take s.vms.length)) := (show _ = _ by rw [List.take_length]; rfl)
  have HFM : Hid (usM s q = smW VMC.mem (fun x => decide (x.tenant = (q : Int))) 0 (s.vms.take s.vms.length)) := (show _ = _ by rw [List.take_length]; rfl)
  have HE : Hid (tbB s q = (decide (usC s q ≤ s.tenants[q].cpu) && decide (usM s q ≤ s.tenants[q].mem))) := (show _ = _ by unfold tbB; rw [teA_at hq])
  generalize tbB s q = V at *
  go_enter Tryz.func79, Tryz.ntmps79
  go_upto_region 1 with fail
  generalize (w.alloc (.cells #[.string ⟨#[]⟩, .int .i64 q, .int .i64 0, .int .i64 0, .int .i64 0, .int .i64 0, .string ⟨#[]⟩, .int .i64 0] 71)) = u0 at *
  generalize hbv : w.heap.size = bv at HV0 ⊢
  have v1 := HV0.out.cel 1 _ rfl
  have v2 := HV0.out.cel 2 _ rfl
  have v3 := HV0.out.cel 3 _ rfl
  have vl := HV0.out.lt
  go_quiet (fail)
  have HV1 : Hid (∀ n, LG w (u0.drewN n) bv #[.string ⟨#[]⟩, .int .i64 q, .int .i64 0, .int .i64 0, .int .i64 0, .int .i64 0, .string ⟨#[]⟩, .int .i64 0] 71) := fun n => HV0.out.drewN n
  have HX1 : Hid (∀ n, CX (u0.drewN n) b s ⟨.slice an s.nodes.length kn, .slice av s.vms.length kv, .slice ae s.tenants.length ke⟩) := fun n => HX0.out.below (Below.drewN _ n)
  have c1 := HX0.out.cel 1 (.slice av s.vms.length kv) rfl
  have cl := HX0.out.lt
  clear v1 v2 v3 vl HV0
  go_wp2
  clear c1 cl HX0
  go_loopw [5, 6, 19] (fun c m i wr => ∃ k : Nat, k ≤ s.vms.length ∧ c = .int .i64 (smW VMC.cpu (fun x => decide (x.tenant = (q : Int))) 0 (s.vms.take k)) ∧ m = .int .i64 (smW VMC.mem (fun x => decide (x.tenant = (q : Int))) 0 (s.vms.take k)) ∧ i = .int .i64 k ∧ LG w wr bv #[.string ⟨#[]⟩, .int .i64 q, .int .i64 0, .int .i64 0, .int .i64 0, .int .i64 0, .string ⟨#[]⟩, .int .i64 0] 71 ∧ CX wr b s ⟨.slice an s.nodes.length kn, .slice av s.vms.length kv, .slice ae s.tenants.length ke⟩) (fun _ _ i _ => s.vms.length - (intOf i).toNat)
  case atStart => exact ⟨0, Nat.zero_le _, rfl, rfl, rfl, HV1.out _, HX1.out _⟩
  case round =>
    obtain ⟨k, hk, rfl, rfl, rfl, hv, hx⟩ := hrel
    have HV : Hid (LG w wr bv #[.string ⟨#[]⟩, .int .i64 q, .int .i64 0, .int .i64 0, .int .i64 0, .int .i64 0, .string ⟨#[]⟩, .int .i64 0] 71) := hv
    have HX : Hid (CX wr b s ⟨.slice an s.nodes.length kn, .slice av s.vms.length kv, .slice ae s.tenants.length ke⟩) := hx
    have HB : Hid (Below w.heap.size w wr) := hv.bel
    clear hv hx HV1 HX1
    by_cases hlt : k < s.vms.length
    · skip
      obtain ⟨g, o, cap2, hv, _, hg, hc⟩ := HR.out.resolve_left (fun h => by rw [h.1] at hlt; simp at hlt)
      injection hv with hv1 hv2 hv3
      subst hv1 hv3
      have hgw : g < wr.heap.size := Nat.lt_of_lt_of_le hg HB.out.size
      have hk0 : (0 : Int) ≤ (k : Int) := by omega
      have hk1 : (k : Int) < (s.vms.length : Int) := by omega
      obtain ⟨d0, d1, d2, d3, d4, d5, d6, d7⟩ := hc.below HB.out hg k hlt
      have HSC : Hid (smW VMC.cpu (fun x => decide (x.tenant = (q : Int))) 0 (s.vms.take (k + 1)) = _) := smW_succ hlt
      have HSM : Hid (smW VMC.mem (fun x => decide (x.tenant = (q : Int))) 0 (s.vms.take (k + 1)) = _) := smW_succ hlt
      generalize smW VMC.cpu (fun x => decide (x.tenant = (q : Int))) 0 (s.vms.take k) = SC at *
      generalize smW VMC.mem (fun x => decide (x.tenant = (q : Int))) 0 (s.vms.take k) = SM at *
      clear HFC HFM HE HT
      generalize s.vms[k] = z at *
      go_upto_region 5 with fail
      have HV2 : Hid (LG w (wr.alloc (.cells #[.string z.name, .int .i64 z.tenant, .int .i64 z.cpu, .int .i64 z.mem, .int .i64 z.zone, .int .i64 z.apart, .string z.node, .int .i64 z.epoch] 71)) bv #[.string ⟨#[]⟩, .int .i64 q, .int .i64 0, .int .i64 0, .int .i64 0, .int .i64 0, .string ⟨#[]⟩, .int .i64 0] 71) := HV.out.next
      have HX2 : Hid (CX (wr.alloc (.cells #[.string z.name, .int .i64 z.tenant, .int .i64 z.cpu, .int .i64 z.mem, .int .i64 z.zone, .int .i64 z.apart, .string z.node, .int .i64 z.epoch] 71)) b s ⟨.slice an s.nodes.length kn, .slice (some ⟨g, o, none⟩) s.vms.length kv, .slice ae s.tenants.length ke⟩) := HX.out.below (bx1 _ _)
      have HZ2 : Hid (LG w (wr.alloc (.cells #[.string z.name, .int .i64 z.tenant, .int .i64 z.cpu, .int .i64 z.mem, .int .i64 z.zone, .int .i64 z.apart, .string z.node, .int .i64 z.epoch] 71)) wr.heap.size #[.string z.name, .int .i64 z.tenant, .int .i64 z.cpu, .int .i64 z.mem, .int .i64 z.zone, .int .i64 z.apart, .string z.node, .int .i64 z.epoch] 71) := LG.mk2 HB.out
      clear hc d0 d1 d2 d3 d4 d5 d6 d7 HV HX HB hgw hk0 hk1 HR
      generalize (wr.alloc (.cells #[.string z.name, .int .i64 z.tenant, .int .i64 z.cpu, .int .i64 z.mem, .int .i64 z.zone, .int .i64 z.apart, .string z.node, .int .i64 z.epoch] 71)) = u1 at *
      generalize wr.heap.size = bz at *
      have v1 := HV2.out.cel 1 _ rfl
      have vl := HV2.out.lt
      have z1 := HZ2.out.cel 1 _ rfl
      have z2 := HZ2.out.cel 2 _ rfl
      have z3 := HZ2.out.cel 3 _ rfl
      have zl := HZ2.out.lt
      cases hq2 : (z.tenant == (q : Int))
      · have E2 : Hid (smW VMC.cpu (fun x => decide (x.tenant = (q : Int))) 0 (s.vms.take (k + 1)) = SC) := HSC.out.trans (if_neg (by simpa using hq2))
        have E3 : Hid (smW VMC.mem (fun x => decide (x.tenant = (q : Int))) 0 (s.vms.take (k + 1)) = SM) := HSM.out.trans (if_neg (by simpa using hq2))
        clear HSC HSM
        go_wp2
        exact ⟨⟨k + 1, hlt, by rw [E2.out], by rw [E3.out], by go_num, HV2.out, HX2.out⟩, by simp [intOf]; omega⟩
      · have E2 : Hid (smW VMC.cpu (fun x => decide (x.tenant = (q : Int))) 0 (s.vms.take (k + 1)) = wrap64 (SC + z.cpu)) := HSC.out.trans (if_pos (by simpa using hq2))
        have E3 : Hid (smW VMC.mem (fun x => decide (x.tenant = (q : Int))) 0 (s.vms.take (k + 1)) = wrap64 (SM + z.mem)) := HSM.out.trans (if_pos (by simpa using hq2))
        clear HSC HSM
        go_upto_region 6 with fail
        go_quiet (fail)
        go_wp2
        exact ⟨⟨k + 1, hlt, by rw [E2.out], by rw [E3.out], by go_num, HV2.out.drewN _, HX2.out.below (Below.drewN _ _)⟩, by simp [intOf]; omega⟩
    · obtain rfl : k = s.vms.length := by omega
      rw [← HFC.out, ← HFM.out]
      clear HFC HFM HR hk
      generalize usC s q = UC at *
      generalize usM s q = UM at *
      obtain ⟨g, o, cap2, hv, _, hg, hc⟩ := HT.out.resolve_left (fun h => by rw [h.1] at hq; simp at hq)
      injection hv with hv1 hv2 hv3
      subst hv1 hv3
      obtain ⟨d0, d1, d2⟩ := hc.below HB.out hg q hq
      have hgw : g < wr.heap.size := Nat.lt_of_lt_of_le hg HB.out.size
      have hk0 : (0 : Int) ≤ (q : Int) := by omega
      have hk1 : (q : Int) < (s.tenants.length : Int) := by omega
      have c2 := HX.out.cel 2 (.slice (some ⟨g, o, none⟩) s.tenants.length ke) rfl
      have cl := HX.out.lt
      have v1 := HV.out.cel 1 _ rfl
      have vl := HV.out.lt
      clear hc HT
      generalize s.tenants[q] = t at *
      go_upto_region 8 with fail
      go_region
      have HT2 : Hid (LG w (wr.alloc (.cells #[.int .i64 t.cpu, .int .i64 t.mem, .int .i64 t.bill] 76)).drew wr.heap.size #[.int .i64 t.cpu, .int .i64 t.mem, .int .i64 t.bill] 76) := (LG.mk2 HB.out).drew
      clear d0 d1 d2 c2 cl v1 vl hk0 hk1 hgw HV HX
      generalize (wr.alloc (.cells #[.int .i64 t.cpu, .int .i64 t.mem, .int .i64 t.bill] 76)).drew = u1 at *
      generalize wr.heap.size = bt at *
      have t0 := HT2.out.cel 0 _ rfl
      have t1 := HT2.out.cel 1 _ rfl
      have tl := HT2.out.lt
      cases q1 : decide (UC ≤ t.cpu)
      · have E2 : Hid (V = false) := (show V = false by rw [HE.out, q1]; rfl)
        clear HE
        go_wp2
        go_ret
        exact ⟨ret_bool E2.out.symm, hbv ▸ HT2.out.bel⟩
      · cases q2 : decide (UM ≤ t.mem)
        · have E2 : Hid (V = false) := (show V = false by rw [HE.out, q1, q2]; rfl)
          clear HE
          go_wp2
          go_ret
          exact ⟨ret_bool E2.out.symm, hbv ▸ HT2.out.bel⟩
        · have E2 : Hid (V = true) := (show V = true by rw [HE.out, q1, q2]; rfl)
          clear HE
          go_wp2
          go_ret
          exact ⟨ret_bool E2.out.symm, hbv ▸ HT2.out.bel⟩
set_option maxRecDepth 100000 in
set_option maxHeartbeats 4000000 in
theorem tenantsR_any {w : World} {b : Nat} {s : CL} {a : CA} (h : CX w b s a) (hl : s.vms.length ≤ 1048576) (ht : s.tenants.length ≤ 1048576) : Calls Tryz.prog 61 #[.pointer (some ⟨b, 0, none⟩)] w fun e w' => e = .returned (.bool (allD (tkB s) s.tenants.length)) ∧ Below w.heap.size w w' := by
  have HX : Hid (CX w b s a) := h
  obtain ⟨an, kn, av, kv, ae, ke, e⟩ := h.rows.sl
  subst e
  have HT : Hid (TNTrow w (.slice ae s.tenants.length ke) s.tenants) := h.rows.rtenants
  have c2 := h.cel 2 (.slice ae s.tenants.length ke) rfl
  have cl := h.lt
  clear h
  obtain ⟨V, hV⟩ : ∃ V, allD (tkB s) s.tenants.length = V := ⟨_, rfl⟩
  rw [hV]
  have E : Hid (V = allD (tkB s) s.tenants.length) := hV.symm
  clear hV
  go_enter Tryz.func61, Tryz.ntmps61
  go_wp2
  clear c2 cl
  go_loopw [10] (fun i wr => ∃ k : Nat, k ≤ s.tenants.length ∧ i = .int .i64 k ∧ allD (tkB s) k = true ∧ Below w.heap.size w wr) (fun i _ => s.tenants.length - (intOf i).toNat)
  case atStart => exact ⟨0, Nat.zero_le _, rfl, rfl, Below.refl _ _⟩
  case round =>
    obtain ⟨k, hk, rfl, hok, hb⟩ := hrel
    have HALL : Hid (allD (tkB s) k = true) := hok
    have HB : Hid (Below w.heap.size w wr) := hb
    clear hok hb
    by_cases hlt : k < s.tenants.length
    · have HXW : Hid (CX wr b s ⟨.slice an s.nodes.length kn, .slice av s.vms.length kv, .slice ae s.tenants.length ke⟩) := HX.out.below HB.out
      obtain ⟨g, o, cap2, hv, _, hg, hc⟩ := HT.out.resolve_left (fun h => by rw [h.1] at hlt; simp at hlt)
      injection hv with hv1 hv2 hv3
      subst hv1 hv3
      have hgw : g < wr.heap.size := Nat.lt_of_lt_of_le hg HB.out.size
      have hk0 : (0 : Int) ≤ (k : Int) := by omega
      have hk1 : (k : Int) < (s.tenants.length : Int) := by omega
      obtain ⟨d0, d1, d2⟩ := hc.below HB.out hg k hlt
      have HS : Hid (allD (tkB s) (k + 1) = (allD (tkB s) k && tkB s k)) := allD_succ _ _
      have HBAD : Hid (tkB s k = false → V = false) := fun hh => by rw [E.out, allD_bad hlt hh]
      have HEK : Hid (tkB s k = (tntB s.tenants[k] && tbB s k)) := (show _ = _ by rw [tkB_at hlt]; unfold tbB; rw [teA_at hlt, Bool.and_assoc])
      have HTR : Hid (∀ u, Calls Tryz.prog 78 #[.agg #[.int .i64 s.tenants[k].cpu, .int .i64 s.tenants[k].mem, .int .i64 s.tenants[k].bill]] u fun e w' => e = .returned (.bool (tntB s.tenants[k])) ∧ Below u.heap.size u w') := fun u => teRight_any _ u
      have HTB : Hid (∀ u, CX u b s ⟨.slice an s.nodes.length kn, .slice av s.vms.length kv, .slice (some ⟨g, o, none⟩) s.tenants.length ke⟩ → Calls Tryz.prog 79 #[.pointer (some ⟨b, 0, none⟩), .agg #[.string ⟨#[]⟩, .int .i64 k, .int .i64 0, .int .i64 0, .int .i64 0, .int .i64 0, .string ⟨#[]⟩, .int .i64 0]] u fun e w' => e = .returned (.bool (tbB s k)) ∧ Below u.heap.size u w') := fun u hu => tenantBears_any hu hl k hlt
      generalize s.tenants[k] = z at *
      generalize tntB z = TB1 at *
      generalize tbB s k = TB2 at *
      go_upto_region 4 with fail
      have HX2 : Hid (CX (wr.alloc (.cells #[.int .i64 z.cpu, .int .i64 z.mem, .int .i64 z.bill] 76)) b s ⟨.slice an s.nodes.length kn, .slice av s.vms.length kv, .slice (some ⟨g, o, none⟩) s.tenants.length ke⟩) := HXW.out.below (bx1 _ _)
      have HZ2 : Hid (LG w (wr.alloc (.cells #[.int .i64 z.cpu, .int .i64 z.mem, .int .i64 z.bill] 76)) wr.heap.size #[.int .i64 z.cpu, .int .i64 z.mem, .int .i64 z.bill] 76) := LG.mk2 HB.out
      clear hc d0 d1 d2 HXW HB hgw hk0 hk1 HT HX E
      generalize (wr.alloc (.cells #[.int .i64 z.cpu, .int .i64 z.mem, .int .i64 z.bill] 76)) = u1 at *
      generalize wr.heap.size = bz at *
      have z0 := HZ2.out.cel 0 _ rfl
      have z1 := HZ2.out.cel 1 _ rfl
      have z2 := HZ2.out.cel 2 _ rfl
      have zl := HZ2.out.lt
      cases TB1
      · have E2 : Hid (V = false) := HBAD.out (HEK.out.trans (by simp))
        clear HS HBAD HEK HALL HTB
        go_wp2_with (go_at_call 78; refine Calls.mono (HTR.out _) ?_; rintro e u2 ⟨rfl, hb⟩; have HZ3 : Hid (LG w u2 bz #[.int .i64 z.cpu, .int .i64 z.mem, .int .i64 z.bill] 76) := HZ2.out.step hb; clear hb)
        go_ret
        exact ⟨ret_bool E2.out.symm, HZ3.out.bel⟩
      · cases TB2
        · have E2 : Hid (V = false) := HBAD.out (HEK.out.trans (by simp))
          clear HS HBAD HEK HALL
          go_wp2_with (first | (go_at_call 78; refine Calls.mono (HTR.out _) ?_; rintro e u2 ⟨rfl, hb⟩; have HZ3 : Hid (LG w u2 bz #[.int .i64 z.cpu, .int .i64 z.mem, .int .i64 z.bill] 76) := HZ2.out.step hb; have HX3 : Hid (CX u2 b s ⟨.slice an s.nodes.length kn, .slice av s.vms.length kv, .slice (some ⟨g, o, none⟩) s.tenants.length ke⟩) := HX2.out.below hb; clear hb) | (go_at_call 79; refine Calls.mono (HTB.out _ HX3.out) ?_; rintro e u3 ⟨rfl, hb⟩; have HZ4 : Hid (LG w u3 bz #[.int .i64 z.cpu, .int .i64 z.mem, .int .i64 z.bill] 76) := HZ3.out.step hb; clear hb))
          go_ret
          exact ⟨ret_bool E2.out.symm, HZ4.out.bel⟩
        · have E2 : Hid (allD (tkB s) (k + 1) = true) := (show allD (tkB s) (k + 1) = true by rw [HS.out, HALL.out, HEK.out]; rfl)
          clear HS HBAD HEK HALL
          go_wp2_with (first | (go_at_call 78; refine Calls.mono (HTR.out _) ?_; rintro e u2 ⟨rfl, hb⟩; have HZ3 : Hid (LG w u2 bz #[.int .i64 z.cpu, .int .i64 z.mem, .int .i64 z.bill] 76) := HZ2.out.step hb; have HX3 : Hid (CX u2 b s ⟨.slice an s.nodes.length kn, .slice av s.vms.length kv, .slice (some ⟨g, o, none⟩) s.tenants.length ke⟩) := HX2.out.below hb; clear hb) | (go_at_call 79; refine Calls.mono (HTB.out _ HX3.out) ?_; rintro e u3 ⟨rfl, hb⟩; have HZ4 : Hid (LG w u3 bz #[.int .i64 z.cpu, .int .i64 z.mem, .int .i64 z.bill] 76) := HZ3.out.step hb; clear hb))
          exact ⟨⟨k + 1, hlt, by go_num, E2.out, HZ4.out.bel⟩, by simp [intOf]; omega⟩
    · obtain rfl : k = s.tenants.length := by omega
      have hnl : ¬ ((s.tenants.length : Nat) : Int) < (s.tenants.length : Int) := by omega
      have E2 : Hid (V = true) := (show V = true by rw [E.out, HALL.out])
      clear E HALL
      go_wp2
      go_ret
      exact ⟨ret_bool E2.out.symm, HB.out⟩
end Go.Proofs.YtalpcjclahkgnaaGreat
