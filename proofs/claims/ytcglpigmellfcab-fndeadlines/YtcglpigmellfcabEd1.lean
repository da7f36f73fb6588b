import Derived.Test.YtcglpigmellfcabIdxRK
import Derived.Test.YtcglpigmellfcabLG
import Derived.Test.YtcglpigmellfcabMFa
import Derived.Deep.DeepCutAuto
namespace Go.Proofs.Ytcglpigmellfcab
open Go.ChangeShapes Go.WideShapes Go.ChangeAt Go.RowKit

def rkB (z : RK) : Bool := decide (0 ≤ z.start) && decide (z.start ≤ 100) && decide (1 ≤ z.period) && decide (z.period ≤ 40) && decide (1 ≤ z.budget) && decide (z.budget ≤ z.period)
def tasksB (zs : List RK) : Bool := decide ((zs.length : Int) ≤ 8) && zs.all rkB
theorem rkB_yes {z : RK} (h : rkB z = true) : 0 ≤ z.start ∧ z.start ≤ 100 ∧ 1 ≤ z.period ∧ z.period ≤ 40 ∧ 1 ≤ z.budget ∧ z.budget ≤ z.period := by
  simp only [rkB, Bool.and_eq_true, decide_eq_true_eq] at h
  omega
set_option maxRecDepth 100000 in
set_option maxHeartbeats 4000000 in
theorem rkRight_any (z : RK) (w : World) : Calls Try.prog 95 #[.agg #[.int .i64 z.start, .int .i64 z.period, .int .i64 z.budget]] w fun e w' => e = .returned (.bool (rkB z)) ∧ Below w.heap.size w w' := by
  have HL0 : Hid (LG w (w.alloc (.cells #[.int .i64 z.start, .int .i64 z.period, .int .i64 z.budget] 49)) w.heap.size #[.int .i64 z.start, .int .i64 z.period, .int .i64 z.budget] 49) := LG.new w _ _
  have E : Hid (rkB z = (decide (0 ≤ z.start) && decide (z.start ≤ 100) && decide (1 ≤ z.period) && decide (z.period ≤ 40) && decide (1 ≤ z.budget) && decide (z.budget ≤ z.period))) := rfl
  generalize rkB z = V at *
  cases q0 : decide (z.start < 0)
  rotate_left
  · have E2 : Hid (V = false) := (show V = false by rw [E.out]; (try simp only [decide_eq_true_eq] at *); (try simp only [decide_eq_false_iff_not] at *); simp; try omega)
    clear E
    go_enter Try.func95, Try.ntmps95
    go_upto_region 1 with fail
    generalize (w.alloc (.cells #[.int .i64 z.start, .int .i64 z.period, .int .i64 z.budget] 49)) = u0 at *
    generalize w.heap.size = b0 at *
    have k0 := HL0.out.cel 0 _ rfl
    have k1 := HL0.out.cel 1 _ rfl
    have k2 := HL0.out.cel 2 _ rfl
    have kl := HL0.out.lt
    go_wp2
    go_ret
    exact ⟨ret_bool E2.out.symm, HL0.out.bel⟩
  cases q1 : decide (100 < z.start)
  rotate_left
  · have E2 : Hid (V = false) := (show V = false by rw [E.out]; (try simp only [decide_eq_true_eq] at *); (try simp only [decide_eq_false_iff_not] at *); simp; try omega)
    clear E
    go_enter Try.func95, Try.ntmps95
    go_upto_region 1 with fail
    generalize (w.alloc (.cells #[.int .i64 z.start, .int .i64 z.period, .int .i64 z.budget] 49)) = u0 at *
    generalize w.heap.size = b0 at *
    have k0 := HL0.out.cel 0 _ rfl
    have k1 := HL0.out.cel 1 _ rfl
    have k2 := HL0.out.cel 2 _ rfl
    have kl := HL0.out.lt
    go_wp2
    go_ret
    exact ⟨ret_bool E2.out.symm, HL0.out.bel⟩
  cases q2 : decide (z.period < 1)
  rotate_left
  · have E2 : Hid (V = false) := (show V = false by rw [E.out]; (try simp only [decide_eq_true_eq] at *); (try simp only [decide_eq_false_iff_not] at *); simp; try omega)
    clear E
    go_enter Try.func95, Try.ntmps95
    go_upto_region 1 with fail
    generalize (w.alloc (.cells #[.int .i64 z.start, .int .i64 z.period, .int .i64 z.budget] 49)) = u0 at *
    generalize w.heap.size = b0 at *
    have k0 := HL0.out.cel 0 _ rfl
    have k1 := HL0.out.cel 1 _ rfl
    have k2 := HL0.out.cel 2 _ rfl
    have kl := HL0.out.lt
    go_wp2
    go_ret
    exact ⟨ret_bool E2.out.symm, HL0.out.bel⟩
  cases q3 : decide (40 < z.period)
  rotate_left
  · have E2 : Hid (V = false) := (show V = false by rw [E.out]; (try simp only [decide_eq_true_eq] at *); (try simp only [decide_eq_false_iff_not] at *); simp; try omega)
    clear E
    go_enter Try.func95, Try.ntmps95
    go_upto_region 1 with fail
    generalize (w.alloc (.cells #[.int .i64 z.start, .int .i64 z.period, .int .i64 z.budget] 49)) = u0 at *
    generalize w.heap.size = b0 at *
    have k0 := HL0.out.cel 0 _ rfl
    have k1 := HL0.out.cel 1 _ rfl
    have k2 := HL0.out.cel 2 _ rfl
    have kl := HL0.out.lt
    go_wp2
    go_ret
    exact ⟨ret_bool E2.out.symm, HL0.out.bel⟩
  cases q4 : decide (1 ≤ z.budget)
  · have E2 : Hid (V = false) := (show V = false by rw [E.out]; (try simp only [decide_eq_true_eq] at *); (try simp only [decide_eq_false_iff_not] at *); simp; try omega)
    clear E
    go_enter Try.func95, Try.ntmps95
    go_upto_region 1 with fail
    generalize (w.alloc (.cells #[.int .i64 z.start, .int .i64 z.period, .int .i64 z.budget] 49)) = u0 at *
    generalize w.heap.size = b0 at *
    have k0 := HL0.out.cel 0 _ rfl
    have k1 := HL0.out.cel 1 _ rfl
    have k2 := HL0.out.cel 2 _ rfl
    have kl := HL0.out.lt
    go_wp2
    go_ret
    exact ⟨ret_bool E2.out.symm, HL0.out.bel⟩
  cases q5 : decide (z.budget ≤ z.period)
  · have E2 : Hid (V = false) := (show V = false by rw [E.out]; (try simp only [decide_eq_true_eq] at *); (try simp only [decide_eq_false_iff_not] at *); simp; try omega)
    clear E
    go_enter Try.func95, Try.ntmps95
    go_upto_region 1 with fail
    generalize (w.alloc (.cells #[.int .i64 z.start, .int .i64 z.period, .int .i64 z.budget] 49)) = u0 at *
    generalize w.heap.size = b0 at *
    have k0 := HL0.out.cel 0 _ rfl
    have k1 := HL0.out.cel 1 _ rfl
    have k2 := HL0.out.cel 2 _ rfl
    have kl := HL0.out.lt
    go_wp2
    go_ret
    exact ⟨ret_bool E2.out.symm, HL0.out.bel⟩
  have E2 : Hid (V = true) := (show V = true by rw [E.out]; (try simp only [decide_eq_true_eq] at *); (try simp only [decide_eq_false_iff_not] at *); simp; try omega)
  clear E
  go_enter Try.func95, Try.ntmps95
  go_upto_region 1 with fail
  generalize (w.alloc (.cells #[.int .i64 z.start, .int .i64 z.period, .int .i64 z.budget] 49)) = u0 at *
  generalize w.heap.size = b0 at *
  have k0 := HL0.out.cel 0 _ rfl
  have k1 := HL0.out.cel 1 _ rfl
  have k2 := HL0.out.cel 2 _ rfl
  have kl := HL0.out.lt
  go_wp2
  go_ret
  exact ⟨ret_bool E2.out.symm, HL0.out.bel⟩
set_option maxRecDepth 100000 in
set_option maxHeartbeats 4000000 in
theorem rkFn_any (z : RK) (w : World) : Calls Try.prog 94 #[.agg #[.int .i64 z.start, .int .i64 z.period, .int .i64 z.budget]] w fun e w' => e = .returned (.bool (!rkB z)) ∧ Below w.heap.size w w' := by
  have HL0 : Hid (LG w (w.alloc (.cells #[.int .i64 z.start, .int .i64 z.period, .int .i64 z.budget] 49)) w.heap.size #[.int .i64 z.start, .int .i64 z.period, .int .i64 z.budget] 49) := LG.new w _ _
  have HV : Hid (∀ u, Calls Try.prog 95 #[.agg #[.int .i64 z.start, .int .i64 z.period, .int .i64 z.budget]] u fun e w' => e = .returned (.bool (rkB z)) ∧ Below u.heap.size u w') := fun u => rkRight_any z u
  generalize rkB z = V at *
  go_enter Try.func94, Try.ntmps94
  go_upto_region 1 with fail
  generalize (w.alloc (.cells #[.int .i64 z.start, .int .i64 z.period, .int .i64 z.budget] 49)) = u0 at *
  generalize w.heap.size = b0 at *
  have k0 := HL0.out.cel 0 _ rfl
  have k1 := HL0.out.cel 1 _ rfl
  have k2 := HL0.out.cel 2 _ rfl
  have kl := HL0.out.lt
  go_wp2_with (go_at_call 95; refine Calls.mono (HV.out _) ?_; rintro e u1 ⟨rfl, hb1⟩; have HL1 : Hid (LG w u1 b0 _ _) := HL0.out.step hb1; clear hb1)
  go_ret
  exact ⟨rfl, HL1.out.bel⟩
theorem cfTK : ∀ (xs : Array Value) (w' : World), (callFunc 94 xs).run Try.prog w' = .ok (.enter 94 xs) w' := by
  intro xs w'
  kernel_rfl
set_option maxRecDepth 100000 in
set_option maxHeartbeats 4000000 in
theorem areTasks_any {w : World} {v : Value} {zs : List RK} (h : RKrow w v zs) (hl : zs.length ≤ 1048576) : Calls Try.prog 51 #[v] w fun e w' => e = .returned (.bool (tasksB zs)) ∧ Below w.heap.size w w' := by
  have HR : Hid (RKrow w v zs) := h
  obtain ⟨ao, cap, rfl⟩ := h.sl
  clear h
  have HC : Hid (Calls Try.prog 93 #[.slice ao zs.length cap, .func (.func 94) #[] #[]] w fun r w' => r = .returned (.bool (zs.any fun x => !rkB x)) ∧ Below w.heap.size w w') := containsRK_any HR.out hl _ #[] (fun x => !rkB x) cfTK (fun x w' _ => rkFn_any x w')
  cases q0 : decide ((zs.length : Int) ≤ 8)
  · have E : Hid (tasksB zs = false) := (show tasksB zs = false by unfold tasksB; rw [q0]; rfl)
    go_enter Try.func51, Try.ntmps51
    go_wp2
    go_ret
    exact ⟨ret_bool E.out.symm, Below.refl _ _⟩
  · have E : Hid (tasksB zs = !(zs.any fun x => !rkB x)) := (show tasksB zs = _ by unfold tasksB; rw [q0, any_not]; rfl)
    generalize (zs.any fun x => !rkB x) = a at *
    go_enter Try.func51, Try.ntmps51
    go_wp2_with (go_at_call 93; refine Calls.mono HC.out ?_; rintro e u1 ⟨rfl, hb1⟩)
    go_ret
    exact ⟨ret_bool E.out.symm, hb1⟩
set_option maxRecDepth 100000 in
set_option maxHeartbeats 4000000 in
theorem l18Tasks_any {w : World} {v : Value} {zs : List RK} (h : RKrow w v zs) : Calls Try.prog 50 #[v] w fun e w' => e = .returned (.bool (tasksB zs)) ∧ Below w.heap.size w w' := by
  have HR : Hid (RKrow w v zs) := h
  obtain ⟨ao, cap, rfl⟩ := h.sl
  clear h
  cases q0 : decide (8 < (zs.length : Int))
  rotate_left
  · have E : Hid (tasksB zs = false) := (show tasksB zs = false by have := of_decide_eq_true q0; have e : decide ((zs.length : Int) ≤ 8) = false := decide_eq_false (by omega); unfold tasksB; rw [e]; rfl)
    go_enter Try.func50, Try.ntmps50
    go_wp2
    go_ret
    exact ⟨ret_bool E.out.symm, Below.refl _ _⟩
  have r2 : zs.length ≤ 8 := by have := of_decide_eq_false q0; omega
  have E : Hid (tasksB zs = zs.all rkB) := (show tasksB zs = _ by unfold tasksB; rw [decide_eq_true (show (zs.length : Int) ≤ 8 by omega)]; rfl)
  go_enter Try.func50, Try.ntmps50
  go_wp2
  clear q0
  go_loopw [3] (fun i wr => ∃ k : Nat, k ≤ zs.length ∧ i = .int .i64 k ∧ (zs.take k).all rkB = true ∧ Below w.heap.size w wr) (fun i _ => zs.length - (intOf i).toNat)
  case atStart => exact ⟨0, Nat.zero_le _, rfl, rfl, Below.refl _ _⟩
  case round =>
    obtain ⟨k, hk, rfl, hall, hb⟩ := hrel
    have HB : Hid (Below w.heap.size w wr) := hb
    have HALL : Hid ((zs.take k).all rkB = true) := hall
    clear hb hall
    by_cases hlt : k < zs.length
    · obtain ⟨g, o, cap2, hv, _, hg, hc⟩ := HR.out.resolve_left (fun h => by rw [h.1] at hlt; simp at hlt)
      injection hv with hv1 hv2 hv3
      subst hv1 hv3
      obtain ⟨d0, d1, d2⟩ := hc.below HB.out hg k hlt
      have hgw : g < wr.heap.size := Nat.lt_of_lt_of_le hg HB.out.size
      have HT : Hid ((zs.take (k + 1)).all rkB = ((zs.take k).all rkB && rkB zs[k])) := all_take hlt
      have HBAD : Hid (rkB zs[k] = false → zs.all rkB = false) := fun hh => all_bad hlt hh
      generalize zs[k] = z at *
      have hk0 : (0 : Int) ≤ (k : Int) := by omega
      have hk1 : (k : Int) < (zs.length : Int) := by omega
      have HVB : Hid (rkB z = (decide (0 ≤ z.start) && decide (z.start ≤ 100) && decide (1 ≤ z.period) && decide (z.period ≤ 40) && decide (1 ≤ z.budget) && decide (z.budget ≤ z.period))) := rfl
      have HLN : Hid (LG w (wr.alloc (.cells #[.int .i64 z.start, .int .i64 z.period, .int .i64 z.budget] 49)) wr.heap.size #[.int .i64 z.start, .int .i64 z.period, .int .i64 z.budget] 49) := ⟨HB.out.trans ((bx1 wr _).mono HB.out.size), heap_new _ _, HB.out.size⟩
      clear hc
      cases q0 : decide (z.start < 0)
      rotate_left
      · have E3 : Hid (rkB z = false) := (show rkB z = false by rw [HVB.out]; (try simp only [decide_eq_true_eq] at *); (try simp only [decide_eq_false_iff_not] at *); simp; try omega)
        have E2 : Hid (tasksB zs = false) := (show tasksB zs = false by rw [E.out, HBAD.out E3.out])
        clear E3 HBAD HT HVB
        go_wp2
        go_ret
        exact ⟨ret_bool E2.out.symm, HLN.out.bel⟩
      cases q1 : decide (100 < z.start)
      rotate_left
      · have E3 : Hid (rkB z = false) := (show rkB z = false by rw [HVB.out]; (try simp only [decide_eq_true_eq] at *); (try simp only [decide_eq_false_iff_not] at *); simp; try omega)
        have E2 : Hid (tasksB zs = false) := (show tasksB zs = false by rw [E.out, HBAD.out E3.out])
        clear E3 HBAD HT HVB
        go_wp2
        go_ret
        exact ⟨ret_bool E2.out.symm, HLN.out.bel⟩
      cases q2 : decide (z.period < 1)
      rotate_left
      · have E3 : Hid (rkB z = false) := (show rkB z = false by rw [HVB.out]; (try simp only [decide_eq_true_eq] at *); (try simp only [decide_eq_false_iff_not] at *); simp; try omega)
        have E2 : Hid (tasksB zs = false) := (show tasksB zs = false by rw [E.out, HBAD.out E3.out])
        clear E3 HBAD HT HVB
        go_wp2
        go_ret
        exact ⟨ret_bool E2.out.symm, HLN.out.bel⟩
      cases q3 : decide (40 < z.period)
      rotate_left
      · have E3 : Hid (rkB z = false) := (show rkB z = false by rw [HVB.out]; (try simp only [decide_eq_true_eq] at *); (try simp only [decide_eq_false_iff_not] at *); simp; try omega)
        have E2 : Hid (tasksB zs = false) := (show tasksB zs = false by rw [E.out, HBAD.out E3.out])
        clear E3 HBAD HT HVB
        go_wp2
        go_ret
        exact ⟨ret_bool E2.out.symm, HLN.out.bel⟩
      cases q4 : decide (z.budget < 1)
      rotate_left
      · have E3 : Hid (rkB z = false) := (show rkB z = false by rw [HVB.out]; (try simp only [decide_eq_true_eq] at *); (try simp only [decide_eq_false_iff_not] at *); simp; try omega)
        have E2 : Hid (tasksB zs = false) := (show tasksB zs = false by rw [E.out, HBAD.out E3.out])
        clear E3 HBAD HT HVB
        go_wp2
        go_ret
        exact ⟨ret_bool E2.out.symm, HLN.out.bel⟩
      cases q5 : decide (z.period < z.budget)
      rotate_left
      · have E3 : Hid (rkB z = false) := (show rkB z = false by rw [HVB.out]; (try simp only [decide_eq_true_eq] at *); (try simp only [decide_eq_false_iff_not] at *); simp; try omega)
        have E2 : Hid (tasksB zs = false) := (show tasksB zs = false by rw [E.out, HBAD.out E3.out])
        clear E3 HBAD HT HVB
        go_wp2
        go_ret
        exact ⟨ret_bool E2.out.symm, HLN.out.bel⟩
      have E3 : Hid (rkB z = true) := (show rkB z = true by rw [HVB.out]; (try simp only [decide_eq_false_iff_not] at *); simp; try omega)
      have HT2 : Hid ((zs.take (k + 1)).all rkB = true) := (show (zs.take (k + 1)).all rkB = true by rw [HT.out, HALL.out, E3.out]; rfl)
      clear E3 HBAD HT HVB
      go_wp2
      exact ⟨⟨k + 1, hlt, by go_num, HT2.out, HLN.out.bel⟩, by simp [intOf]; omega⟩
    · obtain rfl : k = zs.length := by omega
      have E2 : Hid (tasksB zs = true) := (show tasksB zs = true by
        have := HALL.out
        rw [List.take_length] at this
        rw [E.out, this])
      go_wp2
      go_ret
      exact ⟨ret_bool E2.out.symm, HB.out⟩
end Go.Proofs.Ytcglpigmellfcab
