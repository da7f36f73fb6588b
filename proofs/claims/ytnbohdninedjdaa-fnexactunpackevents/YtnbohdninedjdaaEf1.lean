import Derived.Test.YtnbohdninedjdaaRowEV1
import Derived.Test.YtnbohdninedjdaaLG
import Derived.Test.YtnbohdninedjdaaMFa
import Derived.BigQuiet
import Derived.Deep.DeepCutAuto
namespace Go.Proofs.Ytnbohdninedjdaa
open Go.ChangeShapes Go.WideShapes Go.ChangeAt Go.RowKit

/-- An event is right. -/
def evB (z : EV) : Bool := decide (0 ≤ z.t) && decide (z.t ≤ 1099511627776) && (((z.kind == 1) && decide (0 ≤ z.num) && decide (z.num < 7) && (z.val == 0)) || ((z.kind == 2) && decide (0 ≤ z.num) && decide (z.num ≤ 2047) && isW z.val))
def allN (p : Nat → Bool) (k : Nat) : Bool := (List.range k).all p
theorem allN_succ (p : Nat → Bool) (k : Nat) : allN p (k + 1) = (allN p k && p k) := by simp [allN, List.range_succ]
theorem allN_bad {p : Nat → Bool} {k m : Nat} (hk : k < m) (h : p k = false) : allN p m = false := by
  unfold allN
  rw [List.all_eq_false]
  exact ⟨k, List.mem_range.2 hk, by rw [h]; decide⟩
theorem allN_iff {p : Nat → Bool} {m : Nat} : allN p m = true ↔ ∀ k, k < m → p k = true := by
  unfold allN
  rw [List.all_eq_true]
  exact ⟨fun h k hk => h k (List.mem_range.2 hk), fun h k hk => h k (List.mem_range.1 hk)⟩
def dEV : EV := ⟨0, 0, 0, 0⟩
def evk (zs : List EV) (j : Nat) : Bool := evB (zs.getD j dEV) && (decide (j = 0) || decide ((zs.getD (j - 1) dEV).t ≤ (zs.getD j dEV).t))
def efB (zs : List EV) : Bool := decide ((zs.length : Int) ≤ 200) && allN (evk zs) zs.length
def efV (zs : List EV) : Int := if efB zs = true then 0 else 1
theorem evk_0 {zs : List EV} (h : 0 < zs.length) : evk zs 0 = evB zs[0] := by simp [evk, List.getD, List.getElem?_eq_getElem h]
theorem evk_s {zs : List EV} {k : Nat} (h : k + 1 < zs.length) : evk zs (k + 1) = (evB zs[k + 1] && decide (zs[k].t ≤ zs[k + 1].t)) := by
  simp [evk, List.getD, List.getElem?_eq_getElem h, List.getElem?_eq_getElem (show k < zs.length by omega)]
theorem efV_long {zs : List EV} (h : 200 < (zs.length : Int)) : efV zs = 1 := by
  have e : decide ((zs.length : Int) ≤ 200) = false := decide_eq_false (by omega)
  unfold efV efB
  rw [e]
  rfl
theorem efV_short {zs : List EV} (h : ¬ 200 < (zs.length : Int)) : efV zs = if allN (evk zs) zs.length = true then 0 else 1 := by
  have e : decide ((zs.length : Int) ≤ 200) = true := decide_eq_true (by omega)
  unfold efV efB
  rw [e]
  rfl
set_option maxRecDepth 100000 in
set_option maxHeartbeats 4000000 in
theorem evRight_any (z : EV) (w : World) : Calls Try.prog 25 #[.agg #[.int .i64 z.t, .int .i64 z.kind, .int .i64 z.num, .int .i64 z.val]] w fun e w' => e = .returned (.bool (evB z)) ∧ Below w.heap.size w w' := by
  have HL0 : Hid (LG w (w.alloc (.cells #[.int .i64 z.t, .int .i64 z.kind, .int .i64 z.num, .int .i64 z.val] 46)) w.heap.size #[.int .i64 z.t, .int .i64 z.kind, .int .i64 z.num, .int .i64 z.val] 46) := LG.new w _ _
  have HW : Hid (∀ u, Calls Try.prog 55 #[.int .i64 z.val] u fun e w' => e = .returned (.bool (isW z.val)) ∧ w' = u) := fun u => implIsWord_any z.val u
  have E : Hid (evB z = (decide (0 ≤ z.t) && decide (z.t ≤ 1099511627776) && (((z.kind == 1) && decide (0 ≤ z.num) && decide (z.num < 7) && (z.val == 0)) || ((z.kind == 2) && decide (0 ≤ z.num) && decide (z.num ≤ 2047) && isW z.val)))) := rfl
  generalize evB z = V at *
  generalize isW z.val = I at *
  cases q0 : decide (z.t < 0)
  · skip
    cases q1 : decide (1099511627776 < z.t)
    · skip
      cases q2 : (z.kind == 1)
      · skip
        cases q3 : (z.kind == 2)
        · skip
          have E2 : Hid (V = false) := (show V = false by rw [E.out]; (try simp only [decide_eq_true_eq] at *); (try simp only [beq_iff_eq] at *); (try simp only [decide_eq_false_iff_not] at *); (try simp only [beq_eq_false_iff_ne] at *); (try simp only [ne_eq] at *); (try simp only [bne_iff_ne] at *); (try simp only [bne_eq_false_iff_eq] at *); simp [*]; try omega)
          clear E
          go_enter Try.func25, Try.ntmps25
          go_upto_region 1 with fail
          generalize (w.alloc (.cells #[.int .i64 z.t, .int .i64 z.kind, .int .i64 z.num, .int .i64 z.val] 46)) = u0 at *
          generalize w.heap.size = b0 at *
          have k0 := HL0.out.cel 0 _ rfl
          have k1 := HL0.out.cel 1 _ rfl
          have k2 := HL0.out.cel 2 _ rfl
          have k3 := HL0.out.cel 3 _ rfl
          have kl := HL0.out.lt
          go_wp2_with (go_at_call 55; refine Calls.mono (HW.out _) ?_; rintro e u1 ⟨rfl, hw1⟩; rw [hw1]; clear hw1)
          go_ret
          exact ⟨ret_bool E2.out.symm, HL0.out.bel⟩
        · skip
          cases q4 : decide (0 ≤ z.num)
          · skip
            have E2 : Hid (V = false) := (show V = false by rw [E.out]; (try simp only [decide_eq_true_eq] at *); (try simp only [beq_iff_eq] at *); (try simp only [decide_eq_false_iff_not] at *); (try simp only [beq_eq_false_iff_ne] at *); (try simp only [ne_eq] at *); (try simp only [bne_iff_ne] at *); (try simp only [bne_eq_false_iff_eq] at *); simp [*]; try omega)
            clear E
            go_enter Try.func25, Try.ntmps25
            go_upto_region 1 with fail
            generalize (w.alloc (.cells #[.int .i64 z.t, .int .i64 z.kind, .int .i64 z.num, .int .i64 z.val] 46)) = u0 at *
            generalize w.heap.size = b0 at *
            have k0 := HL0.out.cel 0 _ rfl
            have k1 := HL0.out.cel 1 _ rfl
            have k2 := HL0.out.cel 2 _ rfl
            have k3 := HL0.out.cel 3 _ rfl
            have kl := HL0.out.lt
            go_wp2_with (go_at_call 55; refine Calls.mono (HW.out _) ?_; rintro e u1 ⟨rfl, hw1⟩; rw [hw1]; clear hw1)
            go_ret
            exact ⟨ret_bool E2.out.symm, HL0.out.bel⟩
          · skip
            cases q5 : decide (z.num ≤ 2047)
            · skip
              have E2 : Hid (V = false) := (show V = false by rw [E.out]; (try simp only [decide_eq_true_eq] at *); (try simp only [beq_iff_eq] at *); (try simp only [decide_eq_false_iff_not] at *); (try simp only [beq_eq_false_iff_ne] at *); (try simp only [ne_eq] at *); (try simp only [bne_iff_ne] at *); (try simp only [bne_eq_false_iff_eq] at *); simp [*]; try omega)
              clear E
              go_enter Try.func25, Try.ntmps25
              go_upto_region 1 with fail
              generalize (w.alloc (.cells #[.int .i64 z.t, .int .i64 z.kind, .int .i64 z.num, .int .i64 z.val] 46)) = u0 at *
              generalize w.heap.size = b0 at *
              have k0 := HL0.out.cel 0 _ rfl
              have k1 := HL0.out.cel 1 _ rfl
              have k2 := HL0.out.cel 2 _ rfl
              have k3 := HL0.out.cel 3 _ rfl
              have kl := HL0.out.lt
              go_wp2_with (go_at_call 55; refine Calls.mono (HW.out _) ?_; rintro e u1 ⟨rfl, hw1⟩; rw [hw1]; clear hw1)
              go_ret
              exact ⟨ret_bool E2.out.symm, HL0.out.bel⟩
            · skip
              have E2 : Hid (V = I) := (show V = I by rw [E.out]; (try simp only [decide_eq_true_eq] at *); (try simp only [beq_iff_eq] at *); (try simp only [decide_eq_false_iff_not] at *); (try simp only [beq_eq_false_iff_ne] at *); (try simp only [ne_eq] at *); (try simp only [bne_iff_ne] at *); (try simp only [bne_eq_false_iff_eq] at *); simp [*]; try omega)
              clear E
              go_enter Try.func25, Try.ntmps25
              go_upto_region 1 with fail
              generalize (w.alloc (.cells #[.int .i64 z.t, .int .i64 z.kind, .int .i64 z.num, .int .i64 z.val] 46)) = u0 at *
              generalize w.heap.size = b0 at *
              have k0 := HL0.out.cel 0 _ rfl
              have k1 := HL0.out.cel 1 _ rfl
              have k2 := HL0.out.cel 2 _ rfl
              have k3 := HL0.out.cel 3 _ rfl
              have kl := HL0.out.lt
              go_wp2_with (go_at_call 55; refine Calls.mono (HW.out _) ?_; rintro e u1 ⟨rfl, hw1⟩; rw [hw1]; clear hw1)
              go_ret
              exact ⟨ret_bool E2.out.symm, HL0.out.bel⟩
      · skip
        cases q6 : decide (0 ≤ z.num)
        · skip
          have E2 : Hid (V = false) := (show V = false by rw [E.out]; (try simp only [decide_eq_true_eq] at *); (try simp only [beq_iff_eq] at *); (try simp only [decide_eq_false_iff_not] at *); (try simp only [beq_eq_false_iff_ne] at *); (try simp only [ne_eq] at *); (try simp only [bne_iff_ne] at *); (try simp only [bne_eq_false_iff_eq] at *); simp [*]; try omega)
          clear E
          go_enter Try.func25, Try.ntmps25
          go_upto_region 1 with fail
          generalize (w.alloc (.cells #[.int .i64 z.t, .int .i64 z.kind, .int .i64 z.num, .int .i64 z.val] 46)) = u0 at *
          generalize w.heap.size = b0 at *
          have k0 := HL0.out.cel 0 _ rfl
          have k1 := HL0.out.cel 1 _ rfl
          have k2 := HL0.out.cel 2 _ rfl
          have k3 := HL0.out.cel 3 _ rfl
          have kl := HL0.out.lt
          go_wp2_with (go_at_call 55; refine Calls.mono (HW.out _) ?_; rintro e u1 ⟨rfl, hw1⟩; rw [hw1]; clear hw1)
          go_ret
          exact ⟨ret_bool E2.out.symm, HL0.out.bel⟩
        · skip
          cases q7 : decide (z.num < 7)
          · skip
            have E2 : Hid (V = false) := (show V = false by rw [E.out]; (try simp only [decide_eq_true_eq] at *); (try simp only [beq_iff_eq] at *); (try simp only [decide_eq_false_iff_not] at *); (try simp only [beq_eq_false_iff_ne] at *); (try simp only [ne_eq] at *); (try simp only [bne_iff_ne] at *); (try simp only [bne_eq_false_iff_eq] at *); simp [*]; try omega)
            clear E
            go_enter Try.func25, Try.ntmps25
            go_upto_region 1 with fail
            generalize (w.alloc (.cells #[.int .i64 z.t, .int .i64 z.kind, .int .i64 z.num, .int .i64 z.val] 46)) = u0 at *
            generalize w.heap.size = b0 at *
            have k0 := HL0.out.cel 0 _ rfl
            have k1 := HL0.out.cel 1 _ rfl
            have k2 := HL0.out.cel 2 _ rfl
            have k3 := HL0.out.cel 3 _ rfl
            have kl := HL0.out.lt
            go_wp2_with (go_at_call 55; refine Calls.mono (HW.out _) ?_; rintro e u1 ⟨rfl, hw1⟩; rw [hw1]; clear hw1)
            go_ret
            exact ⟨ret_bool E2.out.symm, HL0.out.bel⟩
          · skip
            have E2 : Hid (V = (z.val == 0)) := (show V = (z.val == 0) by rw [E.out]; (try simp only [decide_eq_true_eq] at *); (try simp only [beq_iff_eq] at *); (try simp only [decide_eq_false_iff_not] at *); (try simp only [beq_eq_false_iff_ne] at *); (try simp only [ne_eq] at *); (try simp only [bne_iff_ne] at *); (try simp only [bne_eq_false_iff_eq] at *); simp [*]; try omega)
            clear E
            go_enter Try.func25, Try.ntmps25
            go_upto_region 1 with fail
            generalize (w.alloc (.cells #[.int .i64 z.t, .int .i64 z.kind, .int .i64 z.num, .int .i64 z.val] 46)) = u0 at *
            generalize w.heap.size = b0 at *
            have k0 := HL0.out.cel 0 _ rfl
            have k1 := HL0.out.cel 1 _ rfl
            have k2 := HL0.out.cel 2 _ rfl
            have k3 := HL0.out.cel 3 _ rfl
            have kl := HL0.out.lt
            go_wp2_with (go_at_call 55; refine Calls.mono (HW.out _) ?_; rintro e u1 ⟨rfl, hw1⟩; rw [hw1]; clear hw1)
            go_ret
            exact ⟨ret_bool E2.out.symm, HL0.out.bel⟩
    · skip
      have E2 : Hid (V = false) := (show V = false by rw [E.out]; (try simp only [decide_eq_true_eq] at *); (try simp only [beq_iff_eq] at *); (try simp only [decide_eq_false_iff_not] at *); (try simp only [beq_eq_false_iff_ne] at *); (try simp only [ne_eq] at *); (try simp only [bne_iff_ne] at *); (try simp only [bne_eq_false_iff_eq] at *); simp [*]; try omega)
      clear E
      go_enter Try.func25, Try.ntmps25
      go_upto_region 1 with fail
      generalize (w.alloc (.cells #[.int .i64 z.t, .int .i64 z.kind, .int .i64 z.num, .int .i64 z.val] 46)) = u0 at *
      generalize w.heap.size = b0 at *
      have k0 := HL0.out.cel 0 _ rfl
      have k1 := HL0.out.cel 1 _ rfl
      have k2 := HL0.out.cel 2 _ rfl
      have k3 := HL0.out.cel 3 _ rfl
      have kl := HL0.out.lt
      go_wp2_with (go_at_call 55; refine Calls.mono (HW.out _) ?_; rintro e u1 ⟨rfl, hw1⟩; rw [hw1]; clear hw1)
      go_ret
      exact ⟨ret_bool E2.out.symm, HL0.out.bel⟩
  · skip
    have E2 : Hid (V = false) := (show V = false by rw [E.out]; (try simp only [decide_eq_true_eq] at *); (try simp only [beq_iff_eq] at *); (try simp only [decide_eq_false_iff_not] at *); (try simp only [beq_eq_false_iff_ne] at *); (try simp only [ne_eq] at *); (try simp only [bne_iff_ne] at *); (try simp only [bne_eq_false_iff_eq] at *); simp [*]; try omega)
    clear E
    go_enter Try.func25, Try.ntmps25
    go_upto_region 1 with fail
    generalize (w.alloc (.cells #[.int .i64 z.t, .int .i64 z.kind, .int .i64 z.num, .int .i64 z.val] 46)) = u0 at *
    generalize w.heap.size = b0 at *
    have k0 := HL0.out.cel 0 _ rfl
    have k1 := HL0.out.cel 1 _ rfl
    have k2 := HL0.out.cel 2 _ rfl
    have k3 := HL0.out.cel 3 _ rfl
    have kl := HL0.out.lt
    go_wp2_with (go_at_call 55; refine Calls.mono (HW.out _) ?_; rintro e u1 ⟨rfl, hw1⟩; rw [hw1]; clear hw1)
    go_ret
    exact ⟨ret_bool E2.out.symm, HL0.out.bel⟩
end Go.Proofs.Ytnbohdninedjdaa
