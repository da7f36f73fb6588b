import Derived.Test.YtcglpigmellfcaaIdxVC
import Derived.Test.YtcglpigmellfcaaLG
import Derived.Test.YtcglpigmellfcaaMFa
import Derived.Deep.DeepCutAuto
namespace Go.Proofs.Ytcglpigmellfcaa
open Go.ChangeShapes Go.WideShapes Go.ChangeAt Go.RowKit

def gnB (n : Int) : Bool := decide (0 ≤ n) && decide (n < 100)
def scB (n : Int) : Bool := decide (0 ≤ n) && decide (n ≤ 1099511627776)
def lowB (P : Int) : Int := 2 ^ P.toNat - 1
theorem lowB_b {P : Int} (h0 : 1 ≤ P) (h1 : P ≤ 8) : 1 ≤ lowB P ∧ lowB P ≤ 255 := by
  unfold lowB
  obtain ⟨n, rfl⟩ := Int.eq_ofNat_of_zero_le (show 0 ≤ P by omega)
  have e : (2 : Int) ^ (n : Int).toNat = ((2 ^ n : Nat) : Int) := by simp
  have h2 : 2 ^ n ≤ 2 ^ 8 := Nat.pow_le_pow_right (by omega) (by omega)
  have h3 : 2 ^ 1 ≤ 2 ^ n := Nat.pow_le_pow_right (by omega) (by omega)
  rw [Int.toNat_natCast] at *
  omega
def vcB (P : Int) (z : VC) : Bool := gnB z.guest && decide (1 ≤ z.weight) && decide (z.weight ≤ 1000) && decide (1 ≤ z.mask) && decide (z.mask ≤ lowB P) && decide (0 ≤ z.cap) && decide (z.cap ≤ 10) && decide (0 ≤ z.used) && decide (z.used ≤ 10) && decide (-1099511627776 ≤ z.credit) && decide (z.credit ≤ 1099511627776) && scB z.ran && scB z.stolen
theorem isGuest_any (n : Int) (w : World) : Calls Try.prog 62 #[.int .i64 n] w fun e w' => e = .returned (.bool (gnB n)) ∧ w' = w := by
  unfold gnB
  go_enter Try.func62, Try.ntmps62
  go_wp2
  all_goals go_ret
  all_goals refine ⟨ret_bool ?_, rfl⟩
  all_goals simp
  all_goals omega
theorem isSched_any (n : Int) (w : World) : Calls Try.prog 64 #[.int .i64 n] w fun e w' => e = .returned (.bool (scB n)) ∧ w' = w := by
  unfold scB
  go_enter Try.func64, Try.ntmps64
  go_wp2
  all_goals go_ret
  all_goals refine ⟨ret_bool ?_, rfl⟩
  all_goals simp
  all_goals omega
theorem lowBits_any (P : Int) (w : World) (h0 : 1 ≤ P) (h1 : P ≤ 8) : Calls Try.prog 63 #[.int .i64 P] w fun e w' => e = .returned (.int .i64 (lowB P)) ∧ w' = w := by
  obtain ⟨p1, p2⟩ := lowB_b h0 h1
  unfold lowB at *
  go_enter Try.func63, Try.ntmps63
  go_wp2
  go_ret
  exact ⟨rfl, rfl⟩
set_option maxRecDepth 100000 in
set_option maxHeartbeats 4000000 in
theorem vcRight_any (P : Int) (h0 : 1 ≤ P) (h1 : P ≤ 8) (z : VC) (w : World) : Calls Try.prog 42 #[.agg #[.int .i64 z.guest, .int .i64 z.weight, .int .i64 z.cap, .int .i64 z.mask, .bool z.awake, .int .i64 z.credit, .int .i64 z.used, .int .i64 z.ran, .int .i64 z.stolen], .int .i64 P] w fun e w' => e = .returned (.bool (vcB P z)) ∧ Below w.heap.size w w' := by
  have HL0 : Hid (LG w (w.alloc (.cells #[.int .i64 z.guest, .int .i64 z.weight, .int .i64 z.cap, .int .i64 z.mask, .bool z.awake, .int .i64 z.credit, .int .i64 z.used, .int .i64 z.ran, .int .i64 z.stolen] 60)) w.heap.size #[.int .i64 z.guest, .int .i64 z.weight, .int .i64 z.cap, .int .i64 z.mask, .bool z.awake, .int .i64 z.credit, .int .i64 z.used, .int .i64 z.ran, .int .i64 z.stolen] 60) := LG.new w _ _
  have HG : Hid (∀ u, Calls Try.prog 62 #[.int .i64 z.guest] u fun e w' => e = .returned (.bool (gnB z.guest)) ∧ w' = u) := fun u => isGuest_any z.guest u
  have HR : Hid (∀ u, Calls Try.prog 64 #[.int .i64 z.ran] u fun e w' => e = .returned (.bool (scB z.ran)) ∧ w' = u) := fun u => isSched_any z.ran u
  have HS : Hid (∀ u, Calls Try.prog 64 #[.int .i64 z.stolen] u fun e w' => e = .returned (.bool (scB z.stolen)) ∧ w' = u) := fun u => isSched_any z.stolen u
  have HLB : Hid (∀ u, Calls Try.prog 63 #[.int .i64 P] u fun e w' => e = .returned (.int .i64 (lowB P)) ∧ w' = u) := fun u => lowBits_any P u h0 h1
  have E : Hid (vcB P z = (gnB z.guest && decide (1 ≤ z.weight) && decide (z.weight ≤ 1000) && decide (1 ≤ z.mask) && decide (z.mask ≤ lowB P) && decide (0 ≤ z.cap) && decide (z.cap ≤ 10) && decide (0 ≤ z.used) && decide (z.used ≤ 10) && decide (-1099511627776 ≤ z.credit) && decide (z.credit ≤ 1099511627776) && scB z.ran && scB z.stolen)) := rfl
  clear h0 h1
  generalize vcB P z = V at *
  generalize lowB P = LB at *
  generalize gnB z.guest = G at *
  generalize scB z.ran = R at *
  generalize scB z.stolen = S at *
  cases G
  · have E2 : Hid (V = false) := (show V = false by rw [E.out]; (try simp only [decide_eq_true_eq] at *); (try simp only [decide_eq_false_iff_not] at *); simp; try omega)
    clear E
    go_enter Try.func42, Try.ntmps42
    go_upto_region 1 with fail
    generalize (w.alloc (.cells #[.int .i64 z.guest, .int .i64 z.weight, .int .i64 z.cap, .int .i64 z.mask, .bool z.awake, .int .i64 z.credit, .int .i64 z.used, .int .i64 z.ran, .int .i64 z.stolen] 60)) = u0 at *
    generalize w.heap.size = b0 at *
    have k0 := HL0.out.cel 0 _ rfl
    have k1 := HL0.out.cel 1 _ rfl
    have k2 := HL0.out.cel 2 _ rfl
    have k3 := HL0.out.cel 3 _ rfl
    have k4 := HL0.out.cel 4 _ rfl
    have k5 := HL0.out.cel 5 _ rfl
    have k6 := HL0.out.cel 6 _ rfl
    have k7 := HL0.out.cel 7 _ rfl
    have k8 := HL0.out.cel 8 _ rfl
    have kl := HL0.out.lt
    go_quiet (first | (go_at_call 62; exact Calls.quiet_of_same (HG.out _)) | (go_at_call 63; exact Calls.quiet_of_same (HLB.out _)))
    go_wp2_with (first | (go_at_call 64; refine Calls.mono (HR.out _) ?_; rintro e u1 ⟨rfl, hw1⟩; rw [hw1]; clear hw1 HR) | (go_at_call 64; refine Calls.mono (HS.out _) ?_; rintro e u1 ⟨rfl, hw1⟩; rw [hw1]; clear hw1 HS))
    go_ret
    exact ⟨ret_bool E2.out.symm, bdn HL0.out.bel _⟩
  · skip
    cases q1 : decide (z.weight < 1)
    rotate_left
    · have E2 : Hid (V = false) := (show V = false by rw [E.out]; (try simp only [decide_eq_true_eq] at *); (try simp only [decide_eq_false_iff_not] at *); simp; try omega)
      clear E
      go_enter Try.func42, Try.ntmps42
      go_upto_region 1 with fail
      generalize (w.alloc (.cells #[.int .i64 z.guest, .int .i64 z.weight, .int .i64 z.cap, .int .i64 z.mask, .bool z.awake, .int .i64 z.credit, .int .i64 z.used, .int .i64 z.ran, .int .i64 z.stolen] 60)) = u0 at *
      generalize w.heap.size = b0 at *
      have k0 := HL0.out.cel 0 _ rfl
      have k1 := HL0.out.cel 1 _ rfl
      have k2 := HL0.out.cel 2 _ rfl
      have k3 := HL0.out.cel 3 _ rfl
      have k4 := HL0.out.cel 4 _ rfl
      have k5 := HL0.out.cel 5 _ rfl
      have k6 := HL0.out.cel 6 _ rfl
      have k7 := HL0.out.cel 7 _ rfl
      have k8 := HL0.out.cel 8 _ rfl
      have kl := HL0.out.lt
      go_quiet (first | (go_at_call 62; exact Calls.quiet_of_same (HG.out _)) | (go_at_call 63; exact Calls.quiet_of_same (HLB.out _)))
      go_wp2_with (first | (go_at_call 64; refine Calls.mono (HR.out _) ?_; rintro e u1 ⟨rfl, hw1⟩; rw [hw1]; clear hw1 HR) | (go_at_call 64; refine Calls.mono (HS.out _) ?_; rintro e u1 ⟨rfl, hw1⟩; rw [hw1]; clear hw1 HS))
      go_ret
      exact ⟨ret_bool E2.out.symm, bdn HL0.out.bel _⟩
    · skip
      cases q2 : decide (1000 < z.weight)
      rotate_left
      · have E2 : Hid (V = false) := (show V = false by rw [E.out]; (try simp only [decide_eq_true_eq] at *); (try simp only [decide_eq_false_iff_not] at *); simp; try omega)
        clear E
        go_enter Try.func42, Try.ntmps42
        go_upto_region 1 with fail
        generalize (w.alloc (.cells #[.int .i64 z.guest, .int .i64 z.weight, .int .i64 z.cap, .int .i64 z.mask, .bool z.awake, .int .i64 z.credit, .int .i64 z.used, .int .i64 z.ran, .int .i64 z.stolen] 60)) = u0 at *
        generalize w.heap.size = b0 at *
        have k0 := HL0.out.cel 0 _ rfl
        have k1 := HL0.out.cel 1 _ rfl
        have k2 := HL0.out.cel 2 _ rfl
        have k3 := HL0.out.cel 3 _ rfl
        have k4 := HL0.out.cel 4 _ rfl
        have k5 := HL0.out.cel 5 _ rfl
        have k6 := HL0.out.cel 6 _ rfl
        have k7 := HL0.out.cel 7 _ rfl
        have k8 := HL0.out.cel 8 _ rfl
        have kl := HL0.out.lt
        go_quiet (first | (go_at_call 62; exact Calls.quiet_of_same (HG.out _)) | (go_at_call 63; exact Calls.quiet_of_same (HLB.out _)))
        go_wp2_with (first | (go_at_call 64; refine Calls.mono (HR.out _) ?_; rintro e u1 ⟨rfl, hw1⟩; rw [hw1]; clear hw1 HR) | (go_at_call 64; refine Calls.mono (HS.out _) ?_; rintro e u1 ⟨rfl, hw1⟩; rw [hw1]; clear hw1 HS))
        go_ret
        exact ⟨ret_bool E2.out.symm, bdn HL0.out.bel _⟩
      · skip
        cases q3 : decide (z.mask < 1)
        rotate_left
        · have E2 : Hid (V = false) := (show V = false by rw [E.out]; (try simp only [decide_eq_true_eq] at *); (try simp only [decide_eq_false_iff_not] at *); simp; try omega)
          clear E
          go_enter Try.func42, Try.ntmps42
          go_upto_region 1 with fail
          generalize (w.alloc (.cells #[.int .i64 z.guest, .int .i64 z.weight, .int .i64 z.cap, .int .i64 z.mask, .bool z.awake, .int .i64 z.credit, .int .i64 z.used, .int .i64 z.ran, .int .i64 z.stolen] 60)) = u0 at *
          generalize w.heap.size = b0 at *
          have k0 := HL0.out.cel 0 _ rfl
          have k1 := HL0.out.cel 1 _ rfl
          have k2 := HL0.out.cel 2 _ rfl
          have k3 := HL0.out.cel 3 _ rfl
          have k4 := HL0.out.cel 4 _ rfl
          have k5 := HL0.out.cel 5 _ rfl
          have k6 := HL0.out.cel 6 _ rfl
          have k7 := HL0.out.cel 7 _ rfl
          have k8 := HL0.out.cel 8 _ rfl
          have kl := HL0.out.lt
          go_quiet (first | (go_at_call 62; exact Calls.quiet_of_same (HG.out _)) | (go_at_call 63; exact Calls.quiet_of_same (HLB.out _)))
          go_wp2_with (first | (go_at_call 64; refine Calls.mono (HR.out _) ?_; rintro e u1 ⟨rfl, hw1⟩; rw [hw1]; clear hw1 HR) | (go_at_call 64; refine Calls.mono (HS.out _) ?_; rintro e u1 ⟨rfl, hw1⟩; rw [hw1]; clear hw1 HS))
          go_ret
          exact ⟨ret_bool E2.out.symm, bdn HL0.out.bel _⟩
        · skip
          cases q4 : decide (LB < z.mask)
          rotate_left
          · have E2 : Hid (V = false) := (show V = false by rw [E.out]; (try simp only [decide_eq_true_eq] at *); (try simp only [decide_eq_false_iff_not] at *); simp; try omega)
            clear E
            go_enter Try.func42, Try.ntmps42
            go_upto_region 1 with fail
            generalize (w.alloc (.cells #[.int .i64 z.guest, .int .i64 z.weight, .int .i64 z.cap, .int .i64 z.mask, .bool z.awake, .int .i64 z.credit, .int .i64 z.used, .int .i64 z.ran, .int .i64 z.stolen] 60)) = u0 at *
            generalize w.heap.size = b0 at *
            have k0 := HL0.out.cel 0 _ rfl
            have k1 := HL0.out.cel 1 _ rfl
            have k2 := HL0.out.cel 2 _ rfl
            have k3 := HL0.out.cel 3 _ rfl
            have k4 := HL0.out.cel 4 _ rfl
            have k5 := HL0.out.cel 5 _ rfl
            have k6 := HL0.out.cel 6 _ rfl
            have k7 := HL0.out.cel 7 _ rfl
            have k8 := HL0.out.cel 8 _ rfl
            have kl := HL0.out.lt
            go_quiet (first | (go_at_call 62; exact Calls.quiet_of_same (HG.out _)) | (go_at_call 63; exact Calls.quiet_of_same (HLB.out _)))
            go_wp2_with (first | (go_at_call 64; refine Calls.mono (HR.out _) ?_; rintro e u1 ⟨rfl, hw1⟩; rw [hw1]; clear hw1 HR) | (go_at_call 64; refine Calls.mono (HS.out _) ?_; rintro e u1 ⟨rfl, hw1⟩; rw [hw1]; clear hw1 HS))
            go_ret
            exact ⟨ret_bool E2.out.symm, bdn HL0.out.bel _⟩
          · skip
            cases q5 : decide (z.cap < 0)
            rotate_left
            · have E2 : Hid (V = false) := (show V = false by rw [E.out]; (try simp only [decide_eq_true_eq] at *); (try simp only [decide_eq_false_iff_not] at *); simp; try omega)
              clear E
              go_enter Try.func42, Try.ntmps42
              go_upto_region 1 with fail
              generalize (w.alloc (.cells #[.int .i64 z.guest, .int .i64 z.weight, .int .i64 z.cap, .int .i64 z.mask, .bool z.awake, .int .i64 z.credit, .int .i64 z.used, .int .i64 z.ran, .int .i64 z.stolen] 60)) = u0 at *
              generalize w.heap.size = b0 at *
              have k0 := HL0.out.cel 0 _ rfl
              have k1 := HL0.out.cel 1 _ rfl
              have k2 := HL0.out.cel 2 _ rfl
              have k3 := HL0.out.cel 3 _ rfl
              have k4 := HL0.out.cel 4 _ rfl
              have k5 := HL0.out.cel 5 _ rfl
              have k6 := HL0.out.cel 6 _ rfl
              have k7 := HL0.out.cel 7 _ rfl
              have k8 := HL0.out.cel 8 _ rfl
              have kl := HL0.out.lt
              go_quiet (first | (go_at_call 62; exact Calls.quiet_of_same (HG.out _)) | (go_at_call 63; exact Calls.quiet_of_same (HLB.out _)))
              go_wp2_with (first | (go_at_call 64; refine Calls.mono (HR.out _) ?_; rintro e u1 ⟨rfl, hw1⟩; rw [hw1]; clear hw1 HR) | (go_at_call 64; refine Calls.mono (HS.out _) ?_; rintro e u1 ⟨rfl, hw1⟩; rw [hw1]; clear hw1 HS))
              go_ret
              exact ⟨ret_bool E2.out.symm, bdn HL0.out.bel _⟩
            · skip
              cases q6 : decide (10 < z.cap)
              rotate_left
              · have E2 : Hid (V = false) := (show V = false by rw [E.out]; (try simp only [decide_eq_true_eq] at *); (try simp only [decide_eq_false_iff_not] at *); simp; try omega)
                clear E
                go_enter Try.func42, Try.ntmps42
                go_upto_region 1 with fail
                generalize (w.alloc (.cells #[.int .i64 z.guest, .int .i64 z.weight, .int .i64 z.cap, .int .i64 z.mask, .bool z.awake, .int .i64 z.credit, .int .i64 z.used, .int .i64 z.ran, .int .i64 z.stolen] 60)) = u0 at *
                generalize w.heap.size = b0 at *
                have k0 := HL0.out.cel 0 _ rfl
                have k1 := HL0.out.cel 1 _ rfl
                have k2 := HL0.out.cel 2 _ rfl
                have k3 := HL0.out.cel 3 _ rfl
                have k4 := HL0.out.cel 4 _ rfl
                have k5 := HL0.out.cel 5 _ rfl
                have k6 := HL0.out.cel 6 _ rfl
                have k7 := HL0.out.cel 7 _ rfl
                have k8 := HL0.out.cel 8 _ rfl
                have kl := HL0.out.lt
                go_quiet (first | (go_at_call 62; exact Calls.quiet_of_same (HG.out _)) | (go_at_call 63; exact Calls.quiet_of_same (HLB.out _)))
                go_wp2_with (first | (go_at_call 64; refine Calls.mono (HR.out _) ?_; rintro e u1 ⟨rfl, hw1⟩; rw [hw1]; clear hw1 HR) | (go_at_call 64; refine Calls.mono (HS.out _) ?_; rintro e u1 ⟨rfl, hw1⟩; rw [hw1]; clear hw1 HS))
                go_ret
                exact ⟨ret_bool E2.out.symm, bdn HL0.out.bel _⟩
              · skip
                cases q7 : decide (z.used < 0)
                rotate_left
                · have E2 : Hid (V = false) := (show V = false by rw [E.out]; (try simp only [decide_eq_true_eq] at *); (try simp only [decide_eq_false_iff_not] at *); simp; try omega)
                  clear E
                  go_enter Try.func42, Try.ntmps42
                  go_upto_region 1 with fail
                  generalize (w.alloc (.cells #[.int .i64 z.guest, .int .i64 z.weight, .int .i64 z.cap, .int .i64 z.mask, .bool z.awake, .int .i64 z.credit, .int .i64 z.used, .int .i64 z.ran, .int .i64 z.stolen] 60)) = u0 at *
                  generalize w.heap.size = b0 at *
                  have k0 := HL0.out.cel 0 _ rfl
                  have k1 := HL0.out.cel 1 _ rfl
                  have k2 := HL0.out.cel 2 _ rfl
                  have k3 := HL0.out.cel 3 _ rfl
                  have k4 := HL0.out.cel 4 _ rfl
                  have k5 := HL0.out.cel 5 _ rfl
                  have k6 := HL0.out.cel 6 _ rfl
                  have k7 := HL0.out.cel 7 _ rfl
                  have k8 := HL0.out.cel 8 _ rfl
                  have kl := HL0.out.lt
                  go_quiet (first | (go_at_call 62; exact Calls.quiet_of_same (HG.out _)) | (go_at_call 63; exact Calls.quiet_of_same (HLB.out _)))
                  go_wp2_with (first | (go_at_call 64; refine Calls.mono (HR.out _) ?_; rintro e u1 ⟨rfl, hw1⟩; rw [hw1]; clear hw1 HR) | (go_at_call 64; refine Calls.mono (HS.out _) ?_; rintro e u1 ⟨rfl, hw1⟩; rw [hw1]; clear hw1 HS))
                  go_ret
                  exact ⟨ret_bool E2.out.symm, bdn HL0.out.bel _⟩
                · skip
                  cases q8 : decide (10 < z.used)
                  rotate_left
                  · have E2 : Hid (V = false) := (show V = false by rw [E.out]; (try simp only [decide_eq_true_eq] at *); (try simp only [decide_eq_false_iff_not] at *); simp; try omega)
                    clear E
                    go_enter Try.func42, Try.ntmps42
                    go_upto_region 1 with fail
                    generalize (w.alloc (.cells #[.int .i64 z.guest, .int .i64 z.weight, .int .i64 z.cap, .int .i64 z.mask, .bool z.awake, .int .i64 z.credit, .int .i64 z.used, .int .i64 z.ran, .int .i64 z.stolen] 60)) = u0 at *
                    generalize w.heap.size = b0 at *
                    have k0 := HL0.out.cel 0 _ rfl
                    have k1 := HL0.out.cel 1 _ rfl
                    have k2 := HL0.out.cel 2 _ rfl
                    have k3 := HL0.out.cel 3 _ rfl
                    have k4 := HL0.out.cel 4 _ rfl
                    have k5 := HL0.out.cel 5 _ rfl
                    have k6 := HL0.out.cel 6 _ rfl
                    have k7 := HL0.out.cel 7 _ rfl
                    have k8 := HL0.out.cel 8 _ rfl
                    have kl := HL0.out.lt
                    go_quiet (first | (go_at_call 62; exact Calls.quiet_of_same (HG.out _)) | (go_at_call 63; exact Calls.quiet_of_same (HLB.out _)))
                    go_wp2_with (first | (go_at_call 64; refine Calls.mono (HR.out _) ?_; rintro e u1 ⟨rfl, hw1⟩; rw [hw1]; clear hw1 HR) | (go_at_call 64; refine Calls.mono (HS.out _) ?_; rintro e u1 ⟨rfl, hw1⟩; rw [hw1]; clear hw1 HS))
                    go_ret
                    exact ⟨ret_bool E2.out.symm, bdn HL0.out.bel _⟩
                  · skip
                    cases q9 : decide (-1099511627776 ≤ z.credit)
                    · have E2 : Hid (V = false) := (show V = false by rw [E.out]; (try simp only [decide_eq_true_eq] at *); (try simp only [decide_eq_false_iff_not] at *); simp; try omega)
                      clear E
                      go_enter Try.func42, Try.ntmps42
                      go_upto_region 1 with fail
                      generalize (w.alloc (.cells #[.int .i64 z.guest, .int .i64 z.weight, .int .i64 z.cap, .int .i64 z.mask, .bool z.awake, .int .i64 z.credit, .int .i64 z.used, .int .i64 z.ran, .int .i64 z.stolen] 60)) = u0 at *
                      generalize w.heap.size = b0 at *
                      have k0 := HL0.out.cel 0 _ rfl
                      have k1 := HL0.out.cel 1 _ rfl
                      have k2 := HL0.out.cel 2 _ rfl
                      have k3 := HL0.out.cel 3 _ rfl
                      have k4 := HL0.out.cel 4 _ rfl
                      have k5 := HL0.out.cel 5 _ rfl
                      have k6 := HL0.out.cel 6 _ rfl
                      have k7 := HL0.out.cel 7 _ rfl
                      have k8 := HL0.out.cel 8 _ rfl
                      have kl := HL0.out.lt
                      go_quiet (first | (go_at_call 62; exact Calls.quiet_of_same (HG.out _)) | (go_at_call 63; exact Calls.quiet_of_same (HLB.out _)))
                      go_wp2_with (first | (go_at_call 64; refine Calls.mono (HR.out _) ?_; rintro e u1 ⟨rfl, hw1⟩; rw [hw1]; clear hw1 HR) | (go_at_call 64; refine Calls.mono (HS.out _) ?_; rintro e u1 ⟨rfl, hw1⟩; rw [hw1]; clear hw1 HS))
                      go_ret
                      exact ⟨ret_bool E2.out.symm, bdn HL0.out.bel _⟩
                    · skip
                      cases q10 : decide (z.credit ≤ 1099511627776)
                      · have E2 : Hid (V = false) := (show V = false by rw [E.out]; (try simp only [decide_eq_true_eq] at *); (try simp only [decide_eq_false_iff_not] at *); simp; try omega)
                        clear E
                        go_enter Try.func42, Try.ntmps42
                        go_upto_region 1 with fail
                        generalize (w.alloc (.cells #[.int .i64 z.guest, .int .i64 z.weight, .int .i64 z.cap, .int .i64 z.mask, .bool z.awake, .int .i64 z.credit, .int .i64 z.used, .int .i64 z.ran, .int .i64 z.stolen] 60)) = u0 at *
                        generalize w.heap.size = b0 at *
                        have k0 := HL0.out.cel 0 _ rfl
                        have k1 := HL0.out.cel 1 _ rfl
                        have k2 := HL0.out.cel 2 _ rfl
                        have k3 := HL0.out.cel 3 _ rfl
                        have k4 := HL0.out.cel 4 _ rfl
                        have k5 := HL0.out.cel 5 _ rfl
                        have k6 := HL0.out.cel 6 _ rfl
                        have k7 := HL0.out.cel 7 _ rfl
                        have k8 := HL0.out.cel 8 _ rfl
                        have kl := HL0.out.lt
                        go_quiet (first | (go_at_call 62; exact Calls.quiet_of_same (HG.out _)) | (go_at_call 63; exact Calls.quiet_of_same (HLB.out _)))
                        go_wp2_with (first | (go_at_call 64; refine Calls.mono (HR.out _) ?_; rintro e u1 ⟨rfl, hw1⟩; rw [hw1]; clear hw1 HR) | (go_at_call 64; refine Calls.mono (HS.out _) ?_; rintro e u1 ⟨rfl, hw1⟩; rw [hw1]; clear hw1 HS))
                        go_ret
                        exact ⟨ret_bool E2.out.symm, bdn HL0.out.bel _⟩
                      · skip
                        cases R
                        · have E2 : Hid (V = false) := (show V = false by rw [E.out]; (try simp only [decide_eq_true_eq] at *); (try simp only [decide_eq_false_iff_not] at *); simp; try omega)
                          clear E
                          go_enter Try.func42, Try.ntmps42
                          go_upto_region 1 with fail
                          generalize (w.alloc (.cells #[.int .i64 z.guest, .int .i64 z.weight, .int .i64 z.cap, .int .i64 z.mask, .bool z.awake, .int .i64 z.credit, .int .i64 z.used, .int .i64 z.ran, .int .i64 z.stolen] 60)) = u0 at *
                          generalize w.heap.size = b0 at *
                          have k0 := HL0.out.cel 0 _ rfl
                          have k1 := HL0.out.cel 1 _ rfl
                          have k2 := HL0.out.cel 2 _ rfl
                          have k3 := HL0.out.cel 3 _ rfl
                          have k4 := HL0.out.cel 4 _ rfl
                          have k5 := HL0.out.cel 5 _ rfl
                          have k6 := HL0.out.cel 6 _ rfl
                          have k7 := HL0.out.cel 7 _ rfl
                          have k8 := HL0.out.cel 8 _ rfl
                          have kl := HL0.out.lt
                          go_quiet (first | (go_at_call 62; exact Calls.quiet_of_same (HG.out _)) | (go_at_call 63; exact Calls.quiet_of_same (HLB.out _)))
                          go_wp2_with (first | (go_at_call 64; refine Calls.mono (HR.out _) ?_; rintro e u1 ⟨rfl, hw1⟩; rw [hw1]; clear hw1 HR) | (go_at_call 64; refine Calls.mono (HS.out _) ?_; rintro e u1 ⟨rfl, hw1⟩; rw [hw1]; clear hw1 HS))
                          go_ret
                          exact ⟨ret_bool E2.out.symm, bdn HL0.out.bel _⟩
                        · skip
                          cases S
                          · have E2 : Hid (V = false) := (show V = false by rw [E.out]; (try simp only [decide_eq_true_eq] at *); (try simp only [decide_eq_false_iff_not] at *); simp; try omega)
                            clear E
                            go_enter Try.func42, Try.ntmps42
                            go_upto_region 1 with fail
                            generalize (w.alloc (.cells #[.int .i64 z.guest, .int .i64 z.weight, .int .i64 z.cap, .int .i64 z.mask, .bool z.awake, .int .i64 z.credit, .int .i64 z.used, .int .i64 z.ran, .int .i64 z.stolen] 60)) = u0 at *
                            generalize w.heap.size = b0 at *
                            have k0 := HL0.out.cel 0 _ rfl
                            have k1 := HL0.out.cel 1 _ rfl
                            have k2 := HL0.out.cel 2 _ rfl
                            have k3 := HL0.out.cel 3 _ rfl
                            have k4 := HL0.out.cel 4 _ rfl
                            have k5 := HL0.out.cel 5 _ rfl
                            have k6 := HL0.out.cel 6 _ rfl
                            have k7 := HL0.out.cel 7 _ rfl
                            have k8 := HL0.out.cel 8 _ rfl
                            have kl := HL0.out.lt
                            go_quiet (first | (go_at_call 62; exact Calls.quiet_of_same (HG.out _)) | (go_at_call 63; exact Calls.quiet_of_same (HLB.out _)))
                            go_wp2_with (first | (go_at_call 64; refine Calls.mono (HR.out _) ?_; rintro e u1 ⟨rfl, hw1⟩; rw [hw1]; clear hw1 HR) | (go_at_call 64; refine Calls.mono (HS.out _) ?_; rintro e u1 ⟨rfl, hw1⟩; rw [hw1]; clear hw1 HS))
                            go_ret
                            exact ⟨ret_bool E2.out.symm, bdn HL0.out.bel _⟩
                          · skip
                            have E2 : Hid (V = true) := (show V = true by rw [E.out]; (try simp only [decide_eq_true_eq] at *); (try simp only [decide_eq_false_iff_not] at *); simp; try omega)
                            clear E
                            go_enter Try.func42, Try.ntmps42
                            go_upto_region 1 with fail
                            generalize (w.alloc (.cells #[.int .i64 z.guest, .int .i64 z.weight, .int .i64 z.cap, .int .i64 z.mask, .bool z.awake, .int .i64 z.credit, .int .i64 z.used, .int .i64 z.ran, .int .i64 z.stolen] 60)) = u0 at *
                            generalize w.heap.size = b0 at *
                            have k0 := HL0.out.cel 0 _ rfl
                            have k1 := HL0.out.cel 1 _ rfl
                            have k2 := HL0.out.cel 2 _ rfl
                            have k3 := HL0.out.cel 3 _ rfl
                            have k4 := HL0.out.cel 4 _ rfl
                            have k5 := HL0.out.cel 5 _ rfl
                            have k6 := HL0.out.cel 6 _ rfl
                            have k7 := HL0.out.cel 7 _ rfl
                            have k8 := HL0.out.cel 8 _ rfl
                            have kl := HL0.out.lt
                            go_quiet (first | (go_at_call 62; exact Calls.quiet_of_same (HG.out _)) | (go_at_call 63; exact Calls.quiet_of_same (HLB.out _)))
                            go_wp2_with (first | (go_at_call 64; refine Calls.mono (HR.out _) ?_; rintro e u1 ⟨rfl, hw1⟩; rw [hw1]; clear hw1 HR) | (go_at_call 64; refine Calls.mono (HS.out _) ?_; rintro e u1 ⟨rfl, hw1⟩; rw [hw1]; clear hw1 HS))
                            go_ret
                            exact ⟨ret_bool E2.out.symm, bdn HL0.out.bel _⟩
end Go.Proofs.Ytcglpigmellfcaa
