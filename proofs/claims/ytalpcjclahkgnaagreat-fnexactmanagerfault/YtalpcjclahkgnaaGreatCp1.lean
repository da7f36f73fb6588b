import Derived.Test.YtalpcjclahkgnaaGreatCm1
import Derived.Test.YtalpcjclahkgnaaGreatLG
import Derived.BigQuiet
import Derived.Deep.DeepCutAuto
namespace Go.Proofs.YtalpcjclahkgnaaGreat
open Go.ChangeShapes Go.WideShapes Go.ChangeAt Go.RowKit

def szB (c m : Int) : Bool := decide (1 ≤ c) && decide (c ≤ 64) && decide (1 ≤ m) && decide (m ≤ 1000)
def bnB (n : Int) : Bool := decide (0 ≤ n) && decide (n ≤ 10000)
def wiB (s a n : Int) : Bool := decide (0 ≤ a) && decide (0 ≤ n) && decide (a ≤ s - n)
def opnB (z : NOD) : Bool := !z.fenced && !z.closed
theorem nodB_eq (t : Int) (z : NOD) : nodB t z = (szB z.cpu z.mem && decide (1 ≤ z.zone) && decide (z.zone ≤ 20) && decide (0 ≤ z.beat) && decide (z.beat ≤ t)) := by
  simp [nodB, szB, Bool.and_assoc]
theorem vmB_eq (n : Nat) (v : VMC) : vmB n v = (nmB v.name && szB v.cpu v.mem && wiB n v.tenant 1 && decide (0 ≤ v.zone) && decide (v.zone ≤ 20) && decide (0 ≤ v.apart) && decide (v.apart ≤ 20)) := by
  have h : wiB n v.tenant 1 = (decide (0 ≤ v.tenant) && decide (v.tenant < n)) := by
    unfold wiB
    rw [show decide ((0 : Int) ≤ 1) = true from rfl, Bool.and_true]
    congr 1
    exact decide_eq_decide.2 (by omega)
  rw [h]
  simp [vmB, szB, Bool.and_assoc]
theorem tntB_eq (z : TNT) : tntB z = (bnB z.cpu && bnB z.mem && decide (0 ≤ z.bill) && decide (z.bill ≤ 1152921504606846976)) := by
  simp [tntB, bnB, Bool.and_assoc]
set_option maxRecDepth 100000 in
set_option maxHeartbeats 4000000 in
theorem areSizes_any (c m : Int) (w : World) : Calls Tryz.prog 89 #[.int .i64 c, .int .i64 m] w fun e w' => e = .returned (.bool (szB c m)) ∧ w' = w := by
  have E : Hid (szB c m = (decide (1 ≤ c) && decide (c ≤ 64) && decide (1 ≤ m) && decide (m ≤ 1000))) := rfl
  generalize szB c m = V at *
  cases q0 : decide (1 ≤ c)
  · skip
    have E2 : Hid (V = false) := (show V = false by rw [E.out]; have r0 := of_decide_eq_false q0; simp [*]; try omega)
    clear E
    go_enter Tryz.func89, Tryz.ntmps89
    go_wp2
    go_ret
    exact ret_bw E2.out.symm rfl
  · skip
    cases q1 : decide (c ≤ 64)
    · skip
      have E2 : Hid (V = false) := (show V = false by rw [E.out]; have r0 := of_decide_eq_true q0; have r1 := of_decide_eq_false q1; simp [*]; try omega)
      clear E
      go_enter Tryz.func89, Tryz.ntmps89
      go_wp2
      go_ret
      exact ret_bw E2.out.symm rfl
    · skip
      cases q2 : decide (1 ≤ m)
      · skip
        have E2 : Hid (V = false) := (show V = false by rw [E.out]; have r0 := of_decide_eq_true q0; have r1 := of_decide_eq_true q1; have r2 := of_decide_eq_false q2; simp [*]; try omega)
        clear E
        go_enter Tryz.func89, Tryz.ntmps89
        go_wp2
        go_ret
        exact ret_bw E2.out.symm rfl
      · skip
        cases q3 : decide (m ≤ 1000)
        · skip
          have E2 : Hid (V = false) := (show V = false by rw [E.out]; have r0 := of_decide_eq_true q0; have r1 := of_decide_eq_true q1; have r2 := of_decide_eq_true q2; have r3 := of_decide_eq_false q3; simp [*]; try omega)
          clear E
          go_enter Tryz.func89, Tryz.ntmps89
          go_wp2
          go_ret
          exact ret_bw E2.out.symm rfl
        · skip
          have E2 : Hid (V = true) := (show V = true by rw [E.out]; have r0 := of_decide_eq_true q0; have r1 := of_decide_eq_true q1; have r2 := of_decide_eq_true q2; have r3 := of_decide_eq_true q3; simp [*]; try omega)
          clear E
          go_enter Tryz.func89, Tryz.ntmps89
          go_wp2
          go_ret
          exact ret_bw E2.out.symm rfl
set_option maxRecDepth 100000 in
set_option maxHeartbeats 4000000 in
theorem isBound_any (c : Int) (w : World) : Calls Tryz.prog 91 #[.int .i64 c] w fun e w' => e = .returned (.bool (bnB c)) ∧ w' = w := by
  have E : Hid (bnB c = (decide (0 ≤ c) && decide (c ≤ 10000))) := rfl
  generalize bnB c = V at *
  cases q0 : decide (0 ≤ c)
  · skip
    have E2 : Hid (V = false) := (show V = false by rw [E.out]; have r0 := of_decide_eq_false q0; simp [*]; try omega)
    clear E
    go_enter Tryz.func91, Tryz.ntmps91
    go_wp2
    go_ret
    exact ret_bw E2.out.symm rfl
  · skip
    cases q1 : decide (c ≤ 10000)
    · skip
      have E2 : Hid (V = false) := (show V = false by rw [E.out]; have r0 := of_decide_eq_true q0; have r1 := of_decide_eq_false q1; simp [*]; try omega)
      clear E
      go_enter Tryz.func91, Tryz.ntmps91
      go_wp2
      go_ret
      exact ret_bw E2.out.symm rfl
    · skip
      have E2 : Hid (V = true) := (show V = true by rw [E.out]; have r0 := of_decide_eq_true q0; have r1 := of_decide_eq_true q1; simp [*]; try omega)
      clear E
      go_enter Tryz.func91, Tryz.ntmps91
      go_wp2
      go_ret
      exact ret_bw E2.out.symm rfl
set_option maxRecDepth 100000 in
set_option maxHeartbeats 4000000 in
theorem isWithin22_any (n : Nat) (a : Int) (hn : n ≤ 1048576) (w : World) : Calls Tryz.prog 90 #[.int .i64 n, .int .i64 a, .int .i64 1] w fun e w' => e = .returned (.bool (wiB n a 1)) ∧ w' = w := by
  have hw : wrap64 ((n : Int) - 1) = (n : Int) - 1 := by unfold wrap64; omega
  have hn2 : (n : Int) ≤ 1048576 := by omega
  have hn3 : (0 : Int) ≤ (n : Int) := by omega
  have E : Hid (wiB n a 1 = (decide (0 ≤ a) && decide ((0 : Int) ≤ 1) && decide (a ≤ (n : Int) - 1))) := rfl
  generalize wiB n a 1 = V at *
  cases q0 : decide (0 ≤ a)
  · skip
    have E2 : Hid (V = false) := (show V = false by rw [E.out]; have r0 := of_decide_eq_false q0; simp [*]; try omega)
    clear E
    go_enter Tryz.func90, Tryz.ntmps90
    go_wp2
    go_ret
    exact ret_bw E2.out.symm rfl
  · skip
    cases q1 : decide (a ≤ (n : Int) - 1)
    · skip
      have E2 : Hid (V = false) := (show V = false by rw [E.out]; have r0 := of_decide_eq_true q0; have r1 := of_decide_eq_false q1; simp [*]; try omega)
      clear E
      go_enter Tryz.func90, Tryz.ntmps90
      go_wp2
      go_ret
      exact ret_bw E2.out.symm rfl
    · skip
      have E2 : Hid (V = true) := (show V = true by rw [E.out]; have r0 := of_decide_eq_true q0; have r1 := of_decide_eq_true q1; simp [*]; try omega)
      clear E
      go_enter Tryz.func90, Tryz.ntmps90
      go_wp2
      go_ret
      exact ret_bw E2.out.symm rfl
set_option maxRecDepth 100000 in
set_option maxHeartbeats 4000000 in
theorem ndRight_any (z : NOD) (t : Int) (w : World) : Calls Tryz.prog 75 #[.agg #[.string z.name, .int .i64 z.cpu, .int .i64 z.mem, .int .i64 z.zone, .int .i64 z.beat, .bool z.fenced, .bool z.closed], .int .i64 t] w fun e w' => e = .returned (.bool (nodB t z)) ∧ Below w.heap.size w w' := by
  have HAS : Hid (∀ u, Calls Tryz.prog 89 #[.int .i64 z.cpu, .int .i64 z.mem] u fun e w' => e = .returned (.bool (szB z.cpu z.mem)) ∧ w' = u) := fun u => areSizes_any _ _ u
  have HL0 : Hid (LG w (w.alloc (.cells #[.string z.name, .int .i64 z.cpu, .int .i64 z.mem, .int .i64 z.zone, .int .i64 z.beat, .bool z.fenced, .bool z.closed] 97)) w.heap.size #[.string z.name, .int .i64 z.cpu, .int .i64 z.mem, .int .i64 z.zone, .int .i64 z.beat, .bool z.fenced, .bool z.closed] 97) := LG.new w _ _
  have E : Hid (nodB t z = ((szB z.cpu z.mem && decide (1 ≤ z.zone) && decide (z.zone ≤ 20) && decide (0 ≤ z.beat) && decide (z.beat ≤ t)))) := nodB_eq t z
  generalize nodB t z = V at *
  generalize szB z.cpu z.mem = S at *
  cases S
  · skip
    have E2 : Hid (V = false) := (show V = false by rw [E.out]; simp [*]; try omega)
    clear E
    go_enter Tryz.func75, Tryz.ntmps75
    go_upto_region 1 with fail
    generalize (w.alloc (.cells #[.string z.name, .int .i64 z.cpu, .int .i64 z.mem, .int .i64 z.zone, .int .i64 z.beat, .bool z.fenced, .bool z.closed] 97)) = u0 at *
    generalize w.heap.size = b0 at *
    have k0 := HL0.out.cel 0 _ rfl
    have k1 := HL0.out.cel 1 _ rfl
    have k2 := HL0.out.cel 2 _ rfl
    have k3 := HL0.out.cel 3 _ rfl
    have k4 := HL0.out.cel 4 _ rfl
    have k5 := HL0.out.cel 5 _ rfl
    have k6 := HL0.out.cel 6 _ rfl
    have kl := HL0.out.lt
    go_wp2_with (first | (go_at_call 89; refine Calls.mono (HAS.out _) ?_; rintro e u1 ⟨rfl, rfl⟩))
    go_ret
    exact ⟨ret_bool E2.out.symm, HL0.out.bel⟩
  · skip
    cases q1 : decide (1 ≤ z.zone)
    · skip
      have E2 : Hid (V = false) := (show V = false by rw [E.out]; have r1 := of_decide_eq_false q1; simp [*]; try omega)
      clear E
      go_enter Tryz.func75, Tryz.ntmps75
      go_upto_region 1 with fail
      generalize (w.alloc (.cells #[.string z.name, .int .i64 z.cpu, .int .i64 z.mem, .int .i64 z.zone, .int .i64 z.beat, .bool z.fenced, .bool z.closed] 97)) = u0 at *
      generalize w.heap.size = b0 at *
      have k0 := HL0.out.cel 0 _ rfl
      have k1 := HL0.out.cel 1 _ rfl
      have k2 := HL0.out.cel 2 _ rfl
      have k3 := HL0.out.cel 3 _ rfl
      have k4 := HL0.out.cel 4 _ rfl
      have k5 := HL0.out.cel 5 _ rfl
      have k6 := HL0.out.cel 6 _ rfl
      have kl := HL0.out.lt
      go_wp2_with (first | (go_at_call 89; refine Calls.mono (HAS.out _) ?_; rintro e u1 ⟨rfl, rfl⟩))
      go_ret
      exact ⟨ret_bool E2.out.symm, HL0.out.bel⟩
    · skip
      cases q2 : decide (z.zone ≤ 20)
      · skip
        have E2 : Hid (V = false) := (show V = false by rw [E.out]; have r1 := of_decide_eq_true q1; have r2 := of_decide_eq_false q2; simp [*]; try omega)
        clear E
        go_enter Tryz.func75, Tryz.ntmps75
        go_upto_region 1 with fail
        generalize (w.alloc (.cells #[.string z.name, .int .i64 z.cpu, .int .i64 z.mem, .int .i64 z.zone, .int .i64 z.beat, .bool z.fenced, .bool z.closed] 97)) = u0 at *
        generalize w.heap.size = b0 at *
        have k0 := HL0.out.cel 0 _ rfl
        have k1 := HL0.out.cel 1 _ rfl
        have k2 := HL0.out.cel 2 _ rfl
        have k3 := HL0.out.cel 3 _ rfl
        have k4 := HL0.out.cel 4 _ rfl
        have k5 := HL0.out.cel 5 _ rfl
        have k6 := HL0.out.cel 6 _ rfl
        have kl := HL0.out.lt
        go_wp2_with (first | (go_at_call 89; refine Calls.mono (HAS.out _) ?_; rintro e u1 ⟨rfl, rfl⟩))
        go_ret
        exact ⟨ret_bool E2.out.symm, HL0.out.bel⟩
      · skip
        cases q3 : decide (0 ≤ z.beat)
        · skip
          have E2 : Hid (V = false) := (show V = false by rw [E.out]; have r1 := of_decide_eq_true q1; have r2 := of_decide_eq_true q2; have r3 := of_decide_eq_false q3; simp [*]; try omega)
          clear E
          go_enter Tryz.func75, Tryz.ntmps75
          go_upto_region 1 with fail
          generalize (w.alloc (.cells #[.string z.name, .int .i64 z.cpu, .int .i64 z.mem, .int .i64 z.zone, .int .i64 z.beat, .bool z.fenced, .bool z.closed] 97)) = u0 at *
          generalize w.heap.size = b0 at *
          have k0 := HL0.out.cel 0 _ rfl
          have k1 := HL0.out.cel 1 _ rfl
          have k2 := HL0.out.cel 2 _ rfl
          have k3 := HL0.out.cel 3 _ rfl
          have k4 := HL0.out.cel 4 _ rfl
          have k5 := HL0.out.cel 5 _ rfl
          have k6 := HL0.out.cel 6 _ rfl
          have kl := HL0.out.lt
          go_wp2_with (first | (go_at_call 89; refine Calls.mono (HAS.out _) ?_; rintro e u1 ⟨rfl, rfl⟩))
          go_ret
          exact ⟨ret_bool E2.out.symm, HL0.out.bel⟩
        · skip
          cases q4 : decide (z.beat ≤ t)
          · skip
            have E2 : Hid (V = false) := (show V = false by rw [E.out]; have r1 := of_decide_eq_true q1; have r2 := of_decide_eq_true q2; have r3 := of_decide_eq_true q3; have r4 := of_decide_eq_false q4; simp [*]; try omega)
            clear E
            go_enter Tryz.func75, Tryz.ntmps75
            go_upto_region 1 with fail
            generalize (w.alloc (.cells #[.string z.name, .int .i64 z.cpu, .int .i64 z.mem, .int .i64 z.zone, .int .i64 z.beat, .bool z.fenced, .bool z.closed] 97)) = u0 at *
            generalize w.heap.size = b0 at *
            have k0 := HL0.out.cel 0 _ rfl
            have k1 := HL0.out.cel 1 _ rfl
            have k2 := HL0.out.cel 2 _ rfl
            have k3 := HL0.out.cel 3 _ rfl
            have k4 := HL0.out.cel 4 _ rfl
            have k5 := HL0.out.cel 5 _ rfl
            have k6 := HL0.out.cel 6 _ rfl
            have kl := HL0.out.lt
            go_wp2_with (first | (go_at_call 89; refine Calls.mono (HAS.out _) ?_; rintro e u1 ⟨rfl, rfl⟩))
            go_ret
            exact ⟨ret_bool E2.out.symm, HL0.out.bel⟩
          · skip
            have E2 : Hid (V = true) := (show V = true by rw [E.out]; have r1 := of_decide_eq_true q1; have r2 := of_decide_eq_true q2; have r3 := of_decide_eq_true q3; have r4 := of_decide_eq_true q4; simp [*]; try omega)
            clear E
            go_enter Tryz.func75, Tryz.ntmps75
            go_upto_region 1 with fail
            generalize (w.alloc (.cells #[.string z.name, .int .i64 z.cpu, .int .i64 z.mem, .int .i64 z.zone, .int .i64 z.beat, .bool z.fenced, .bool z.closed] 97)) = u0 at *
            generalize w.heap.size = b0 at *
            have k0 := HL0.out.cel 0 _ rfl
            have k1 := HL0.out.cel 1 _ rfl
            have k2 := HL0.out.cel 2 _ rfl
            have k3 := HL0.out.cel 3 _ rfl
            have k4 := HL0.out.cel 4 _ rfl
            have k5 := HL0.out.cel 5 _ rfl
            have k6 := HL0.out.cel 6 _ rfl
            have kl := HL0.out.lt
            go_wp2_with (first | (go_at_call 89; refine Calls.mono (HAS.out _) ?_; rintro e u1 ⟨rfl, rfl⟩))
            go_ret
            exact ⟨ret_bool E2.out.symm, HL0.out.bel⟩
set_option maxRecDepth 100000 in
set_option maxHeartbeats 4000000 in
theorem teRight_any (z : TNT) (w : World) : Calls Tryz.prog 78 #[.agg #[.int .i64 z.cpu, .int .i64 z.mem, .int .i64 z.bill]] w fun e w' => e = .returned (.bool (tntB z)) ∧ Below w.heap.size w w' := by
  have HBC : Hid (∀ u, Calls Tryz.prog 91 #[.int .i64 z.cpu] u fun e w' => e = .returned (.bool (bnB z.cpu)) ∧ w' = u) := fun u => isBound_any _ u
  have HBM : Hid (∀ u, Calls Tryz.prog 91 #[.int .i64 z.mem] u fun e w' => e = .returned (.bool (bnB z.mem)) ∧ w' = u) := fun u => isBound_any _ u
  have HL0 : Hid (LG w (w.alloc (.cells #[.int .i64 z.cpu, .int .i64 z.mem, .int .i64 z.bill] 76)) w.heap.size #[.int .i64 z.cpu, .int .i64 z.mem, .int .i64 z.bill] 76) := LG.new w _ _
  have E : Hid (tntB z = ((bnB z.cpu && bnB z.mem && decide (0 ≤ z.bill) && decide (z.bill ≤ 1152921504606846976)))) := tntB_eq z
  generalize tntB z = V at *
  generalize bnB z.cpu = BC at *
  generalize bnB z.mem = BM at *
  cases BC
  · skip
    have E2 : Hid (V = false) := (show V = false by rw [E.out]; simp [*]; try omega)
    clear E
    go_enter Tryz.func78, Tryz.ntmps78
    go_upto_region 1 with fail
    generalize (w.alloc (.cells #[.int .i64 z.cpu, .int .i64 z.mem, .int .i64 z.bill] 76)) = u0 at *
    generalize w.heap.size = b0 at *
    have k0 := HL0.out.cel 0 _ rfl
    have k1 := HL0.out.cel 1 _ rfl
    have k2 := HL0.out.cel 2 _ rfl
    have kl := HL0.out.lt
    go_wp2_with (first | (go_at_call 91; refine Calls.mono (HBC.out _) ?_; rintro e u1 ⟨rfl, rfl⟩; clear HBC) | (go_at_call 91; refine Calls.mono (HBM.out _) ?_; rintro e u1 ⟨rfl, rfl⟩; clear HBM))
    go_ret
    exact ⟨ret_bool E2.out.symm, HL0.out.bel⟩
  · skip
    cases BM
    · skip
      have E2 : Hid (V = false) := (show V = false by rw [E.out]; simp [*]; try omega)
      clear E
      go_enter Tryz.func78, Tryz.ntmps78
      go_upto_region 1 with fail
      generalize (w.alloc (.cells #[.int .i64 z.cpu, .int .i64 z.mem, .int .i64 z.bill] 76)) = u0 at *
      generalize w.heap.size = b0 at *
      have k0 := HL0.out.cel 0 _ rfl
      have k1 := HL0.out.cel 1 _ rfl
      have k2 := HL0.out.cel 2 _ rfl
      have kl := HL0.out.lt
      go_wp2_with (first | (go_at_call 91; refine Calls.mono (HBC.out _) ?_; rintro e u1 ⟨rfl, rfl⟩; clear HBC) | (go_at_call 91; refine Calls.mono (HBM.out _) ?_; rintro e u1 ⟨rfl, rfl⟩; clear HBM))
      go_ret
      exact ⟨ret_bool E2.out.symm, HL0.out.bel⟩
    · skip
      cases q2 : decide (0 ≤ z.bill)
      · skip
        have E2 : Hid (V = false) := (show V = false by rw [E.out]; have r2 := of_decide_eq_false q2; simp [*]; try omega)
        clear E
        go_enter Tryz.func78, Tryz.ntmps78
        go_upto_region 1 with fail
        generalize (w.alloc (.cells #[.int .i64 z.cpu, .int .i64 z.mem, .int .i64 z.bill] 76)) = u0 at *
        generalize w.heap.size = b0 at *
        have k0 := HL0.out.cel 0 _ rfl
        have k1 := HL0.out.cel 1 _ rfl
        have k2 := HL0.out.cel 2 _ rfl
        have kl := HL0.out.lt
        go_wp2_with (first | (go_at_call 91; refine Calls.mono (HBC.out _) ?_; rintro e u1 ⟨rfl, rfl⟩; clear HBC) | (go_at_call 91; refine Calls.mono (HBM.out _) ?_; rintro e u1 ⟨rfl, rfl⟩; clear HBM))
        go_ret
        exact ⟨ret_bool E2.out.symm, HL0.out.bel⟩
      · skip
        cases q3 : decide (z.bill ≤ 1152921504606846976)
        · skip
          have E2 : Hid (V = false) := (show V = false by rw [E.out]; have r2 := of_decide_eq_true q2; have r3 := of_decide_eq_false q3; simp [*]; try omega)
          clear E
          go_enter Tryz.func78, Tryz.ntmps78
          go_upto_region 1 with fail
          generalize (w.alloc (.cells #[.int .i64 z.cpu, .int .i64 z.mem, .int .i64 z.bill] 76)) = u0 at *
          generalize w.heap.size = b0 at *
          have k0 := HL0.out.cel 0 _ rfl
          have k1 := HL0.out.cel 1 _ rfl
          have k2 := HL0.out.cel 2 _ rfl
          have kl := HL0.out.lt
          go_wp2_with (first | (go_at_call 91; refine Calls.mono (HBC.out _) ?_; rintro e u1 ⟨rfl, rfl⟩; clear HBC) | (go_at_call 91; refine Calls.mono (HBM.out _) ?_; rintro e u1 ⟨rfl, rfl⟩; clear HBM))
          go_ret
          exact ⟨ret_bool E2.out.symm, HL0.out.bel⟩
        · skip
          have E2 : Hid (V = true) := (show V = true by rw [E.out]; have r2 := of_decide_eq_true q2; have r3 := of_decide_eq_true q3; simp [*]; try omega)
          clear E
          go_enter Tryz.func78, Tryz.ntmps78
          go_upto_region 1 with fail
          generalize (w.alloc (.cells #[.int .i64 z.cpu, .int .i64 z.mem, .int .i64 z.bill] 76)) = u0 at *
          generalize w.heap.size = b0 at *
          have k0 := HL0.out.cel 0 _ rfl
          have k1 := HL0.out.cel 1 _ rfl
          have k2 := HL0.out.cel 2 _ rfl
          have kl := HL0.out.lt
          go_wp2_with (first | (go_at_call 91; refine Calls.mono (HBC.out _) ?_; rintro e u1 ⟨rfl, rfl⟩; clear HBC) | (go_at_call 91; refine Calls.mono (HBM.out _) ?_; rintro e u1 ⟨rfl, rfl⟩; clear HBM))
          go_ret
          exact ⟨ret_bool E2.out.symm, HL0.out.bel⟩
set_option maxRecDepth 100000 in
set_option maxHeartbeats 4000000 in
theorem vmOne_any (v : VMC) (n : Nat) (hn : n ≤ 1048576) (w : World) : Calls Tryz.prog 77 #[.agg #[.string v.name, .int .i64 v.tenant, .int .i64 v.cpu, .int .i64 v.mem, .int .i64 v.zone, .int .i64 v.apart, .string v.node, .int .i64 v.epoch], .int .i64 n] w fun e w' => e = .returned (.bool (vmB n v)) ∧ Below w.heap.size w w' := by
  have HAS : Hid (∀ u, Calls Tryz.prog 89 #[.int .i64 v.cpu, .int .i64 v.mem] u fun e w' => e = .returned (.bool (szB v.cpu v.mem)) ∧ w' = u) := fun u => areSizes_any _ _ u
  have HNM : Hid (∀ u, Calls Tryz.prog 74 #[.string v.name] u fun e w' => e = .returned (.bool (nmB v.name)) ∧ w' = u) := fun u => isImageName_any _ u
  have HWI : Hid (∀ u, Calls Tryz.prog 90 #[.int .i64 n, .int .i64 v.tenant, .int .i64 1] u fun e w' => e = .returned (.bool (wiB n v.tenant 1)) ∧ w' = u) := fun u => isWithin22_any _ _ hn u
  clear hn
  have HL0 : Hid (LG w (w.alloc (.cells #[.string v.name, .int .i64 v.tenant, .int .i64 v.cpu, .int .i64 v.mem, .int .i64 v.zone, .int .i64 v.apart, .string v.node, .int .i64 v.epoch] 71)) w.heap.size #[.string v.name, .int .i64 v.tenant, .int .i64 v.cpu, .int .i64 v.mem, .int .i64 v.zone, .int .i64 v.apart, .string v.node, .int .i64 v.epoch] 71) := LG.new w _ _
  have E : Hid (vmB n v = ((nmB v.name && szB v.cpu v.mem && wiB n v.tenant 1 && decide (0 ≤ v.zone) && decide (v.zone ≤ 20) && decide (0 ≤ v.apart) && decide (v.apart ≤ 20)))) := vmB_eq n v
  generalize vmB n v = V at *
  generalize nmB v.name = NM at *
  generalize szB v.cpu v.mem = S at *
  generalize wiB n v.tenant 1 = WI at *
  cases NM
  · skip
    have E2 : Hid (V = false) := (show V = false by rw [E.out]; simp [*]; try omega)
    clear E
    go_enter Tryz.func77, Tryz.ntmps77
    go_upto_region 1 with fail
    generalize (w.alloc (.cells #[.string v.name, .int .i64 v.tenant, .int .i64 v.cpu, .int .i64 v.mem, .int .i64 v.zone, .int .i64 v.apart, .string v.node, .int .i64 v.epoch] 71)) = u0 at *
    generalize w.heap.size = b0 at *
    have k0 := HL0.out.cel 0 _ rfl
    have k1 := HL0.out.cel 1 _ rfl
    have k2 := HL0.out.cel 2 _ rfl
    have k3 := HL0.out.cel 3 _ rfl
    have k4 := HL0.out.cel 4 _ rfl
    have k5 := HL0.out.cel 5 _ rfl
    have k6 := HL0.out.cel 6 _ rfl
    have k7 := HL0.out.cel 7 _ rfl
    have kl := HL0.out.lt
    go_wp2_with (first | (go_at_call 74; refine Calls.mono (HNM.out _) ?_; rintro e u1 ⟨rfl, rfl⟩) | (go_at_call 89; refine Calls.mono (HAS.out _) ?_; rintro e u1 ⟨rfl, rfl⟩) | (go_at_call 90; refine Calls.mono (HWI.out _) ?_; rintro e u1 ⟨rfl, rfl⟩))
    go_ret
    exact ⟨ret_bool E2.out.symm, HL0.out.bel⟩
  · skip
    cases S
    · skip
      have E2 : Hid (V = false) := (show V = false by rw [E.out]; simp [*]; try omega)
      clear E
      go_enter Tryz.func77, Tryz.ntmps77
      go_upto_region 1 with fail
      generalize (w.alloc (.cells #[.string v.name, .int .i64 v.tenant, .int .i64 v.cpu, .int .i64 v.mem, .int .i64 v.zone, .int .i64 v.apart, .string v.node, .int .i64 v.epoch] 71)) = u0 at *
      generalize w.heap.size = b0 at *
      have k0 := HL0.out.cel 0 _ rfl
      have k1 := HL0.out.cel 1 _ rfl
      have k2 := HL0.out.cel 2 _ rfl
      have k3 := HL0.out.cel 3 _ rfl
      have k4 := HL0.out.cel 4 _ rfl
      have k5 := HL0.out.cel 5 _ rfl
      have k6 := HL0.out.cel 6 _ rfl
      have k7 := HL0.out.cel 7 _ rfl
      have kl := HL0.out.lt
      go_wp2_with (first | (go_at_call 74; refine Calls.mono (HNM.out _) ?_; rintro e u1 ⟨rfl, rfl⟩) | (go_at_call 89; refine Calls.mono (HAS.out _) ?_; rintro e u1 ⟨rfl, rfl⟩) | (go_at_call 90; refine Calls.mono (HWI.out _) ?_; rintro e u1 ⟨rfl, rfl⟩))
      go_ret
      exact ⟨ret_bool E2.out.symm, HL0.out.bel⟩
    · skip
      cases WI
      · skip
        have E2 : Hid (V = false) := (show V = false by rw [E.out]; simp [*]; try omega)
        clear E
        go_enter Tryz.func77, Tryz.ntmps77
        go_upto_region 1 with fail
        generalize (w.alloc (.cells #[.string v.name, .int .i64 v.tenant, .int .i64 v.cpu, .int .i64 v.mem, .int .i64 v.zone, .int .i64 v.apart, .string v.node, .int .i64 v.epoch] 71)) = u0 at *
        generalize w.heap.size = b0 at *
        have k0 := HL0.out.cel 0 _ rfl
        have k1 := HL0.out.cel 1 _ rfl
        have k2 := HL0.out.cel 2 _ rfl
        have k3 := HL0.out.cel 3 _ rfl
        have k4 := HL0.out.cel 4 _ rfl
        have k5 := HL0.out.cel 5 _ rfl
        have k6 := HL0.out.cel 6 _ rfl
        have k7 := HL0.out.cel 7 _ rfl
        have kl := HL0.out.lt
        go_wp2_with (first | (go_at_call 74; refine Calls.mono (HNM.out _) ?_; rintro e u1 ⟨rfl, rfl⟩) | (go_at_call 89; refine Calls.mono (HAS.out _) ?_; rintro e u1 ⟨rfl, rfl⟩) | (go_at_call 90; refine Calls.mono (HWI.out _) ?_; rintro e u1 ⟨rfl, rfl⟩))
        go_ret
        exact ⟨ret_bool E2.out.symm, HL0.out.bel⟩
      · skip
        cases q3 : decide (0 ≤ v.zone)
        · skip
          have E2 : Hid (V = false) := (show V = false by rw [E.out]; have r3 := of_decide_eq_false q3; simp [*]; try omega)
          clear E
          go_enter Tryz.func77, Tryz.ntmps77
          go_upto_region 1 with fail
          generalize (w.alloc (.cells #[.string v.name, .int .i64 v.tenant, .int .i64 v.cpu, .int .i64 v.mem, .int .i64 v.zone, .int .i64 v.apart, .string v.node, .int .i64 v.epoch] 71)) = u0 at *
          generalize w.heap.size = b0 at *
          have k0 := HL0.out.cel 0 _ rfl
          have k1 := HL0.out.cel 1 _ rfl
          have k2 := HL0.out.cel 2 _ rfl
          have k3 := HL0.out.cel 3 _ rfl
          have k4 := HL0.out.cel 4 _ rfl
          have k5 := HL0.out.cel 5 _ rfl
          have k6 := HL0.out.cel 6 _ rfl
          have k7 := HL0.out.cel 7 _ rfl
          have kl := HL0.out.lt
          go_wp2_with (first | (go_at_call 74; refine Calls.mono (HNM.out _) ?_; rintro e u1 ⟨rfl, rfl⟩) | (go_at_call 89; refine Calls.mono (HAS.out _) ?_; rintro e u1 ⟨rfl, rfl⟩) | (go_at_call 90; refine Calls.mono (HWI.out _) ?_; rintro e u1 ⟨rfl, rfl⟩))
          go_ret
          exact ⟨ret_bool E2.out.symm, HL0.out.bel⟩
        · skip
          cases q4 : decide (v.zone ≤ 20)
          · skip
            have E2 : Hid (V = false) := (show V = false by rw [E.out]; have r3 := of_decide_eq_true q3; have r4 := of_decide_eq_false q4; simp [*]; try omega)
            clear E
            go_enter Tryz.func77, Tryz.ntmps77
            go_upto_region 1 with fail
            generalize (w.alloc (.cells #[.string v.name, .int .i64 v.tenant, .int .i64 v.cpu, .int .i64 v.mem, .int .i64 v.zone, .int .i64 v.apart, .string v.node, .int .i64 v.epoch] 71)) = u0 at *
            generalize w.heap.size = b0 at *
            have k0 := HL0.out.cel 0 _ rfl
            have k1 := HL0.out.cel 1 _ rfl
            have k2 := HL0.out.cel 2 _ rfl
            have k3 := HL0.out.cel 3 _ rfl
            have k4 := HL0.out.cel 4 _ rfl
            have k5 := HL0.out.cel 5 _ rfl
            have k6 := HL0.out.cel 6 _ rfl
            have k7 := HL0.out.cel 7 _ rfl
            have kl := HL0.out.lt
            go_wp2_with (first | (go_at_call 74; refine Calls.mono (HNM.out _) ?_; rintro e u1 ⟨rfl, rfl⟩) | (go_at_call 89; refine Calls.mono (HAS.out _) ?_; rintro e u1 ⟨rfl, rfl⟩) | (go_at_call 90; refine Calls.mono (HWI.out _) ?_; rintro e u1 ⟨rfl, rfl⟩))
            go_ret
            exact ⟨ret_bool E2.out.symm, HL0.out.bel⟩
          · skip
            cases q5 : decide (0 ≤ v.apart)
            · skip
              have E2 : Hid (V = false) := (show V = false by rw [E.out]; have r3 := of_decide_eq_true q3; have r4 := of_decide_eq_true q4; have r5 := of_decide_eq_false q5; simp [*]; try omega)
              clear E
              go_enter Tryz.func77, Tryz.ntmps77
              go_upto_region 1 with fail
              generalize (w.alloc (.cells #[.string v.name, .int .i64 v.tenant, .int .i64 v.cpu, .int .i64 v.mem, .int .i64 v.zone, .int .i64 v.apart, .string v.node, .int .i64 v.epoch] 71)) = u0 at *
              generalize w.heap.size = b0 at *
              have k0 := HL0.out.cel 0 _ rfl
              have k1 := HL0.out.cel 1 _ rfl
              have k2 := HL0.out.cel 2 _ rfl
              have k3 := HL0.out.cel 3 _ rfl
              have k4 := HL0.out.cel 4 _ rfl
              have k5 := HL0.out.cel 5 _ rfl
              have k6 := HL0.out.cel 6 _ rfl
              have k7 := HL0.out.cel 7 _ rfl
              have kl := HL0.out.lt
              go_wp2_with (first | (go_at_call 74; refine Calls.mono (HNM.out _) ?_; rintro e u1 ⟨rfl, rfl⟩) | (go_at_call 89; refine Calls.mono (HAS.out _) ?_; rintro e u1 ⟨rfl, rfl⟩) | (go_at_call 90; refine Calls.mono (HWI.out _) ?_; rintro e u1 ⟨rfl, rfl⟩))
              go_ret
              exact ⟨ret_bool E2.out.symm, HL0.out.bel⟩
            · skip
              cases q6 : decide (v.apart ≤ 20)
              · skip
                have E2 : Hid (V = false) := (show V = false by rw [E.out]; have r3 := of_decide_eq_true q3; have r4 := of_decide_eq_true q4; have r5 := of_decide_eq_true q5; have r6 := of_decide_eq_false q6; simp [*]; try omega)
                clear E
                go_enter Tryz.func77, Tryz.ntmps77
                go_upto_region 1 with fail
                generalize (w.alloc (.cells #[.string v.name, .int .i64 v.tenant, .int .i64 v.cpu, .int .i64 v.mem, .int .i64 v.zone, .int .i64 v.apart, .string v.node, .int .i64 v.epoch] 71)) = u0 at *
                generalize w.heap.size = b0 at *
                have k0 := HL0.out.cel 0 _ rfl
                have k1 := HL0.out.cel 1 _ rfl
                have k2 := HL0.out.cel 2 _ rfl
                have k3 := HL0.out.cel 3 _ rfl
                have k4 := HL0.out.cel 4 _ rfl
                have k5 := HL0.out.cel 5 _ rfl
                have k6 := HL0.out.cel 6 _ rfl
                have k7 := HL0.out.cel 7 _ rfl
                have kl := HL0.out.lt
                go_wp2_with (first | (go_at_call 74; refine Calls.mono (HNM.out _) ?_; rintro e u1 ⟨rfl, rfl⟩) | (go_at_call 89; refine Calls.mono (HAS.out _) ?_; rintro e u1 ⟨rfl, rfl⟩) | (go_at_call 90; refine Calls.mono (HWI.out _) ?_; rintro e u1 ⟨rfl, rfl⟩))
                go_ret
                exact ⟨ret_bool E2.out.symm, HL0.out.bel⟩
              · skip
                have E2 : Hid (V = true) := (show V = true by rw [E.out]; have r3 := of_decide_eq_true q3; have r4 := of_decide_eq_true q4; have r5 := of_decide_eq_true q5; have r6 := of_decide_eq_true q6; simp [*]; try omega)
                clear E
                go_enter Tryz.func77, Tryz.ntmps77
                go_upto_region 1 with fail
                generalize (w.alloc (.cells #[.string v.name, .int .i64 v.tenant, .int .i64 v.cpu, .int .i64 v.mem, .int .i64 v.zone, .int .i64 v.apart, .string v.node, .int .i64 v.epoch] 71)) = u0 at *
                generalize w.heap.size = b0 at *
                have k0 := HL0.out.cel 0 _ rfl
                have k1 := HL0.out.cel 1 _ rfl
                have k2 := HL0.out.cel 2 _ rfl
                have k3 := HL0.out.cel 3 _ rfl
                have k4 := HL0.out.cel 4 _ rfl
                have k5 := HL0.out.cel 5 _ rfl
                have k6 := HL0.out.cel 6 _ rfl
                have k7 := HL0.out.cel 7 _ rfl
                have kl := HL0.out.lt
                go_wp2_with (first | (go_at_call 74; refine Calls.mono (HNM.out _) ?_; rintro e u1 ⟨rfl, rfl⟩) | (go_at_call 89; refine Calls.mono (HAS.out _) ?_; rintro e u1 ⟨rfl, rfl⟩) | (go_at_call 90; refine Calls.mono (HWI.out _) ?_; rintro e u1 ⟨rfl, rfl⟩))
                go_ret
                exact ⟨ret_bool E2.out.symm, HL0.out.bel⟩
set_option maxRecDepth 100000 in
set_option maxHeartbeats 4000000 in
theorem l22IsVm_any (v : VMC) (n : Nat) (w : World) : Calls Tryz.prog 27 #[.agg #[.string v.name, .int .i64 v.tenant, .int .i64 v.cpu, .int .i64 v.mem, .int .i64 v.zone, .int .i64 v.apart, .string v.node, .int .i64 v.epoch], .int .i64 n] w fun e w' => e = .returned (.bool (vmB n v)) ∧ Below w.heap.size w w' := by
  have HNM : Hid (∀ u, Calls Tryz.prog 31 #[.string v.name] u fun e w' => e = .returned (.bool (nmB v.name)) ∧ w' = u) := fun u => l13Name_any _ u
  have HL0 : Hid (LG w (w.alloc (.cells #[.string v.name, .int .i64 v.tenant, .int .i64 v.cpu, .int .i64 v.mem, .int .i64 v.zone, .int .i64 v.apart, .string v.node, .int .i64 v.epoch] 71)) w.heap.size #[.string v.name, .int .i64 v.tenant, .int .i64 v.cpu, .int .i64 v.mem, .int .i64 v.zone, .int .i64 v.apart, .string v.node, .int .i64 v.epoch] 71) := LG.new w _ _
  have E : Hid (vmB n v = ((nmB v.name && decide (1 ≤ v.cpu) && decide (v.cpu ≤ 64) && decide (1 ≤ v.mem) && decide (v.mem ≤ 1000) && decide (0 ≤ v.tenant) && decide (v.tenant < n) && decide (0 ≤ v.zone) && decide (v.zone ≤ 20) && decide (0 ≤ v.apart) && decide (v.apart ≤ 20)))) := rfl
  generalize vmB n v = V at *
  generalize nmB v.name = NM at *
  cases NM
  · skip
    have E2 : Hid (V = false) := (show V = false by rw [E.out]; simp [*]; try omega)
    clear E
    go_enter Tryz.func27, Tryz.ntmps27
    go_upto_region 1 with fail
    generalize (w.alloc (.cells #[.string v.name, .int .i64 v.tenant, .int .i64 v.cpu, .int .i64 v.mem, .int .i64 v.zone, .int .i64 v.apart, .string v.node, .int .i64 v.epoch] 71)) = u0 at *
    generalize w.heap.size = b0 at *
    have k0 := HL0.out.cel 0 _ rfl
    have k1 := HL0.out.cel 1 _ rfl
    have k2 := HL0.out.cel 2 _ rfl
    have k3 := HL0.out.cel 3 _ rfl
    have k4 := HL0.out.cel 4 _ rfl
    have k5 := HL0.out.cel 5 _ rfl
    have k6 := HL0.out.cel 6 _ rfl
    have k7 := HL0.out.cel 7 _ rfl
    have kl := HL0.out.lt
    go_wp2_with (first | (go_at_call 31; refine Calls.mono (HNM.out _) ?_; rintro e u1 ⟨rfl, rfl⟩))
    go_ret
    exact ⟨ret_bool E2.out.symm, HL0.out.bel⟩
  · skip
    cases q1 : decide (0 ≤ v.tenant)
    · skip
      have E2 : Hid (V = false) := (show V = false by rw [E.out]; have r1 := of_decide_eq_false q1; simp [*]; try omega)
      clear E
      go_enter Tryz.func27, Tryz.ntmps27
      go_upto_region 1 with fail
      generalize (w.alloc (.cells #[.string v.name, .int .i64 v.tenant, .int .i64 v.cpu, .int .i64 v.mem, .int .i64 v.zone, .int .i64 v.apart, .string v.node, .int .i64 v.epoch] 71)) = u0 at *
      generalize w.heap.size = b0 at *
      have k0 := HL0.out.cel 0 _ rfl
      have k1 := HL0.out.cel 1 _ rfl
      have k2 := HL0.out.cel 2 _ rfl
      have k3 := HL0.out.cel 3 _ rfl
      have k4 := HL0.out.cel 4 _ rfl
      have k5 := HL0.out.cel 5 _ rfl
      have k6 := HL0.out.cel 6 _ rfl
      have k7 := HL0.out.cel 7 _ rfl
      have kl := HL0.out.lt
      go_wp2_with (first | (go_at_call 31; refine Calls.mono (HNM.out _) ?_; rintro e u1 ⟨rfl, rfl⟩))
      go_ret
      exact ⟨ret_bool E2.out.symm, HL0.out.bel⟩
    · skip
      cases q2 : decide (v.tenant < (n : Int))
      · skip
        have E2 : Hid (V = false) := (show V = false by rw [E.out]; have r1 := of_decide_eq_true q1; have r2 := of_decide_eq_false q2; simp [*]; try omega)
        clear E
        go_enter Tryz.func27, Tryz.ntmps27
        go_upto_region 1 with fail
        generalize (w.alloc (.cells #[.string v.name, .int .i64 v.tenant, .int .i64 v.cpu, .int .i64 v.mem, .int .i64 v.zone, .int .i64 v.apart, .string v.node, .int .i64 v.epoch] 71)) = u0 at *
        generalize w.heap.size = b0 at *
        have k0 := HL0.out.cel 0 _ rfl
        have k1 := HL0.out.cel 1 _ rfl
        have k2 := HL0.out.cel 2 _ rfl
        have k3 := HL0.out.cel 3 _ rfl
        have k4 := HL0.out.cel 4 _ rfl
        have k5 := HL0.out.cel 5 _ rfl
        have k6 := HL0.out.cel 6 _ rfl
        have k7 := HL0.out.cel 7 _ rfl
        have kl := HL0.out.lt
        go_wp2_with (first | (go_at_call 31; refine Calls.mono (HNM.out _) ?_; rintro e u1 ⟨rfl, rfl⟩))
        go_ret
        exact ⟨ret_bool E2.out.symm, HL0.out.bel⟩
      · skip
        cases q3 : decide (1 ≤ v.cpu)
        · skip
          have E2 : Hid (V = false) := (show V = false by rw [E.out]; have r1 := of_decide_eq_true q1; have r2 := of_decide_eq_true q2; have r3 := of_decide_eq_false q3; simp [*]; try omega)
          clear E
          go_enter Tryz.func27, Tryz.ntmps27
          go_upto_region 1 with fail
          generalize (w.alloc (.cells #[.string v.name, .int .i64 v.tenant, .int .i64 v.cpu, .int .i64 v.mem, .int .i64 v.zone, .int .i64 v.apart, .string v.node, .int .i64 v.epoch] 71)) = u0 at *
          generalize w.heap.size = b0 at *
          have k0 := HL0.out.cel 0 _ rfl
          have k1 := HL0.out.cel 1 _ rfl
          have k2 := HL0.out.cel 2 _ rfl
          have k3 := HL0.out.cel 3 _ rfl
          have k4 := HL0.out.cel 4 _ rfl
          have k5 := HL0.out.cel 5 _ rfl
          have k6 := HL0.out.cel 6 _ rfl
          have k7 := HL0.out.cel 7 _ rfl
          have kl := HL0.out.lt
          go_wp2_with (first | (go_at_call 31; refine Calls.mono (HNM.out _) ?_; rintro e u1 ⟨rfl, rfl⟩))
          go_ret
          exact ⟨ret_bool E2.out.symm, HL0.out.bel⟩
        · skip
          cases q4 : decide (v.cpu ≤ 64)
          · skip
            have E2 : Hid (V = false) := (show V = false by rw [E.out]; have r1 := of_decide_eq_true q1; have r2 := of_decide_eq_true q2; have r3 := of_decide_eq_true q3; have r4 := of_decide_eq_false q4; simp [*]; try omega)
            clear E
            go_enter Tryz.func27, Tryz.ntmps27
            go_upto_region 1 with fail
            generalize (w.alloc (.cells #[.string v.name, .int .i64 v.tenant, .int .i64 v.cpu, .int .i64 v.mem, .int .i64 v.zone, .int .i64 v.apart, .string v.node, .int .i64 v.epoch] 71)) = u0 at *
            generalize w.heap.size = b0 at *
            have k0 := HL0.out.cel 0 _ rfl
            have k1 := HL0.out.cel 1 _ rfl
            have k2 := HL0.out.cel 2 _ rfl
            have k3 := HL0.out.cel 3 _ rfl
            have k4 := HL0.out.cel 4 _ rfl
            have k5 := HL0.out.cel 5 _ rfl
            have k6 := HL0.out.cel 6 _ rfl
            have k7 := HL0.out.cel 7 _ rfl
            have kl := HL0.out.lt
            go_wp2_with (first | (go_at_call 31; refine Calls.mono (HNM.out _) ?_; rintro e u1 ⟨rfl, rfl⟩))
            go_ret
            exact ⟨ret_bool E2.out.symm, HL0.out.bel⟩
          · skip
            cases q5 : decide (1 ≤ v.mem)
            · skip
              have E2 : Hid (V = false) := (show V = false by rw [E.out]; have r1 := of_decide_eq_true q1; have r2 := of_decide_eq_true q2; have r3 := of_decide_eq_true q3; have r4 := of_decide_eq_true q4; have r5 := of_decide_eq_false q5; simp [*]; try omega)
              clear E
              go_enter Tryz.func27, Tryz.ntmps27
              go_upto_region 1 with fail
              generalize (w.alloc (.cells #[.string v.name, .int .i64 v.tenant, .int .i64 v.cpu, .int .i64 v.mem, .int .i64 v.zone, .int .i64 v.apart, .string v.node, .int .i64 v.epoch] 71)) = u0 at *
              generalize w.heap.size = b0 at *
              have k0 := HL0.out.cel 0 _ rfl
              have k1 := HL0.out.cel 1 _ rfl
              have k2 := HL0.out.cel 2 _ rfl
              have k3 := HL0.out.cel 3 _ rfl
              have k4 := HL0.out.cel 4 _ rfl
              have k5 := HL0.out.cel 5 _ rfl
              have k6 := HL0.out.cel 6 _ rfl
              have k7 := HL0.out.cel 7 _ rfl
              have kl := HL0.out.lt
              go_wp2_with (first | (go_at_call 31; refine Calls.mono (HNM.out _) ?_; rintro e u1 ⟨rfl, rfl⟩))
              go_ret
              exact ⟨ret_bool E2.out.symm, HL0.out.bel⟩
            · skip
              cases q6 : decide (v.mem ≤ 1000)
              · skip
                have E2 : Hid (V = false) := (show V = false by rw [E.out]; have r1 := of_decide_eq_true q1; have r2 := of_decide_eq_true q2; have r3 := of_decide_eq_true q3; have r4 := of_decide_eq_true q4; have r5 := of_decide_eq_true q5; have r6 := of_decide_eq_false q6; simp [*]; try omega)
                clear E
                go_enter Tryz.func27, Tryz.ntmps27
                go_upto_region 1 with fail
                generalize (w.alloc (.cells #[.string v.name, .int .i64 v.tenant, .int .i64 v.cpu, .int .i64 v.mem, .int .i64 v.zone, .int .i64 v.apart, .string v.node, .int .i64 v.epoch] 71)) = u0 at *
                generalize w.heap.size = b0 at *
                have k0 := HL0.out.cel 0 _ rfl
                have k1 := HL0.out.cel 1 _ rfl
                have k2 := HL0.out.cel 2 _ rfl
                have k3 := HL0.out.cel 3 _ rfl
                have k4 := HL0.out.cel 4 _ rfl
                have k5 := HL0.out.cel 5 _ rfl
                have k6 := HL0.out.cel 6 _ rfl
                have k7 := HL0.out.cel 7 _ rfl
                have kl := HL0.out.lt
                go_wp2_with (first | (go_at_call 31; refine Calls.mono (HNM.out _) ?_; rintro e u1 ⟨rfl, rfl⟩))
                go_ret
                exact ⟨ret_bool E2.out.symm, HL0.out.bel⟩
              · skip
                cases q7 : decide (0 ≤ v.zone)
                · skip
                  have E2 : Hid (V = false) := (show V = false by rw [E.out]; have r1 := of_decide_eq_true q1; have r2 := of_decide_eq_true q2; have r3 := of_decide_eq_true q3; have r4 := of_decide_eq_true q4; have r5 := of_decide_eq_true q5; have r6 := of_decide_eq_true q6; have r7 := of_decide_eq_false q7; simp [*]; try omega)
                  clear E
                  go_enter Tryz.func27, Tryz.ntmps27
                  go_upto_region 1 with fail
                  generalize (w.alloc (.cells #[.string v.name, .int .i64 v.tenant, .int .i64 v.cpu, .int .i64 v.mem, .int .i64 v.zone, .int .i64 v.apart, .string v.node, .int .i64 v.epoch] 71)) = u0 at *
                  generalize w.heap.size = b0 at *
                  have k0 := HL0.out.cel 0 _ rfl
                  have k1 := HL0.out.cel 1 _ rfl
                  have k2 := HL0.out.cel 2 _ rfl
                  have k3 := HL0.out.cel 3 _ rfl
                  have k4 := HL0.out.cel 4 _ rfl
                  have k5 := HL0.out.cel 5 _ rfl
                  have k6 := HL0.out.cel 6 _ rfl
                  have k7 := HL0.out.cel 7 _ rfl
                  have kl := HL0.out.lt
                  go_wp2_with (first | (go_at_call 31; refine Calls.mono (HNM.out _) ?_; rintro e u1 ⟨rfl, rfl⟩))
                  go_ret
                  exact ⟨ret_bool E2.out.symm, HL0.out.bel⟩
                · skip
                  cases q8 : decide (v.zone ≤ 20)
                  · skip
                    have E2 : Hid (V = false) := (show V = false by rw [E.out]; have r1 := of_decide_eq_true q1; have r2 := of_decide_eq_true q2; have r3 := of_decide_eq_true q3; have r4 := of_decide_eq_true q4; have r5 := of_decide_eq_true q5; have r6 := of_decide_eq_true q6; have r7 := of_decide_eq_true q7; have r8 := of_decide_eq_false q8; simp [*]; try omega)
                    clear E
                    go_enter Tryz.func27, Tryz.ntmps27
                    go_upto_region 1 with fail
                    generalize (w.alloc (.cells #[.string v.name, .int .i64 v.tenant, .int .i64 v.cpu, .int .i64 v.mem, .int .i64 v.zone, .int .i64 v.apart, .string v.node, .int .i64 v.epoch] 71)) = u0 at *
                    generalize w.heap.size = b0 at *
                    have k0 := HL0.out.cel 0 _ rfl
                    have k1 := HL0.out.cel 1 _ rfl
                    have k2 := HL0.out.cel 2 _ rfl
                    have k3 := HL0.out.cel 3 _ rfl
                    have k4 := HL0.out.cel 4 _ rfl
                    have k5 := HL0.out.cel 5 _ rfl
                    have k6 := HL0.out.cel 6 _ rfl
                    have k7 := HL0.out.cel 7 _ rfl
                    have kl := HL0.out.lt
                    go_wp2_with (first | (go_at_call 31; refine Calls.mono (HNM.out _) ?_; rintro e u1 ⟨rfl, rfl⟩))
                    go_ret
                    exact ⟨ret_bool E2.out.symm, HL0.out.bel⟩
                  · skip
                    cases q9 : decide (0 ≤ v.apart)
                    · skip
                      have E2 : Hid (V = false) := (show V = false by rw [E.out]; have r1 := of_decide_eq_true q1; have r2 := of_decide_eq_true q2; have r3 := of_decide_eq_true q3; have r4 := of_decide_eq_true q4; have r5 := of_decide_eq_true q5; have r6 := of_decide_eq_true q6; have r7 := of_decide_eq_true q7; have r8 := of_decide_eq_true q8; have r9 := of_decide_eq_false q9; simp [*]; try omega)
                      clear E
                      go_enter Tryz.func27, Tryz.ntmps27
                      go_upto_region 1 with fail
                      generalize (w.alloc (.cells #[.string v.name, .int .i64 v.tenant, .int .i64 v.cpu, .int .i64 v.mem, .int .i64 v.zone, .int .i64 v.apart, .string v.node, .int .i64 v.epoch] 71)) = u0 at *
                      generalize w.heap.size = b0 at *
                      have k0 := HL0.out.cel 0 _ rfl
                      have k1 := HL0.out.cel 1 _ rfl
                      have k2 := HL0.out.cel 2 _ rfl
                      have k3 := HL0.out.cel 3 _ rfl
                      have k4 := HL0.out.cel 4 _ rfl
                      have k5 := HL0.out.cel 5 _ rfl
                      have k6 := HL0.out.cel 6 _ rfl
                      have k7 := HL0.out.cel 7 _ rfl
                      have kl := HL0.out.lt
                      go_wp2_with (first | (go_at_call 31; refine Calls.mono (HNM.out _) ?_; rintro e u1 ⟨rfl, rfl⟩))
                      go_ret
                      exact ⟨ret_bool E2.out.symm, HL0.out.bel⟩
                    · skip
                      cases q10 : decide (v.apart ≤ 20)
                      · skip
                        have E2 : Hid (V = false) := (show V = false by rw [E.out]; have r1 := of_decide_eq_true q1; have r2 := of_decide_eq_true q2; have r3 := of_decide_eq_true q3; have r4 := of_decide_eq_true q4; have r5 := of_decide_eq_true q5; have r6 := of_decide_eq_true q6; have r7 := of_decide_eq_true q7; have r8 := of_decide_eq_true q8; have r9 := of_decide_eq_true q9; have r10 := of_decide_eq_false q10; simp [*]; try omega)
                        clear E
                        go_enter Tryz.func27, Tryz.ntmps27
                        go_upto_region 1 with fail
                        generalize (w.alloc (.cells #[.string v.name, .int .i64 v.tenant, .int .i64 v.cpu, .int .i64 v.mem, .int .i64 v.zone, .int .i64 v.apart, .string v.node, .int .i64 v.epoch] 71)) = u0 at *
                        generalize w.heap.size = b0 at *
                        have k0 := HL0.out.cel 0 _ rfl
                        have k1 := HL0.out.cel 1 _ rfl
                        have k2 := HL0.out.cel 2 _ rfl
                        have k3 := HL0.out.cel 3 _ rfl
                        have k4 := HL0.out.cel 4 _ rfl
                        have k5 := HL0.out.cel 5 _ rfl
                        have k6 := HL0.out.cel 6 _ rfl
                        have k7 := HL0.out.cel 7 _ rfl
                        have kl := HL0.out.lt
                        go_wp2_with (first | (go_at_call 31; refine Calls.mono (HNM.out _) ?_; rintro e u1 ⟨rfl, rfl⟩))
                        go_ret
                        exact ⟨ret_bool E2.out.symm, HL0.out.bel⟩
                      · skip
                        have E2 : Hid (V = true) := (show V = true by rw [E.out]; have r1 := of_decide_eq_true q1; have r2 := of_decide_eq_true q2; have r3 := of_decide_eq_true q3; have r4 := of_decide_eq_true q4; have r5 := of_decide_eq_true q5; have r6 := of_decide_eq_true q6; have r7 := of_decide_eq_true q7; have r8 := of_decide_eq_true q8; have r9 := of_decide_eq_true q9; have r10 := of_decide_eq_true q10; simp [*]; try omega)
                        clear E
                        go_enter Tryz.func27, Tryz.ntmps27
                        go_upto_region 1 with fail
                        generalize (w.alloc (.cells #[.string v.name, .int .i64 v.tenant, .int .i64 v.cpu, .int .i64 v.mem, .int .i64 v.zone, .int .i64 v.apart, .string v.node, .int .i64 v.epoch] 71)) = u0 at *
                        generalize w.heap.size = b0 at *
                        have k0 := HL0.out.cel 0 _ rfl
                        have k1 := HL0.out.cel 1 _ rfl
                        have k2 := HL0.out.cel 2 _ rfl
                        have k3 := HL0.out.cel 3 _ rfl
                        have k4 := HL0.out.cel 4 _ rfl
                        have k5 := HL0.out.cel 5 _ rfl
                        have k6 := HL0.out.cel 6 _ rfl
                        have k7 := HL0.out.cel 7 _ rfl
                        have kl := HL0.out.lt
                        go_wp2_with (first | (go_at_call 31; refine Calls.mono (HNM.out _) ?_; rintro e u1 ⟨rfl, rfl⟩))
                        go_ret
                        exact ⟨ret_bool E2.out.symm, HL0.out.bel⟩
end Go.Proofs.YtalpcjclahkgnaaGreat
