import Derived.Test.YtcglpigmellfcaaVf1
namespace Go.Proofs.Ytcglpigmellfcaa
open Go.ChangeShapes Go.WideShapes Go.ChangeAt Go.RowKit

set_option maxRecDepth 100000 in
set_option maxHeartbeats 4000000 in
theorem vcFn_any {w : World} {bn : Nat} {P : Int} (c1 : w.cell? ⟨bn, 0, none⟩ = some (.int .i64 P)) (l1 : bn < w.heap.size) (h0 : 1 ≤ P) (h1 : P ≤ 8) (z : VC) : Calls Try.prog 41 #[.agg #[.int .i64 z.guest, .int .i64 z.weight, .int .i64 z.cap, .int .i64 z.mask, .bool z.awake, .int .i64 z.credit, .int .i64 z.used, .int .i64 z.ran, .int .i64 z.stolen], .pointer (some ⟨bn, 0, none⟩)] w fun e w' => e = .returned (.bool (!vcB P z)) ∧ Below w.heap.size w w' := by
  have HL0 : Hid (LG w (w.alloc (.cells #[.int .i64 z.guest, .int .i64 z.weight, .int .i64 z.cap, .int .i64 z.mask, .bool z.awake, .int .i64 z.credit, .int .i64 z.used, .int .i64 z.ran, .int .i64 z.stolen] 60)) w.heap.size #[.int .i64 z.guest, .int .i64 z.weight, .int .i64 z.cap, .int .i64 z.mask, .bool z.awake, .int .i64 z.credit, .int .i64 z.used, .int .i64 z.ran, .int .i64 z.stolen] 60) := LG.new w _ _
  have d1 : (w.alloc (.cells #[.int .i64 z.guest, .int .i64 z.weight, .int .i64 z.cap, .int .i64 z.mask, .bool z.awake, .int .i64 z.credit, .int .i64 z.used, .int .i64 z.ran, .int .i64 z.stolen] 60)).cell? ⟨bn, 0, none⟩ = some (.int .i64 P) := ((bx1 _ _).cell (p := ⟨bn, 0, none⟩) l1).trans c1
  have m1 : bn < (w.alloc (.cells #[.int .i64 z.guest, .int .i64 z.weight, .int .i64 z.cap, .int .i64 z.mask, .bool z.awake, .int .i64 z.credit, .int .i64 z.used, .int .i64 z.ran, .int .i64 z.stolen] 60)).heap.size := by simp; omega
  have HV : Hid (∀ u, Calls Try.prog 42 #[.agg #[.int .i64 z.guest, .int .i64 z.weight, .int .i64 z.cap, .int .i64 z.mask, .bool z.awake, .int .i64 z.credit, .int .i64 z.used, .int .i64 z.ran, .int .i64 z.stolen], .int .i64 P] u fun e w' => e = .returned (.bool (vcB P z)) ∧ Below u.heap.size u w') := fun u => vcRight_any P h0 h1 z u
  generalize vcB P z = V at *
  clear c1 l1 h0 h1
  go_enter Try.func41, Try.ntmps41
  go_upto_region 1 with fail
  generalize (w.alloc (.cells #[.int .i64 z.guest, .int .i64 z.weight, .int .i64 z.cap, .int .i64 z.mask, .bool z.awake, .int .i64 z.credit, .int .i64 z.used, .int .i64 z.ran, .int .i64 z.stolen] 60)) = u0 at *
  generalize w.heap.size = b0 at *
  have k0 := HL0.out.cel 0 _ rfl
  have k1 := HL0.out.cel 1 _ rfl
  have k2 := HL0.out.cel 2 _ rfl
  have k3 := HL0.out.cel 3 _ rfl
  have k4 := HL0.out.cel 4 _ rfl
  have k5 := HL0.out.cel 5 _ rfl
  have k6 := HL0.out.cel 6 _ rfl
  have k7 := HL0.out.cel 7 _ rfl
  have k8 := HL0.out.cel 8 _ rfl
  have kl := HL0.out.lt
  go_wp2_with (go_at_call 42; refine Calls.mono (HV.out _) ?_; rintro e u1 ⟨rfl, hb1⟩; have HL1 : Hid (LG w u1 b0 _ _) := HL0.out.step hb1; clear hb1)
  go_ret
  exact ⟨rfl, HL1.out.bel⟩
theorem cfVF : ∀ (xs : Array Value) (w' : World), (callFunc 41 xs).run Try.prog w' = .ok (.enter 41 xs) w' := by
  intro xs w'
  kernel_rfl
def vfB (P : Int) (zs : List VC) : Bool := decide (1 ≤ P) && decide (P ≤ 8) && decide ((zs.length : Int) ≤ 16) && zs.all (vcB P)
def vfV (P : Int) (zs : List VC) : Int := if vfB P zs = true then 0 else 1
set_option maxRecDepth 100000 in
set_option maxHeartbeats 4000000 in
theorem implVF_any {w : World} {v : Value} {zs : List VC} (h : VCrow w v zs) (hl : zs.length ≤ 1048576) (P : Int) :
    Calls Try.prog 12 #[v, .int .i64 P] w fun e w' => e = .returned (.int .i64 (vfV P zs)) ∧ Below w.heap.size w w' := by
  have HR : Hid (VCrow w v zs) := h
  obtain ⟨ao, cap, rfl⟩ := h.sl
  clear h
  have HL0 : Hid (LG w (w.alloc (.cells #[.int .i64 P] 2)) w.heap.size #[.int .i64 P] 2) := LG.new w _ _
  cases q0 : decide (P < 1)
  rotate_left
  · have E : Hid (vfV P zs = 1) := (show vfV P zs = 1 by have := of_decide_eq_true q0; have e : decide (1 ≤ P) = false := decide_eq_false (by omega); unfold vfV vfB; rw [e]; rfl)
    go_enter Try.func12, Try.ntmps12
    go_wp2
    go_ret
    exact ⟨ret_int E.out.symm, HL0.out.bel⟩
  cases q1 : decide (8 < P)
  rotate_left
  · have E : Hid (vfV P zs = 1) := (show vfV P zs = 1 by have := of_decide_eq_true q1; have e : decide (P ≤ 8) = false := decide_eq_false (by omega); unfold vfV vfB; rw [e]; simp)
    go_enter Try.func12, Try.ntmps12
    go_wp2
    go_ret
    exact ⟨ret_int E.out.symm, HL0.out.bel⟩
  cases q2 : decide (16 < (zs.length : Int))
  rotate_left
  · have E : Hid (vfV P zs = 1) := (show vfV P zs = 1 by have := of_decide_eq_true q2; have e : decide ((zs.length : Int) ≤ 16) = false := decide_eq_false (by omega); unfold vfV vfB; rw [e]; simp)
    go_enter Try.func12, Try.ntmps12
    go_wp2
    go_ret
    exact ⟨ret_int E.out.symm, HL0.out.bel⟩
  have r0 : 1 ≤ P := by have := of_decide_eq_false q0; omega
  have r1 : P ≤ 8 := by have := of_decide_eq_false q1; omega
  have r2 : (zs.length : Int) ≤ 16 := by have := of_decide_eq_false q2; omega
  have HC : Hid (∀ u, LG w u w.heap.size #[.int .i64 P] 2 → Calls Try.prog 40 #[.slice ao zs.length cap, .func (.func 41) #[] #[.pointer (some ⟨w.heap.size, 0, none⟩)]] u fun r w' => r = .returned (.bool (zs.any fun x => !vcB P x)) ∧ Below u.heap.size u w') := fun u hu => containsVC_any (HR.out.below hu.bel) hl _ #[.pointer (some ⟨w.heap.size, 0, none⟩)] (fun x => !vcB P x) cfVF (fun x w' hb => vcFn_any ((hb.cell (p := ⟨w.heap.size, 0, none⟩) hu.lt).trans (hu.cel 0 _ rfl)) (Nat.lt_of_lt_of_le hu.lt hb.size) r0 r1 x)
  have E : Hid (vfV P zs = if (zs.any fun x => !vcB P x) = true then 1 else 0) := (show vfV P zs = _ by
    have e : vfB P zs = zs.all (vcB P) := by unfold vfB; rw [decide_eq_true r0, decide_eq_true r1, decide_eq_true r2]; rfl
    have e2 := any_not zs (vcB P)
    unfold vfV
    rw [e, ← e2]
    cases (zs.any fun x => !vcB P x) <;> rfl)
  generalize (zs.any fun x => !vcB P x) = a at *
  clear r0 r1 r2
  cases a
  all_goals go_enter Try.func12, Try.ntmps12
  all_goals go_upto_region 1 with fail
  all_goals generalize (w.alloc (.cells #[.int .i64 P] 2)) = u0 at *
  all_goals generalize w.heap.size = b0 at *
  all_goals have k0 := HL0.out.cel 0 _ rfl
  all_goals have kl := HL0.out.lt
  all_goals go_wp2_with (go_at_call 40; refine Calls.mono (HC.out _ HL0.out) ?_; rintro e u1 ⟨rfl, hb1⟩; have HL1 : Hid (LG w u1 b0 _ _) := HL0.out.step hb1; clear hb1)
  all_goals go_ret
  all_goals exact ⟨ret_int E.out.symm, HL1.out.bel⟩
end Go.Proofs.Ytcglpigmellfcaa
