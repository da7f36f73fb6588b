import Derived.Test.YtniaohflkopncaaIdxKS
import Derived.Test.YtniaohflkopncaaMFa
import Derived.Test.YtniaohflkopncaaLG
import Derived.Deep.DeepCutAuto
namespace Go.Proofs.Ytniaohflkopncaa
open Go.ChangeShapes Go.WideShapes Go.ChangeAt Go.RowKit

def ksB (z : KS) : Bool := isW z.salt && ((z.key.size : Int) == 16) && ((z.tag.size : Int) == 8)
/-- 1 to 4 slots, and a check of 8 bytes. -/
def vhB (zs : List KS) (c : ByteArray) : Bool := decide ((zs.length : Int) < 1) || decide (4 < (zs.length : Int)) || ((c.size : Int) != 8)
def vfB (zs : List KS) (c : ByteArray) : Bool := !vhB zs c && zs.all ksB
set_option maxRecDepth 100000 in
set_option maxHeartbeats 4000000 in
theorem ksRight_any (z : KS) (w : World) : Calls Try.prog 69 #[.agg #[.int .i64 z.salt, .string z.key, .string z.tag]] w fun e w' => e = .returned (.bool (ksB z)) ∧ Below w.heap.size w w' := by
  have HW : Hid (∀ u, Calls Try.prog 25 #[.int .i64 z.salt] u fun e w' => e = .returned (.bool (isW z.salt)) ∧ w' = u) := fun u => implIsWord_any z.salt u
  have E : Hid (ksB z = (isW z.salt && ((z.key.size : Int) == 16) && ((z.tag.size : Int) == 8))) := rfl
  generalize isW z.salt = b1 at *
  cases b1
  · go_enter Try.func69, Try.ntmps69
    go_wp2_with (go_at_call 25; refine Calls.mono (HW.out _) ?_; rintro e u1 ⟨rfl, hw1⟩; rw [hw1]; clear hw1)
    go_ret
    exact ⟨ret_bool (by rw [E.out]; rfl), (Below.refl _ _).alloc (Nat.le_refl _) _⟩
  · cases h2 : ((z.key.size : Int) == 16)
    · rw [h2] at E
      go_enter Try.func69, Try.ntmps69
      go_wp2_with (go_at_call 25; refine Calls.mono (HW.out _) ?_; rintro e u1 ⟨rfl, hw1⟩; rw [hw1]; clear hw1)
      go_ret
      exact ⟨ret_bool (by rw [E.out]; rfl), (Below.refl _ _).alloc (Nat.le_refl _) _⟩
    · rw [h2] at E
      go_enter Try.func69, Try.ntmps69
      go_wp2_with (go_at_call 25; refine Calls.mono (HW.out _) ?_; rintro e u1 ⟨rfl, hw1⟩; rw [hw1]; clear hw1)
      go_ret
      exact ⟨ret_bool (by rw [E.out]; rfl), (Below.refl _ _).alloc (Nat.le_refl _) _⟩
set_option maxRecDepth 100000 in
set_option maxHeartbeats 4000000 in
theorem ksFn_any (z : KS) (w : World) : Calls Try.prog 68 #[.agg #[.int .i64 z.salt, .string z.key, .string z.tag]] w fun e w' => e = .returned (.bool (!ksB z)) ∧ Below w.heap.size w w' := by
  have HW : Hid (∀ u, Calls Try.prog 69 #[.agg #[.int .i64 z.salt, .string z.key, .string z.tag]] u fun e w' => e = .returned (.bool (ksB z)) ∧ Below u.heap.size u w') := fun u => ksRight_any z u
  have HL0 : Hid (LG w (w.alloc (.cells #[.int .i64 z.salt, .string z.key, .string z.tag] 70)) w.heap.size #[.int .i64 z.salt, .string z.key, .string z.tag] 70) := LG.new w _ _
  generalize ksB z = b at *
  go_enter Try.func68, Try.ntmps68
  go_wp2_with (go_at_call 69; refine Calls.mono (HW.out _) ?_; rintro e u1 ⟨rfl, hb1⟩; have HL1 : Hid (LG w u1 w.heap.size _ _) := HL0.out.step hb1; clear hb1)
  go_ret
  exact ⟨rfl, HL1.out.bel⟩
theorem cfV : ∀ (xs : Array Value) (w' : World), (callFunc 68 xs).run Try.prog w' = .ok (.enter 68 xs) w' := by
  intro xs w'
  kernel_rfl
theorem vhB_cases {zs : List KS} {c : ByteArray} (h : vhB zs c = true) : decide ((zs.length : Int) < 1) = true ∨ decide ((zs.length : Int) < 1) = false ∧ decide (4 < (zs.length : Int)) = true ∨ decide ((zs.length : Int) < 1) = false ∧ decide (4 < (zs.length : Int)) = false ∧ ((c.size : Int) != 8) = true := by
  simp only [vhB] at h
  revert h
  cases decide ((zs.length : Int) < 1) <;> cases decide (4 < (zs.length : Int)) <;> cases ((c.size : Int) != 8) <;> simp
theorem vhB_no {zs : List KS} {c : ByteArray} (h : vhB zs c = false) : decide ((zs.length : Int) < 1) = false ∧ decide (4 < (zs.length : Int)) = false ∧ ((c.size : Int) != 8) = false := by
  simp only [vhB, Bool.or_eq_false_iff] at h
  exact ⟨h.1.1, h.1.2, h.2⟩
set_option maxRecDepth 100000 in
set_option maxHeartbeats 4000000 in
theorem volRight_any {w : World} {v : Value} {zs : List KS} (h : KSrow w v zs) (hl : zs.length ≤ 1048576) (c : ByteArray) :
    Calls Try.prog 33 #[.agg #[v, .string c]] w fun e w' => e = .returned (.bool (vfB zs c)) ∧ Below w.heap.size w w' := by
  have HR : Hid (KSrow w v zs) := h
  obtain ⟨ao, cap, rfl⟩ := h.sl
  clear h
  have HC : Hid (∀ u, Aft w u → Calls Try.prog 67 #[.slice ao zs.length cap, .func (.func 68) #[] #[]] u fun r w' => r = .returned (.bool (zs.any fun x => !ksB x)) ∧ Below u.heap.size u w') := fun u hu => containsKS_any (HR.out.below hu.out) hl _ #[] (fun x => !ksB x) cfV (fun x w' _ => ksFn_any x w')
  have HL0 : Hid (LG w (w.alloc (.cells #[.slice ao zs.length cap, .string c] 27)) w.heap.size #[.slice ao zs.length cap, .string c] 27) := LG.new w _ _
  cases hv : vhB zs c
  · obtain ⟨q1, q2, q3⟩ := vhB_no hv
    have E : Hid (vfB zs c = !(zs.any fun x => !ksB x)) := (show vfB zs c = !(zs.any fun x => !ksB x) by unfold vfB; rw [hv, any_not]; rfl)
    generalize (zs.any fun x => !ksB x) = a at *
    clear hv
    go_enter Try.func33, Try.ntmps33
    go_wp2_with (go_at_call 67; refine Calls.mono (HC.out _ HL0.out.aft) ?_; rintro e u1 ⟨rfl, hb1⟩; have HL1 : Hid (LG w u1 w.heap.size _ _) := HL0.out.step hb1; clear hb1)
    go_ret
    exact ⟨ret_bool E.out.symm, HL1.out.bel⟩
  · have E : Hid (vfB zs c = false) := (show vfB zs c = false by unfold vfB; rw [hv]; rfl)
    rcases vhB_cases hv with q1 | ⟨q1, q2⟩ | ⟨q1, q2, q3⟩
    all_goals clear hv
    all_goals go_enter Try.func33, Try.ntmps33
    all_goals go_wp2
    all_goals go_ret
    all_goals exact ⟨ret_bool E.out.symm, HL0.out.bel⟩
def vfV (zs : List KS) (c : ByteArray) : Int := if vfB zs c = true then 0 else 1
theorem ksB_no {z : KS} (h : ksB z = false) : isW z.salt = false ∨ isW z.salt = true ∧ ((z.key.size : Int) != 16) = true ∨ isW z.salt = true ∧ ((z.key.size : Int) != 16) = false ∧ ((z.tag.size : Int) != 8) = true := by
  simp only [ksB, bne] at h ⊢
  revert h
  cases isW z.salt <;> cases ((z.key.size : Int) == 16) <;> cases ((z.tag.size : Int) == 8) <;> simp
theorem ksB_yes {z : KS} (h : ksB z = true) : isW z.salt = true ∧ ((z.key.size : Int) != 16) = false ∧ ((z.tag.size : Int) != 8) = false := by
  simp only [ksB, bne] at h ⊢
  revert h
  cases isW z.salt <;> cases ((z.key.size : Int) == 16) <;> cases ((z.tag.size : Int) == 8) <;> simp
set_option maxRecDepth 100000 in
set_option maxHeartbeats 4000000 in
theorem specVF_any {w : World} {v : Value} {zs : List KS} (h : KSrow w v zs) (c : ByteArray) :
    Calls Try.prog 31 #[.agg #[v, .string c]] w fun e w' => e = .returned (.int .i64 (vfV zs c)) ∧ Below w.heap.size w w' := by
  have HR : Hid (KSrow w v zs) := h
  obtain ⟨ao, cap, rfl⟩ := h.sl
  clear h
  have HL0 : Hid (LG w (w.alloc (.cells #[.slice ao zs.length cap, .string c] 27)) w.heap.size #[.slice ao zs.length cap, .string c] 27) := LG.new w _ _
  cases hv : vhB zs c
  · obtain ⟨q1, q2, q3⟩ := vhB_no hv
    have E : Hid (vfV zs c = if zs.all ksB = true then 0 else 1) := (show vfV zs c = _ by unfold vfV vfB; rw [hv]; simp)
    have hln : zs.length ≤ 4 := by have := of_decide_eq_false q2; omega
    clear hv
    go_enter Try.func31, Try.ntmps31
    go_upto_region 1 with fail
    generalize (w.alloc (.cells #[.slice ao zs.length cap, .string c] 27)) = u0 at *
    generalize w.heap.size = b0 at *
    have k0 := HL0.out.cel 0 _ rfl
    have k1 := HL0.out.cel 1 _ rfl
    have kl := HL0.out.lt
    go_wp2
    clear k0 k1 kl q1 q2 q3
    go_loopw [3] (fun i wr => ∃ k : Nat, k ≤ zs.length ∧ i = .int .i64 k ∧ (zs.take k).all ksB = true ∧ LG w wr b0 #[.slice ao zs.length cap, .string c] 27) (fun i _ => zs.length - (intOf i).toNat)
    case atStart => exact ⟨0, Nat.zero_le _, rfl, rfl, HL0.out⟩
    case round =>
      obtain ⟨k, hk, rfl, hall, hlg⟩ := hrel
      have HLG : Hid (LG w wr b0 #[.slice ao zs.length cap, .string c] 27) := hlg
      have HALL : Hid ((zs.take k).all ksB = true) := hall
      have k0 := hlg.cel 0 _ rfl
      have kl := hlg.lt
      clear hlg hall
      by_cases hlt : k < zs.length
      · obtain ⟨g, o, cap2, hv, _, hg, hc⟩ := HR.out.resolve_left (fun h => by rw [h.1] at hlt; simp at hlt)
        injection hv with hv1 hv2 hv3
        subst hv1 hv3
        obtain ⟨d0, d1, d2⟩ := hc.below HLG.out.bel hg k hlt
        have hgw : g < wr.heap.size := Nat.lt_of_lt_of_le hg HLG.out.bel.size
        have HT : Hid ((zs.take (k + 1)).all ksB = ((zs.take k).all ksB && ksB zs[k])) := all_take hlt
        have HBAD : Hid (ksB zs[k] = false → zs.all ksB = false) := fun hh => all_bad hlt hh
        generalize zs[k] = z at *
        have hk0 : (0 : Int) ≤ (k : Int) := by omega
        have hk1 : (k : Int) < (zs.length : Int) := by omega
        have HW : Hid (∀ u, Calls Try.prog 28 #[.int .i64 z.salt] u fun e w' => e = .returned (.bool (isW z.salt)) ∧ w' = u) := fun u => specIsWord_any z.salt u
        have HLN : Hid (LG w (wr.alloc (.cells #[.int .i64 z.salt, .string z.key, .string z.tag] 70)) b0 #[.slice (some ⟨g, o, none⟩) zs.length cap, .string c] 27) := HLG.out.step (bx1 _ _)
        clear hc
        cases hz : ksB z
        · have E2 : Hid (vfV zs c = 1) := (show vfV zs c = 1 by rw [E.out, HBAD.out hz]; rfl)
          rcases ksB_no hz with p1 | ⟨p1, p2⟩ | ⟨p1, p2, p3⟩
          all_goals rw [p1] at HW
          all_goals clear hz HBAD HT p1
          all_goals go_wp2_with (go_at_call 28; refine Calls.mono (HW.out _) ?_; rintro e u1 ⟨rfl, hw1⟩; rw [hw1]; clear hw1)
          all_goals go_ret
          all_goals exact ⟨ret_int E2.out.symm, HLN.out.bel⟩
        · obtain ⟨p1, p2, p3⟩ := ksB_yes hz
          rw [p1] at HW
          have HT2 : Hid ((zs.take (k + 1)).all ksB = true) := (show (zs.take (k + 1)).all ksB = true by rw [HT.out, HALL.out, hz]; rfl)
          clear hz HBAD HT p1
          go_wp2_with (go_at_call 28; refine Calls.mono (HW.out _) ?_; rintro e u1 ⟨rfl, hw1⟩; rw [hw1]; clear hw1)
          exact ⟨⟨k + 1, hlt, by go_num, HT2.out, HLN.out⟩, by simp [intOf]; omega⟩
      · obtain rfl : k = zs.length := by omega
        have E2 : Hid (vfV zs c = 0) := (show vfV zs c = 0 by
          have := HALL.out
          rw [List.take_length] at this
          rw [E.out, this]
          rfl)
        go_wp2
        go_ret
        exact ⟨ret_int E2.out.symm, HLG.out.bel⟩
  · have E : Hid (vfV zs c = 1) := (show vfV zs c = 1 by unfold vfV vfB; rw [hv]; rfl)
    rcases vhB_cases hv with q1 | ⟨q1, q2⟩ | ⟨q1, q2, q3⟩
    all_goals clear hv
    all_goals go_enter Try.func31, Try.ntmps31
    all_goals go_wp2
    all_goals go_ret
    all_goals exact ⟨ret_int E.out.symm, HL0.out.bel⟩
end Go.Proofs.Ytniaohflkopncaa
