import Derived.Test.YtpggbbdfbnocfaaFi1
import Derived.Test.YtpggbbdfbnocfaaMFa
import Derived.Test.YtpggbbdfbnocfaaQu1
namespace Go.Proofs.Ytpggbbdfbnocfaa
open Go.ChangeShapes Go.WideShapes Go.ChangeAt Go.RowKit

def prB (p : Int) : Bool := p == 1 || p == 6 || p == 17
def poB (p : Int) : Bool := decide (0 ≤ p) && decide (p ≤ 65535)
def opB (p : Int) : Bool := p != 0 && poB p
set_option maxRecDepth 100000 in
set_option maxHeartbeats 4000000 in
theorem isProto_any (p : Int) (w : World) : Calls Try.prog 59 #[.int .i64 p] w fun e w' => e = .returned (.bool (prB p)) ∧ w' = w := by
  have E : Hid (prB p = (p == 1 || p == 6 || p == 17)) := rfl
  cases h0 : (p == 1)
  · rw [h0] at E
    cases h1 : (p == 6)
    · rw [h1] at E
      go_enter Try.func59, Try.ntmps59
      go_wp2
      go_ret
      exact ⟨ret_bool (by rw [E.out]; simp), rfl⟩
    · rw [h1] at E
      go_enter Try.func59, Try.ntmps59
      go_wp2
      go_ret
      exact ⟨ret_bool (by rw [E.out]; simp), rfl⟩
  · rw [h0] at E
    go_enter Try.func59, Try.ntmps59
    go_wp2
    go_ret
    exact ⟨ret_bool (by rw [E.out]; simp), rfl⟩
set_option maxRecDepth 100000 in
set_option maxHeartbeats 4000000 in
theorem netPort_any (p : Int) (w : World) : Calls Try.prog 62 #[.int .i64 p] w fun e w' => e = .returned (.bool (poB p)) ∧ w' = w := by
  have E : Hid (poB p = (decide (0 ≤ p) && decide (p ≤ 65535))) := rfl
  cases h0 : decide (0 ≤ p)
  · rw [h0] at E
    go_enter Try.func62, Try.ntmps62
    go_wp2
    go_ret
    exact ⟨ret_bool (by rw [E.out]; simp), rfl⟩
  · rw [h0] at E
    go_enter Try.func62, Try.ntmps62
    go_wp2
    go_ret
    exact ⟨ret_bool (by rw [E.out]; simp), rfl⟩
set_option maxRecDepth 100000 in
set_option maxHeartbeats 4000000 in
theorem openPort_any (p : Int) (w : World) : Calls Try.prog 75 #[.int .i64 p] w fun e w' => e = .returned (.bool (opB p)) ∧ w' = w := by
  have E : Hid (opB p = (p != 0 && poB p)) := rfl
  cases h0 : (p != 0)
  · rw [h0] at E
    go_enter Try.func75, Try.ntmps75
    go_wp2
    go_ret
    exact ⟨ret_bool (by rw [E.out]; simp), rfl⟩
  · rw [h0] at E
    have HN : Hid (∀ u, Calls Try.prog 62 #[.int .i64 p] u fun e w' => e = .returned (.bool (poB p)) ∧ w' = u) := fun u => netPort_any p u
    generalize poB p = R at *
    go_enter Try.func75, Try.ntmps75
    go_wp2_with fail
    refine Calls.mono (HN.out _) ?_
    rintro e u1 ⟨rfl, hw1⟩
    rw [hw1]
    clear hw1
    go_wp2
    go_ret
    exact ⟨ret_bool (by rw [E.out]; simp), rfl⟩
/-- A packet. -/
structure PK where
  proto : Int
  src : Int
  sp : Int
  dst : Int
  dp : Int
  flags : Int
def pkC (p : PK) : Array Value := #[.int .i64 p.proto, .int .i64 p.src, .int .i64 p.sp, .int .i64 p.dst, .int .i64 p.dp, .int .i64 p.flags]
def pkA (p : PK) : Value := .agg (pkC p)
def flB (p : PK) : Bool := if (p.proto != 6) = true then p.flags == 0 else decide (0 ≤ p.flags) && decide (p.flags ≤ 15)
def pkB (p : PK) : Bool := prB p.proto && flB p && isW p.src && poB p.sp && isW p.dst && poB p.dp
set_option maxRecDepth 100000 in
set_option maxHeartbeats 4000000 in
theorem flags_any (p : PK) (w : World) : Calls Try.prog 63 #[pkA p] w fun e w' => e = .returned (.bool (flB p)) ∧ Below w.heap.size w w' := by
  unfold pkA pkC
  have HL0 : Hid (LG w (w.alloc (.cells #[.int .i64 p.proto, .int .i64 p.src, .int .i64 p.sp, .int .i64 p.dst, .int .i64 p.dp, .int .i64 p.flags] 46)) w.heap.size #[.int .i64 p.proto, .int .i64 p.src, .int .i64 p.sp, .int .i64 p.dst, .int .i64 p.dp, .int .i64 p.flags] 46) := LG.new w _ _
  have E : Hid (flB p = if (p.proto != 6) = true then p.flags == 0 else decide (0 ≤ p.flags) && decide (p.flags ≤ 15)) := rfl
  cases h0 : (p.proto != 6)
  · rw [h0] at E
    cases ha0 : decide (0 ≤ p.flags)
    · rw [ha0] at E
      go_enter Try.func63, Try.ntmps63
      go_upto_region 1 with fail
      generalize (w.alloc (.cells #[.int .i64 p.proto, .int .i64 p.src, .int .i64 p.sp, .int .i64 p.dst, .int .i64 p.dp, .int .i64 p.flags] 46)) = u0 at *
      generalize w.heap.size = b0 at *
      have k0 := HL0.out.cel 0 _ rfl
      have k5 := HL0.out.cel 5 _ rfl
      have kl := HL0.out.lt
      go_wp2
      go_ret
      exact ⟨ret_bool (by rw [E.out]; simp), HL0.out.bel⟩
    · rw [ha0] at E
      go_enter Try.func63, Try.ntmps63
      go_upto_region 1 with fail
      generalize (w.alloc (.cells #[.int .i64 p.proto, .int .i64 p.src, .int .i64 p.sp, .int .i64 p.dst, .int .i64 p.dp, .int .i64 p.flags] 46)) = u0 at *
      generalize w.heap.size = b0 at *
      have k0 := HL0.out.cel 0 _ rfl
      have k5 := HL0.out.cel 5 _ rfl
      have kl := HL0.out.lt
      go_wp2
      go_ret
      exact ⟨ret_bool (by rw [E.out]; simp), HL0.out.bel⟩
  · rw [h0] at E
    go_enter Try.func63, Try.ntmps63
    go_upto_region 1 with fail
    generalize (w.alloc (.cells #[.int .i64 p.proto, .int .i64 p.src, .int .i64 p.sp, .int .i64 p.dst, .int .i64 p.dp, .int .i64 p.flags] 46)) = u0 at *
    generalize w.heap.size = b0 at *
    have k0 := HL0.out.cel 0 _ rfl
    have k5 := HL0.out.cel 5 _ rfl
    have kl := HL0.out.lt
    go_wp2
    go_ret
    exact ⟨ret_bool (by rw [E.out]; simp), HL0.out.bel⟩
set_option maxRecDepth 100000 in
set_option maxHeartbeats 4000000 in
theorem pkRight_any (p : PK) (w : World) : Calls Try.prog 40 #[pkA p] w fun e w' => e = .returned (.bool (pkB p)) ∧ Below w.heap.size w w' := by
  have HP : Hid (∀ u, Calls Try.prog 59 #[.int .i64 p.proto] u fun e w' => e = .returned (.bool (prB p.proto)) ∧ w' = u) := fun u => isProto_any _ u
  have HF : Hid (∀ u, Calls Try.prog 63 #[pkA p] u fun e w' => e = .returned (.bool (flB p)) ∧ Below u.heap.size u w') := fun u => flags_any _ u
  have HW1 : Hid (∀ u, Calls Try.prog 61 #[.int .i64 p.src] u fun e w' => e = .returned (.bool (isW p.src)) ∧ w' = u) := fun u => implIsWord_any _ u
  have HN1 : Hid (∀ u, Calls Try.prog 62 #[.int .i64 p.sp] u fun e w' => e = .returned (.bool (poB p.sp)) ∧ w' = u) := fun u => netPort_any _ u
  have HW2 : Hid (∀ u, Calls Try.prog 61 #[.int .i64 p.dst] u fun e w' => e = .returned (.bool (isW p.dst)) ∧ w' = u) := fun u => implIsWord_any _ u
  have HN2 : Hid (∀ u, Calls Try.prog 62 #[.int .i64 p.dp] u fun e w' => e = .returned (.bool (poB p.dp)) ∧ w' = u) := fun u => netPort_any _ u
  have HL0 : Hid (LG w (w.alloc (.cells #[.int .i64 p.proto, .int .i64 p.src, .int .i64 p.sp, .int .i64 p.dst, .int .i64 p.dp, .int .i64 p.flags] 46)) w.heap.size #[.int .i64 p.proto, .int .i64 p.src, .int .i64 p.sp, .int .i64 p.dst, .int .i64 p.dp, .int .i64 p.flags] 46) := LG.new w _ _
  have E : Hid (pkB p = (prB p.proto && flB p && isW p.src && poB p.sp && isW p.dst && poB p.dp)) := rfl
  unfold pkA pkC at HF
  unfold pkA pkC
  cases h0 : prB p.proto
  · rw [h0] at E HP
    go_enter Try.func40, Try.ntmps40
    go_upto_region 1 with fail
    generalize (w.alloc (.cells #[.int .i64 p.proto, .int .i64 p.src, .int .i64 p.sp, .int .i64 p.dst, .int .i64 p.dp, .int .i64 p.flags] 46)) = u0 at *
    generalize w.heap.size = b0 at *
    have k0 := HL0.out.cel 0 _ rfl
    have k1 := HL0.out.cel 1 _ rfl
    have k2 := HL0.out.cel 2 _ rfl
    have k3 := HL0.out.cel 3 _ rfl
    have k4 := HL0.out.cel 4 _ rfl
    have k5 := HL0.out.cel 5 _ rfl
    have kl := HL0.out.lt
    go_wp2_with fail
    refine Calls.mono (HP.out _) ?_
    rintro e v0 ⟨rfl, hw1⟩
    rw [hw1]
    clear hw1
    go_wp2
    go_ret
    exact ⟨ret_bool (by rw [E.out]; simp), HL0.out.bel⟩
  · rw [h0] at E HP
    cases h1 : flB p
    · rw [h1] at E HF
      go_enter Try.func40, Try.ntmps40
      go_upto_region 1 with fail
      generalize (w.alloc (.cells #[.int .i64 p.proto, .int .i64 p.src, .int .i64 p.sp, .int .i64 p.dst, .int .i64 p.dp, .int .i64 p.flags] 46)) = u0 at *
      generalize w.heap.size = b0 at *
      have k0 := HL0.out.cel 0 _ rfl
      have k1 := HL0.out.cel 1 _ rfl
      have k2 := HL0.out.cel 2 _ rfl
      have k3 := HL0.out.cel 3 _ rfl
      have k4 := HL0.out.cel 4 _ rfl
      have k5 := HL0.out.cel 5 _ rfl
      have kl := HL0.out.lt
      go_wp2_with fail
      refine Calls.mono (HP.out _) ?_
      rintro e v0 ⟨rfl, hw1⟩
      rw [hw1]
      clear hw1
      go_wp2_with fail
      refine Calls.mono (HF.out _) ?_
      rintro e u1 ⟨rfl, hu⟩
      have HL1 : Hid (LG w u1 b0 #[.int .i64 p.proto, .int .i64 p.src, .int .i64 p.sp, .int .i64 p.dst, .int .i64 p.dp, .int .i64 p.flags] 46) := HL0.out.step hu
      clear hu k0 k1 k2 k3 k4 k5 kl HL0
      have k0 := HL1.out.cel 0 _ rfl
      have k1 := HL1.out.cel 1 _ rfl
      have k2 := HL1.out.cel 2 _ rfl
      have k3 := HL1.out.cel 3 _ rfl
      have k4 := HL1.out.cel 4 _ rfl
      have k5 := HL1.out.cel 5 _ rfl
      have kl := HL1.out.lt
      go_wp2
      go_ret
      exact ⟨ret_bool (by rw [E.out]; simp), HL1.out.bel⟩
    · rw [h1] at E HF
      cases h2 : isW p.src
      · rw [h2] at E HW1
        go_enter Try.func40, Try.ntmps40
        go_upto_region 1 with fail
        generalize (w.alloc (.cells #[.int .i64 p.proto, .int .i64 p.src, .int .i64 p.sp, .int .i64 p.dst, .int .i64 p.dp, .int .i64 p.flags] 46)) = u0 at *
        generalize w.heap.size = b0 at *
        have k0 := HL0.out.cel 0 _ rfl
        have k1 := HL0.out.cel 1 _ rfl
        have k2 := HL0.out.cel 2 _ rfl
        have k3 := HL0.out.cel 3 _ rfl
        have k4 := HL0.out.cel 4 _ rfl
        have k5 := HL0.out.cel 5 _ rfl
        have kl := HL0.out.lt
        go_wp2_with fail
        refine Calls.mono (HP.out _) ?_
        rintro e v0 ⟨rfl, hw1⟩
        rw [hw1]
        clear hw1
        go_wp2_with fail
        refine Calls.mono (HF.out _) ?_
        rintro e u1 ⟨rfl, hu⟩
        have HL1 : Hid (LG w u1 b0 #[.int .i64 p.proto, .int .i64 p.src, .int .i64 p.sp, .int .i64 p.dst, .int .i64 p.dp, .int .i64 p.flags] 46) := HL0.out.step hu
        clear hu k0 k1 k2 k3 k4 k5 kl HL0
        have k0 := HL1.out.cel 0 _ rfl
        have k1 := HL1.out.cel 1 _ rfl
        have k2 := HL1.out.cel 2 _ rfl
        have k3 := HL1.out.cel 3 _ rfl
        have k4 := HL1.out.cel 4 _ rfl
        have k5 := HL1.out.cel 5 _ rfl
        have kl := HL1.out.lt
        go_wp2_with fail
        refine Calls.mono (HW1.out _) ?_
        rintro e v2 ⟨rfl, hw1⟩
        rw [hw1]
        clear hw1
        go_wp2
        go_ret
        exact ⟨ret_bool (by rw [E.out]; simp), HL1.out.bel⟩
      · rw [h2] at E HW1
        cases h3 : poB p.sp
        · rw [h3] at E HN1
          go_enter Try.func40, Try.ntmps40
          go_upto_region 1 with fail
          generalize (w.alloc (.cells #[.int .i64 p.proto, .int .i64 p.src, .int .i64 p.sp, .int .i64 p.dst, .int .i64 p.dp, .int .i64 p.flags] 46)) = u0 at *
          generalize w.heap.size = b0 at *
          have k0 := HL0.out.cel 0 _ rfl
          have k1 := HL0.out.cel 1 _ rfl
          have k2 := HL0.out.cel 2 _ rfl
          have k3 := HL0.out.cel 3 _ rfl
          have k4 := HL0.out.cel 4 _ rfl
          have k5 := HL0.out.cel 5 _ rfl
          have kl := HL0.out.lt
          go_wp2_with fail
          refine Calls.mono (HP.out _) ?_
          rintro e v0 ⟨rfl, hw1⟩
          rw [hw1]
          clear hw1
          go_wp2_with fail
          refine Calls.mono (HF.out _) ?_
          rintro e u1 ⟨rfl, hu⟩
          have HL1 : Hid (LG w u1 b0 #[.int .i64 p.proto, .int .i64 p.src, .int .i64 p.sp, .int .i64 p.dst, .int .i64 p.dp, .int .i64 p.flags] 46) := HL0.out.step hu
          clear hu k0 k1 k2 k3 k4 k5 kl HL0
          have k0 := HL1.out.cel 0 _ rfl
          have k1 := HL1.out.cel 1 _ rfl
          have k2 := HL1.out.cel 2 _ rfl
          have k3 := HL1.out.cel 3 _ rfl
          have k4 := HL1.out.cel 4 _ rfl
          have k5 := HL1.out.cel 5 _ rfl
          have kl := HL1.out.lt
          go_wp2_with fail
          refine Calls.mono (HW1.out _) ?_
          rintro e v2 ⟨rfl, hw1⟩
          rw [hw1]
          clear hw1
          go_wp2_with fail
          refine Calls.mono (HN1.out _) ?_
          rintro e v3 ⟨rfl, hw1⟩
          rw [hw1]
          clear hw1
          go_wp2
          go_ret
          exact ⟨ret_bool (by rw [E.out]; simp), HL1.out.bel⟩
        · rw [h3] at E HN1
          cases h4 : isW p.dst
          · rw [h4] at E HW2
            go_enter Try.func40, Try.ntmps40
            go_upto_region 1 with fail
            generalize (w.alloc (.cells #[.int .i64 p.proto, .int .i64 p.src, .int .i64 p.sp, .int .i64 p.dst, .int .i64 p.dp, .int .i64 p.flags] 46)) = u0 at *
            generalize w.heap.size = b0 at *
            have k0 := HL0.out.cel 0 _ rfl
            have k1 := HL0.out.cel 1 _ rfl
            have k2 := HL0.out.cel 2 _ rfl
            have k3 := HL0.out.cel 3 _ rfl
            have k4 := HL0.out.cel 4 _ rfl
            have k5 := HL0.out.cel 5 _ rfl
            have kl := HL0.out.lt
            go_wp2_with fail
            refine Calls.mono (HP.out _) ?_
            rintro e v0 ⟨rfl, hw1⟩
            rw [hw1]
            clear hw1
            go_wp2_with fail
            refine Calls.mono (HF.out _) ?_
            rintro e u1 ⟨rfl, hu⟩
            have HL1 : Hid (LG w u1 b0 #[.int .i64 p.proto, .int .i64 p.src, .int .i64 p.sp, .int .i64 p.dst, .int .i64 p.dp, .int .i64 p.flags] 46) := HL0.out.step hu
            clear hu k0 k1 k2 k3 k4 k5 kl HL0
            have k0 := HL1.out.cel 0 _ rfl
            have k1 := HL1.out.cel 1 _ rfl
            have k2 := HL1.out.cel 2 _ rfl
            have k3 := HL1.out.cel 3 _ rfl
            have k4 := HL1.out.cel 4 _ rfl
            have k5 := HL1.out.cel 5 _ rfl
            have kl := HL1.out.lt
            go_wp2_with fail
            refine Calls.mono (HW1.out _) ?_
            rintro e v2 ⟨rfl, hw1⟩
            rw [hw1]
            clear hw1
            go_wp2_with fail
            refine Calls.mono (HN1.out _) ?_
            rintro e v3 ⟨rfl, hw1⟩
            rw [hw1]
            clear hw1
            go_wp2_with fail
            refine Calls.mono (HW2.out _) ?_
            rintro e v4 ⟨rfl, hw1⟩
            rw [hw1]
            clear hw1
            go_wp2
            go_ret
            exact ⟨ret_bool (by rw [E.out]; simp), HL1.out.bel⟩
          · rw [h4] at E HW2
            cases h5 : poB p.dp
            · rw [h5] at E HN2
              go_enter Try.func40, Try.ntmps40
              go_upto_region 1 with fail
              generalize (w.alloc (.cells #[.int .i64 p.proto, .int .i64 p.src, .int .i64 p.sp, .int .i64 p.dst, .int .i64 p.dp, .int .i64 p.flags] 46)) = u0 at *
              generalize w.heap.size = b0 at *
              have k0 := HL0.out.cel 0 _ rfl
              have k1 := HL0.out.cel 1 _ rfl
              have k2 := HL0.out.cel 2 _ rfl
              have k3 := HL0.out.cel 3 _ rfl
              have k4 := HL0.out.cel 4 _ rfl
              have k5 := HL0.out.cel 5 _ rfl
              have kl := HL0.out.lt
              go_wp2_with fail
              refine Calls.mono (HP.out _) ?_
              rintro e v0 ⟨rfl, hw1⟩
              rw [hw1]
              clear hw1
              go_wp2_with fail
              refine Calls.mono (HF.out _) ?_
              rintro e u1 ⟨rfl, hu⟩
              have HL1 : Hid (LG w u1 b0 #[.int .i64 p.proto, .int .i64 p.src, .int .i64 p.sp, .int .i64 p.dst, .int .i64 p.dp, .int .i64 p.flags] 46) := HL0.out.step hu
              clear hu k0 k1 k2 k3 k4 k5 kl HL0
              have k0 := HL1.out.cel 0 _ rfl
              have k1 := HL1.out.cel 1 _ rfl
              have k2 := HL1.out.cel 2 _ rfl
              have k3 := HL1.out.cel 3 _ rfl
              have k4 := HL1.out.cel 4 _ rfl
              have k5 := HL1.out.cel 5 _ rfl
              have kl := HL1.out.lt
              go_wp2_with fail
              refine Calls.mono (HW1.out _) ?_
              rintro e v2 ⟨rfl, hw1⟩
              rw [hw1]
              clear hw1
              go_wp2_with fail
              refine Calls.mono (HN1.out _) ?_
              rintro e v3 ⟨rfl, hw1⟩
              rw [hw1]
              clear hw1
              go_wp2_with fail
              refine Calls.mono (HW2.out _) ?_
              rintro e v4 ⟨rfl, hw1⟩
              rw [hw1]
              clear hw1
              go_wp2_with fail
              refine Calls.mono (HN2.out _) ?_
              rintro e v5 ⟨rfl, hw1⟩
              rw [hw1]
              clear hw1
              go_wp2
              go_ret
              exact ⟨ret_bool (by rw [E.out]; simp), HL1.out.bel⟩
            · rw [h5] at E HN2
              go_enter Try.func40, Try.ntmps40
              go_upto_region 1 with fail
              generalize (w.alloc (.cells #[.int .i64 p.proto, .int .i64 p.src, .int .i64 p.sp, .int .i64 p.dst, .int .i64 p.dp, .int .i64 p.flags] 46)) = u0 at *
              generalize w.heap.size = b0 at *
              have k0 := HL0.out.cel 0 _ rfl
              have k1 := HL0.out.cel 1 _ rfl
              have k2 := HL0.out.cel 2 _ rfl
              have k3 := HL0.out.cel 3 _ rfl
              have k4 := HL0.out.cel 4 _ rfl
              have k5 := HL0.out.cel 5 _ rfl
              have kl := HL0.out.lt
              go_wp2_with fail
              refine Calls.mono (HP.out _) ?_
              rintro e v0 ⟨rfl, hw1⟩
              rw [hw1]
              clear hw1
              go_wp2_with fail
              refine Calls.mono (HF.out _) ?_
              rintro e u1 ⟨rfl, hu⟩
              have HL1 : Hid (LG w u1 b0 #[.int .i64 p.proto, .int .i64 p.src, .int .i64 p.sp, .int .i64 p.dst, .int .i64 p.dp, .int .i64 p.flags] 46) := HL0.out.step hu
              clear hu k0 k1 k2 k3 k4 k5 kl HL0
              have k0 := HL1.out.cel 0 _ rfl
              have k1 := HL1.out.cel 1 _ rfl
              have k2 := HL1.out.cel 2 _ rfl
              have k3 := HL1.out.cel 3 _ rfl
              have k4 := HL1.out.cel 4 _ rfl
              have k5 := HL1.out.cel 5 _ rfl
              have kl := HL1.out.lt
              go_wp2_with fail
              refine Calls.mono (HW1.out _) ?_
              rintro e v2 ⟨rfl, hw1⟩
              rw [hw1]
              clear hw1
              go_wp2_with fail
              refine Calls.mono (HN1.out _) ?_
              rintro e v3 ⟨rfl, hw1⟩
              rw [hw1]
              clear hw1
              go_wp2_with fail
              refine Calls.mono (HW2.out _) ?_
              rintro e v4 ⟨rfl, hw1⟩
              rw [hw1]
              clear hw1
              go_wp2_with fail
              refine Calls.mono (HN2.out _) ?_
              rintro e v5 ⟨rfl, hw1⟩
              rw [hw1]
              clear hw1
              go_wp2
              go_ret
              exact ⟨ret_bool (by rw [E.out]; simp), HL1.out.bel⟩
def stB (c : CN) : Bool := if (c.proto != 6) = true then c.state == 2 else c.state == 1 || c.state == 2 || c.state == 3
set_option maxRecDepth 100000 in
set_option maxHeartbeats 4000000 in
theorem state_any (c : CN) (w : World) : Calls Try.prog 92 #[cnA c] w fun e w' => e = .returned (.bool (stB c)) ∧ Below w.heap.size w w' := by
  unfold cnA
  have HL0 : Hid (LG w (w.alloc (.cells #[.int .i64 c.proto, .int .i64 c.a, .int .i64 c.ap, .int .i64 c.b, .int .i64 c.bp, .int .i64 c.outer, .int .i64 c.state, .bool c.fa, .bool c.fb, .int .i64 c.seen] 59)) w.heap.size #[.int .i64 c.proto, .int .i64 c.a, .int .i64 c.ap, .int .i64 c.b, .int .i64 c.bp, .int .i64 c.outer, .int .i64 c.state, .bool c.fa, .bool c.fb, .int .i64 c.seen] 59) := LG.new w _ _
  have E : Hid (stB c = if (c.proto != 6) = true then c.state == 2 else c.state == 1 || c.state == 2 || c.state == 3) := rfl
  cases h0 : (c.proto != 6)
  · rw [h0] at E
    cases ha0 : (c.state == 1)
    · rw [ha0] at E
      cases ha1 : (c.state == 2)
      · rw [ha1] at E
        go_enter Try.func92, Try.ntmps92
        go_upto_region 1 with fail
        generalize (w.alloc (.cells #[.int .i64 c.proto, .int .i64 c.a, .int .i64 c.ap, .int .i64 c.b, .int .i64 c.bp, .int .i64 c.outer, .int .i64 c.state, .bool c.fa, .bool c.fb, .int .i64 c.seen] 59)) = u0 at *
        generalize w.heap.size = b0 at *
        have k0 := HL0.out.cel 0 _ rfl
        have k6 := HL0.out.cel 6 _ rfl
        have kl := HL0.out.lt
        go_wp2
        go_ret
        exact ⟨ret_bool (by rw [E.out]; simp), HL0.out.bel⟩
      · rw [ha1] at E
        go_enter Try.func92, Try.ntmps92
        go_upto_region 1 with fail
        generalize (w.alloc (.cells #[.int .i64 c.proto, .int .i64 c.a, .int .i64 c.ap, .int .i64 c.b, .int .i64 c.bp, .int .i64 c.outer, .int .i64 c.state, .bool c.fa, .bool c.fb, .int .i64 c.seen] 59)) = u0 at *
        generalize w.heap.size = b0 at *
        have k0 := HL0.out.cel 0 _ rfl
        have k6 := HL0.out.cel 6 _ rfl
        have kl := HL0.out.lt
        go_wp2
        go_ret
        exact ⟨ret_bool (by rw [E.out]; simp), HL0.out.bel⟩
    · rw [ha0] at E
      go_enter Try.func92, Try.ntmps92
      go_upto_region 1 with fail
      generalize (w.alloc (.cells #[.int .i64 c.proto, .int .i64 c.a, .int .i64 c.ap, .int .i64 c.b, .int .i64 c.bp, .int .i64 c.outer, .int .i64 c.state, .bool c.fa, .bool c.fb, .int .i64 c.seen] 59)) = u0 at *
      generalize w.heap.size = b0 at *
      have k0 := HL0.out.cel 0 _ rfl
      have k6 := HL0.out.cel 6 _ rfl
      have kl := HL0.out.lt
      go_wp2
      go_ret
      exact ⟨ret_bool (by rw [E.out]; simp), HL0.out.bel⟩
  · rw [h0] at E
    go_enter Try.func92, Try.ntmps92
    go_upto_region 1 with fail
    generalize (w.alloc (.cells #[.int .i64 c.proto, .int .i64 c.a, .int .i64 c.ap, .int .i64 c.b, .int .i64 c.bp, .int .i64 c.outer, .int .i64 c.state, .bool c.fa, .bool c.fb, .int .i64 c.seen] 59)) = u0 at *
    generalize w.heap.size = b0 at *
    have k0 := HL0.out.cel 0 _ rfl
    have k6 := HL0.out.cel 6 _ rfl
    have kl := HL0.out.lt
    go_wp2
    go_ret
    exact ⟨ret_bool (by rw [E.out]; simp), HL0.out.bel⟩
/-- A filter in its box. -/
structure FX (w : World) (b : Nat) (s : FI) (a : FA) : Prop where
  box : w.heap[b]? = some (.cells (flC s a) 35 (0, 0))
  row : FIRows w s a
theorem FX.lt {w : World} {b : Nat} {s : FI} {a : FA} (h : FX w b s a) : b < w.heap.size := (Array.getElem?_eq_some_iff.1 h.box).1
theorem FX.below {w w' : World} {b : Nat} {s : FI} {a : FA} (h : FX w b s a) (hb : Below w.heap.size w w') : FX w' b s a := ⟨(hb.block b h.lt).trans h.box, h.row.below hb⟩
theorem FX.aft {w w' : World} {b : Nat} {s : FI} {a : FA} (h : FX w b s a) (hb : Aft w w') : FX w' b s a := h.below hb.out
theorem FX.c0 {w : World} {b : Nat} {s : FI} {a : FA} (h : FX w b s a) : w.cell? ⟨b, 0, none⟩ = some a.vhs := celN h.box 0 _ rfl
theorem FX.c1 {w : World} {b : Nat} {s : FI} {a : FA} (h : FX w b s a) : w.cell? ⟨b, 1, none⟩ = some a.vgs := celN h.box 1 _ rfl
theorem FX.c2 {w : World} {b : Nat} {s : FI} {a : FA} (h : FX w b s a) : w.cell? ⟨b, 2, none⟩ = some a.vfs := celN h.box 2 _ rfl
theorem FX.c3 {w : World} {b : Nat} {s : FI} {a : FA} (h : FX w b s a) : w.cell? ⟨b, 3, none⟩ = some (.int .i64 s.pub) := celN h.box 3 _ rfl
theorem FX.c4 {w : World} {b : Nat} {s : FI} {a : FA} (h : FX w b s a) : w.cell? ⟨b, 4, none⟩ = some (.int .i64 s.fst) := celN h.box 4 _ rfl
theorem FX.c5 {w : World} {b : Nat} {s : FI} {a : FA} (h : FX w b s a) : w.cell? ⟨b, 5, none⟩ = some (.int .i64 s.lst) := celN h.box 5 _ rfl
theorem FX.c6 {w : World} {b : Nat} {s : FI} {a : FA} (h : FX w b s a) : w.cell? ⟨b, 6, none⟩ = some a.vcs := celN h.box 6 _ rfl
theorem FX.c7 {w : World} {b : Nat} {s : FI} {a : FA} (h : FX w b s a) : w.cell? ⟨b, 7, none⟩ = some (.int .i64 s.time) := celN h.box 7 _ rfl
theorem FX.sh {w : World} {b : Nat} {s : FI} {a : FA} (h : FX w b s a) : ∃ ao cap, a.vhs = .slice ao s.hs.length cap := by
  obtain ⟨ao, cap, e⟩ := h.row.rhs.sl
  exact ⟨ao, cap, by rw [e, h.row.nhs.len]⟩
theorem FX.sg {w : World} {b : Nat} {s : FI} {a : FA} (h : FX w b s a) : ∃ ao cap, a.vgs = .slice ao s.gs.length cap := by
  obtain ⟨ao, cap, e⟩ := h.row.rgs.sl
  exact ⟨ao, cap, by rw [e, h.row.ngs.len]⟩
set_option maxRecDepth 100000 in
set_option maxHeartbeats 4000000 in
theorem hasGroup_any {w : World} {b : Nat} {s : FI} {a : FA} (h : FX w b s a) (hl : s.gs.length ≤ 1048576) (n : Int) : Calls Try.prog 60 #[.pointer (some ⟨b, 0, none⟩), .int .i64 n] w fun e w' => e = .returned (.bool (inW s.gs.length n 1)) ∧ w' = w := by
  obtain ⟨ao, cap, e⟩ := h.sg
  have c1 := h.c1
  have cl := h.lt
  rw [e] at c1
  clear h e
  have HW : Hid (∀ u, Calls Try.prog 82 #[.int .i64 s.gs.length, .int .i64 n, .int .i64 1] u fun e w' => e = .returned (.bool (inW s.gs.length n 1)) ∧ w' = u) := fun u => isWithin_any s.gs.length n 1 u hl ⟨by omega, by omega⟩
  generalize inW s.gs.length n 1 = R at *
  go_enter Try.func60, Try.ntmps60
  go_wp2_with fail
  refine Calls.mono (HW.out _) ?_
  rintro e u1 ⟨rfl, hw1⟩
  rw [hw1]
  clear hw1
  go_wp2
  go_ret
  exact ⟨rfl, rfl⟩
end Go.Proofs.Ytpggbbdfbnocfaa
