import Derived.Test.YtpggbbdfbnocfaaFp2
import Derived.Test.YtpggbbdfbnocfaaHl
namespace Go.Proofs.Ytpggbbdfbnocfaa
open Go.ChangeShapes Go.WideShapes Go.ChangeAt Go.RowKit

def ruB (n : Nat) (r : NR) : Bool := !(r.proto != 0 && !prB r.proto || r.group != -1 && !inW n r.group 1) && (isW r.addr && decide (0 ≤ r.bits) && decide (r.bits ≤ 32) && poB r.low && poB r.high)
set_option maxRecDepth 100000 in
set_option maxHeartbeats 4000000 in
theorem ruleRight_any {w : World} {b : Nat} {s : FI} {a : FA} (h : FX w b s a) (hl : s.gs.length ≤ 1048576) (r : NR) : Calls Try.prog 39 #[.pointer (some ⟨b, 0, none⟩), nrA r] w fun e w' => e = .returned (.bool (ruB s.gs.length r)) ∧ Below w.heap.size w w' := by
  have HX : Hid (FX w b s a) := h
  have HG : Hid (∀ u, Aft w u → Calls Try.prog 60 #[.pointer (some ⟨b, 0, none⟩), .int .i64 r.group] u fun e w' => e = .returned (.bool (inW s.gs.length r.group 1)) ∧ w' = u) := fun u hu => hasGroup_any (HX.out.aft hu) hl r.group
  have HL0 : Hid (LG w (w.alloc (.cells #[.bool r.inn, .int .i64 r.proto, .int .i64 r.addr, .int .i64 r.bits, .int .i64 r.low, .int .i64 r.high, .int .i64 r.group] 44)) w.heap.size #[.bool r.inn, .int .i64 r.proto, .int .i64 r.addr, .int .i64 r.bits, .int .i64 r.low, .int .i64 r.high, .int .i64 r.group] 44) := LG.new w _ _
  have E : Hid (ruB s.gs.length r = (!(r.proto != 0 && !prB r.proto || r.group != -1 && !inW s.gs.length r.group 1) && (isW r.addr && decide (0 ≤ r.bits) && decide (r.bits ≤ 32) && poB r.low && poB r.high))) := rfl
  unfold nrA
  clear h
  cases hp : (r.proto != 0)
  · rw [hp] at E
    cases hg : (r.group != -1)
    · rw [hg] at E
      cases hc0 : isW r.addr
      · rw [hc0] at E
        go_enter Try.func39, Try.ntmps39
        go_upto_region 1 with fail
        generalize (w.alloc (.cells #[.bool r.inn, .int .i64 r.proto, .int .i64 r.addr, .int .i64 r.bits, .int .i64 r.low, .int .i64 r.high, .int .i64 r.group] 44)) = u0 at *
        generalize w.heap.size = b0 at *
        have k1 := HL0.out.cel 1 _ rfl
        have k2 := HL0.out.cel 2 _ rfl
        have k3 := HL0.out.cel 3 _ rfl
        have k4 := HL0.out.cel 4 _ rfl
        have k5 := HL0.out.cel 5 _ rfl
        have k6 := HL0.out.cel 6 _ rfl
        have kl := HL0.out.lt
        go_wp2_with (first | (go_at_call 59; refine Calls.mono (isProto_any _ _) ?_; rintro e v1 ⟨rfl, hw1⟩; rw [hw1]; clear hw1) | (go_at_call 60; refine Calls.mono (HG.out _ HL0.out.aft) ?_; rintro e v1 ⟨rfl, hw1⟩; rw [hw1]; clear hw1) | (go_at_call 61; refine Calls.mono (implIsWord_any _ _) ?_; rintro e v1 ⟨rfl, hw1⟩; rw [hw1]; clear hw1) | (go_at_call 62; refine Calls.mono (netPort_any _ _) ?_; rintro e v1 ⟨rfl, hw1⟩; rw [hw1]; clear hw1))
        go_ret
        exact ⟨ret_bool (by rw [E.out]; simp), HL0.out.bel⟩
      · rw [hc0] at E
        cases hc1 : decide (0 ≤ r.bits)
        · rw [hc1] at E
          go_enter Try.func39, Try.ntmps39
          go_upto_region 1 with fail
          generalize (w.alloc (.cells #[.bool r.inn, .int .i64 r.proto, .int .i64 r.addr, .int .i64 r.bits, .int .i64 r.low, .int .i64 r.high, .int .i64 r.group] 44)) = u0 at *
          generalize w.heap.size = b0 at *
          have k1 := HL0.out.cel 1 _ rfl
          have k2 := HL0.out.cel 2 _ rfl
          have k3 := HL0.out.cel 3 _ rfl
          have k4 := HL0.out.cel 4 _ rfl
          have k5 := HL0.out.cel 5 _ rfl
          have k6 := HL0.out.cel 6 _ rfl
          have kl := HL0.out.lt
          go_wp2_with (first | (go_at_call 59; refine Calls.mono (isProto_any _ _) ?_; rintro e v1 ⟨rfl, hw1⟩; rw [hw1]; clear hw1) | (go_at_call 60; refine Calls.mono (HG.out _ HL0.out.aft) ?_; rintro e v1 ⟨rfl, hw1⟩; rw [hw1]; clear hw1) | (go_at_call 61; refine Calls.mono (implIsWord_any _ _) ?_; rintro e v1 ⟨rfl, hw1⟩; rw [hw1]; clear hw1) | (go_at_call 62; refine Calls.mono (netPort_any _ _) ?_; rintro e v1 ⟨rfl, hw1⟩; rw [hw1]; clear hw1))
          go_ret
          exact ⟨ret_bool (by rw [E.out]; simp), HL0.out.bel⟩
        · rw [hc1] at E
          cases hc2 : decide (r.bits ≤ 32)
          · rw [hc2] at E
            go_enter Try.func39, Try.ntmps39
            go_upto_region 1 with fail
            generalize (w.alloc (.cells #[.bool r.inn, .int .i64 r.proto, .int .i64 r.addr, .int .i64 r.bits, .int .i64 r.low, .int .i64 r.high, .int .i64 r.group] 44)) = u0 at *
            generalize w.heap.size = b0 at *
            have k1 := HL0.out.cel 1 _ rfl
            have k2 := HL0.out.cel 2 _ rfl
            have k3 := HL0.out.cel 3 _ rfl
            have k4 := HL0.out.cel 4 _ rfl
            have k5 := HL0.out.cel 5 _ rfl
            have k6 := HL0.out.cel 6 _ rfl
            have kl := HL0.out.lt
            go_wp2_with (first | (go_at_call 59; refine Calls.mono (isProto_any _ _) ?_; rintro e v1 ⟨rfl, hw1⟩; rw [hw1]; clear hw1) | (go_at_call 60; refine Calls.mono (HG.out _ HL0.out.aft) ?_; rintro e v1 ⟨rfl, hw1⟩; rw [hw1]; clear hw1) | (go_at_call 61; refine Calls.mono (implIsWord_any _ _) ?_; rintro e v1 ⟨rfl, hw1⟩; rw [hw1]; clear hw1) | (go_at_call 62; refine Calls.mono (netPort_any _ _) ?_; rintro e v1 ⟨rfl, hw1⟩; rw [hw1]; clear hw1))
            go_ret
            exact ⟨ret_bool (by rw [E.out]; simp), HL0.out.bel⟩
          · rw [hc2] at E
            cases hc3 : poB r.low
            · rw [hc3] at E
              go_enter Try.func39, Try.ntmps39
              go_upto_region 1 with fail
              generalize (w.alloc (.cells #[.bool r.inn, .int .i64 r.proto, .int .i64 r.addr, .int .i64 r.bits, .int .i64 r.low, .int .i64 r.high, .int .i64 r.group] 44)) = u0 at *
              generalize w.heap.size = b0 at *
              have k1 := HL0.out.cel 1 _ rfl
              have k2 := HL0.out.cel 2 _ rfl
              have k3 := HL0.out.cel 3 _ rfl
              have k4 := HL0.out.cel 4 _ rfl
              have k5 := HL0.out.cel 5 _ rfl
              have k6 := HL0.out.cel 6 _ rfl
              have kl := HL0.out.lt
              go_wp2_with (first | (go_at_call 59; refine Calls.mono (isProto_any _ _) ?_; rintro e v1 ⟨rfl, hw1⟩; rw [hw1]; clear hw1) | (go_at_call 60; refine Calls.mono (HG.out _ HL0.out.aft) ?_; rintro e v1 ⟨rfl, hw1⟩; rw [hw1]; clear hw1) | (go_at_call 61; refine Calls.mono (implIsWord_any _ _) ?_; rintro e v1 ⟨rfl, hw1⟩; rw [hw1]; clear hw1) | (go_at_call 62; refine Calls.mono (netPort_any _ _) ?_; rintro e v1 ⟨rfl, hw1⟩; rw [hw1]; clear hw1))
              go_ret
              exact ⟨ret_bool (by rw [E.out]; simp), HL0.out.bel⟩
            · rw [hc3] at E
              cases hc4 : poB r.high
              · rw [hc4] at E
                go_enter Try.func39, Try.ntmps39
                go_upto_region 1 with fail
                generalize (w.alloc (.cells #[.bool r.inn, .int .i64 r.proto, .int .i64 r.addr, .int .i64 r.bits, .int .i64 r.low, .int .i64 r.high, .int .i64 r.group] 44)) = u0 at *
                generalize w.heap.size = b0 at *
                have k1 := HL0.out.cel 1 _ rfl
                have k2 := HL0.out.cel 2 _ rfl
                have k3 := HL0.out.cel 3 _ rfl
                have k4 := HL0.out.cel 4 _ rfl
                have k5 := HL0.out.cel 5 _ rfl
                have k6 := HL0.out.cel 6 _ rfl
                have kl := HL0.out.lt
                go_wp2_with (first | (go_at_call 59; refine Calls.mono (isProto_any _ _) ?_; rintro e v1 ⟨rfl, hw1⟩; rw [hw1]; clear hw1) | (go_at_call 60; refine Calls.mono (HG.out _ HL0.out.aft) ?_; rintro e v1 ⟨rfl, hw1⟩; rw [hw1]; clear hw1) | (go_at_call 61; refine Calls.mono (implIsWord_any _ _) ?_; rintro e v1 ⟨rfl, hw1⟩; rw [hw1]; clear hw1) | (go_at_call 62; refine Calls.mono (netPort_any _ _) ?_; rintro e v1 ⟨rfl, hw1⟩; rw [hw1]; clear hw1))
                go_ret
                exact ⟨ret_bool (by rw [E.out]; simp), HL0.out.bel⟩
              · rw [hc4] at E
                go_enter Try.func39, Try.ntmps39
                go_upto_region 1 with fail
                generalize (w.alloc (.cells #[.bool r.inn, .int .i64 r.proto, .int .i64 r.addr, .int .i64 r.bits, .int .i64 r.low, .int .i64 r.high, .int .i64 r.group] 44)) = u0 at *
                generalize w.heap.size = b0 at *
                have k1 := HL0.out.cel 1 _ rfl
                have k2 := HL0.out.cel 2 _ rfl
                have k3 := HL0.out.cel 3 _ rfl
                have k4 := HL0.out.cel 4 _ rfl
                have k5 := HL0.out.cel 5 _ rfl
                have k6 := HL0.out.cel 6 _ rfl
                have kl := HL0.out.lt
                go_wp2_with (first | (go_at_call 59; refine Calls.mono (isProto_any _ _) ?_; rintro e v1 ⟨rfl, hw1⟩; rw [hw1]; clear hw1) | (go_at_call 60; refine Calls.mono (HG.out _ HL0.out.aft) ?_; rintro e v1 ⟨rfl, hw1⟩; rw [hw1]; clear hw1) | (go_at_call 61; refine Calls.mono (implIsWord_any _ _) ?_; rintro e v1 ⟨rfl, hw1⟩; rw [hw1]; clear hw1) | (go_at_call 62; refine Calls.mono (netPort_any _ _) ?_; rintro e v1 ⟨rfl, hw1⟩; rw [hw1]; clear hw1))
                go_ret
                exact ⟨ret_bool (by rw [E.out]; simp), HL0.out.bel⟩
    · rw [hg] at E
      cases hi : inW s.gs.length r.group 1
      · rw [hi] at E HG
        go_enter Try.func39, Try.ntmps39
        go_upto_region 1 with fail
        generalize (w.alloc (.cells #[.bool r.inn, .int .i64 r.proto, .int .i64 r.addr, .int .i64 r.bits, .int .i64 r.low, .int .i64 r.high, .int .i64 r.group] 44)) = u0 at *
        generalize w.heap.size = b0 at *
        have k1 := HL0.out.cel 1 _ rfl
        have k2 := HL0.out.cel 2 _ rfl
        have k3 := HL0.out.cel 3 _ rfl
        have k4 := HL0.out.cel 4 _ rfl
        have k5 := HL0.out.cel 5 _ rfl
        have k6 := HL0.out.cel 6 _ rfl
        have kl := HL0.out.lt
        go_wp2_with (first | (go_at_call 59; refine Calls.mono (isProto_any _ _) ?_; rintro e v1 ⟨rfl, hw1⟩; rw [hw1]; clear hw1) | (go_at_call 60; refine Calls.mono (HG.out _ HL0.out.aft) ?_; rintro e v1 ⟨rfl, hw1⟩; rw [hw1]; clear hw1) | (go_at_call 61; refine Calls.mono (implIsWord_any _ _) ?_; rintro e v1 ⟨rfl, hw1⟩; rw [hw1]; clear hw1) | (go_at_call 62; refine Calls.mono (netPort_any _ _) ?_; rintro e v1 ⟨rfl, hw1⟩; rw [hw1]; clear hw1))
        go_ret
        exact ⟨ret_bool (by rw [E.out]; simp), HL0.out.bel⟩
      · rw [hi] at E HG
        cases hc0 : isW r.addr
        · rw [hc0] at E
          go_enter Try.func39, Try.ntmps39
          go_upto_region 1 with fail
          generalize (w.alloc (.cells #[.bool r.inn, .int .i64 r.proto, .int .i64 r.addr, .int .i64 r.bits, .int .i64 r.low, .int .i64 r.high, .int .i64 r.group] 44)) = u0 at *
          generalize w.heap.size = b0 at *
          have k1 := HL0.out.cel 1 _ rfl
          have k2 := HL0.out.cel 2 _ rfl
          have k3 := HL0.out.cel 3 _ rfl
          have k4 := HL0.out.cel 4 _ rfl
          have k5 := HL0.out.cel 5 _ rfl
          have k6 := HL0.out.cel 6 _ rfl
          have kl := HL0.out.lt
          go_wp2_with (first | (go_at_call 59; refine Calls.mono (isProto_any _ _) ?_; rintro e v1 ⟨rfl, hw1⟩; rw [hw1]; clear hw1) | (go_at_call 60; refine Calls.mono (HG.out _ HL0.out.aft) ?_; rintro e v1 ⟨rfl, hw1⟩; rw [hw1]; clear hw1) | (go_at_call 61; refine Calls.mono (implIsWord_any _ _) ?_; rintro e v1 ⟨rfl, hw1⟩; rw [hw1]; clear hw1) | (go_at_call 62; refine Calls.mono (netPort_any _ _) ?_; rintro e v1 ⟨rfl, hw1⟩; rw [hw1]; clear hw1))
          go_ret
          exact ⟨ret_bool (by rw [E.out]; simp), HL0.out.bel⟩
        · rw [hc0] at E
          cases hc1 : decide (0 ≤ r.bits)
          · rw [hc1] at E
            go_enter Try.func39, Try.ntmps39
            go_upto_region 1 with fail
            generalize (w.alloc (.cells #[.bool r.inn, .int .i64 r.proto, .int .i64 r.addr, .int .i64 r.bits, .int .i64 r.low, .int .i64 r.high, .int .i64 r.group] 44)) = u0 at *
            generalize w.heap.size = b0 at *
            have k1 := HL0.out.cel 1 _ rfl
            have k2 := HL0.out.cel 2 _ rfl
            have k3 := HL0.out.cel 3 _ rfl
            have k4 := HL0.out.cel 4 _ rfl
            have k5 := HL0.out.cel 5 _ rfl
            have k6 := HL0.out.cel 6 _ rfl
            have kl := HL0.out.lt
            go_wp2_with (first | (go_at_call 59; refine Calls.mono (isProto_any _ _) ?_; rintro e v1 ⟨rfl, hw1⟩; rw [hw1]; clear hw1) | (go_at_call 60; refine Calls.mono (HG.out _ HL0.out.aft) ?_; rintro e v1 ⟨rfl, hw1⟩; rw [hw1]; clear hw1) | (go_at_call 61; refine Calls.mono (implIsWord_any _ _) ?_; rintro e v1 ⟨rfl, hw1⟩; rw [hw1]; clear hw1) | (go_at_call 62; refine Calls.mono (netPort_any _ _) ?_; rintro e v1 ⟨rfl, hw1⟩; rw [hw1]; clear hw1))
            go_ret
            exact ⟨ret_bool (by rw [E.out]; simp), HL0.out.bel⟩
          · rw [hc1] at E
            cases hc2 : decide (r.bits ≤ 32)
            · rw [hc2] at E
              go_enter Try.func39, Try.ntmps39
              go_upto_region 1 with fail
              generalize (w.alloc (.cells #[.bool r.inn, .int .i64 r.proto, .int .i64 r.addr, .int .i64 r.bits, .int .i64 r.low, .int .i64 r.high, .int .i64 r.group] 44)) = u0 at *
              generalize w.heap.size = b0 at *
              have k1 := HL0.out.cel 1 _ rfl
              have k2 := HL0.out.cel 2 _ rfl
              have k3 := HL0.out.cel 3 _ rfl
              have k4 := HL0.out.cel 4 _ rfl
              have k5 := HL0.out.cel 5 _ rfl
              have k6 := HL0.out.cel 6 _ rfl
              have kl := HL0.out.lt
              go_wp2_with (first | (go_at_call 59; refine Calls.mono (isProto_any _ _) ?_; rintro e v1 ⟨rfl, hw1⟩; rw [hw1]; clear hw1) | (go_at_call 60; refine Calls.mono (HG.out _ HL0.out.aft) ?_; rintro e v1 ⟨rfl, hw1⟩; rw [hw1]; clear hw1) | (go_at_call 61; refine Calls.mono (implIsWord_any _ _) ?_; rintro e v1 ⟨rfl, hw1⟩; rw [hw1]; clear hw1) | (go_at_call 62; refine Calls.mono (netPort_any _ _) ?_; rintro e v1 ⟨rfl, hw1⟩; rw [hw1]; clear hw1))
              go_ret
              exact ⟨ret_bool (by rw [E.out]; simp), HL0.out.bel⟩
            · rw [hc2] at E
              cases hc3 : poB r.low
              · rw [hc3] at E
                go_enter Try.func39, Try.ntmps39
                go_upto_region 1 with fail
                generalize (w.alloc (.cells #[.bool r.inn, .int .i64 r.proto, .int .i64 r.addr, .int .i64 r.bits, .int .i64 r.low, .int .i64 r.high, .int .i64 r.group] 44)) = u0 at *
                generalize w.heap.size = b0 at *
                have k1 := HL0.out.cel 1 _ rfl
                have k2 := HL0.out.cel 2 _ rfl
                have k3 := HL0.out.cel 3 _ rfl
                have k4 := HL0.out.cel 4 _ rfl
                have k5 := HL0.out.cel 5 _ rfl
                have k6 := HL0.out.cel 6 _ rfl
                have kl := HL0.out.lt
                go_wp2_with (first | (go_at_call 59; refine Calls.mono (isProto_any _ _) ?_; rintro e v1 ⟨rfl, hw1⟩; rw [hw1]; clear hw1) | (go_at_call 60; refine Calls.mono (HG.out _ HL0.out.aft) ?_; rintro e v1 ⟨rfl, hw1⟩; rw [hw1]; clear hw1) | (go_at_call 61; refine Calls.mono (implIsWord_any _ _) ?_; rintro e v1 ⟨rfl, hw1⟩; rw [hw1]; clear hw1) | (go_at_call 62; refine Calls.mono (netPort_any _ _) ?_; rintro e v1 ⟨rfl, hw1⟩; rw [hw1]; clear hw1))
                go_ret
                exact ⟨ret_bool (by rw [E.out]; simp), HL0.out.bel⟩
              · rw [hc3] at E
                cases hc4 : poB r.high
                · rw [hc4] at E
                  go_enter Try.func39, Try.ntmps39
                  go_upto_region 1 with fail
                  generalize (w.alloc (.cells #[.bool r.inn, .int .i64 r.proto, .int .i64 r.addr, .int .i64 r.bits, .int .i64 r.low, .int .i64 r.high, .int .i64 r.group] 44)) = u0 at *
                  generalize w.heap.size = b0 at *
                  have k1 := HL0.out.cel 1 _ rfl
                  have k2 := HL0.out.cel 2 _ rfl
                  have k3 := HL0.out.cel 3 _ rfl
                  have k4 := HL0.out.cel 4 _ rfl
                  have k5 := HL0.out.cel 5 _ rfl
                  have k6 := HL0.out.cel 6 _ rfl
                  have kl := HL0.out.lt
                  go_wp2_with (first | (go_at_call 59; refine Calls.mono (isProto_any _ _) ?_; rintro e v1 ⟨rfl, hw1⟩; rw [hw1]; clear hw1) | (go_at_call 60; refine Calls.mono (HG.out _ HL0.out.aft) ?_; rintro e v1 ⟨rfl, hw1⟩; rw [hw1]; clear hw1) | (go_at_call 61; refine Calls.mono (implIsWord_any _ _) ?_; rintro e v1 ⟨rfl, hw1⟩; rw [hw1]; clear hw1) | (go_at_call 62; refine Calls.mono (netPort_any _ _) ?_; rintro e v1 ⟨rfl, hw1⟩; rw [hw1]; clear hw1))
                  go_ret
                  exact ⟨ret_bool (by rw [E.out]; simp), HL0.out.bel⟩
                · rw [hc4] at E
                  go_enter Try.func39, Try.ntmps39
                  go_upto_region 1 with fail
                  generalize (w.alloc (.cells #[.bool r.inn, .int .i64 r.proto, .int .i64 r.addr, .int .i64 r.bits, .int .i64 r.low, .int .i64 r.high, .int .i64 r.group] 44)) = u0 at *
                  generalize w.heap.size = b0 at *
                  have k1 := HL0.out.cel 1 _ rfl
                  have k2 := HL0.out.cel 2 _ rfl
                  have k3 := HL0.out.cel 3 _ rfl
                  have k4 := HL0.out.cel 4 _ rfl
                  have k5 := HL0.out.cel 5 _ rfl
                  have k6 := HL0.out.cel 6 _ rfl
                  have kl := HL0.out.lt
                  go_wp2_with (first | (go_at_call 59; refine Calls.mono (isProto_any _ _) ?_; rintro e v1 ⟨rfl, hw1⟩; rw [hw1]; clear hw1) | (go_at_call 60; refine Calls.mono (HG.out _ HL0.out.aft) ?_; rintro e v1 ⟨rfl, hw1⟩; rw [hw1]; clear hw1) | (go_at_call 61; refine Calls.mono (implIsWord_any _ _) ?_; rintro e v1 ⟨rfl, hw1⟩; rw [hw1]; clear hw1) | (go_at_call 62; refine Calls.mono (netPort_any _ _) ?_; rintro e v1 ⟨rfl, hw1⟩; rw [hw1]; clear hw1))
                  go_ret
                  exact ⟨ret_bool (by rw [E.out]; simp), HL0.out.bel⟩
  · rw [hp] at E
    cases hq : prB r.proto
    · rw [hq] at E
      go_enter Try.func39, Try.ntmps39
      go_upto_region 1 with fail
      generalize (w.alloc (.cells #[.bool r.inn, .int .i64 r.proto, .int .i64 r.addr, .int .i64 r.bits, .int .i64 r.low, .int .i64 r.high, .int .i64 r.group] 44)) = u0 at *
      generalize w.heap.size = b0 at *
      have k1 := HL0.out.cel 1 _ rfl
      have k2 := HL0.out.cel 2 _ rfl
      have k3 := HL0.out.cel 3 _ rfl
      have k4 := HL0.out.cel 4 _ rfl
      have k5 := HL0.out.cel 5 _ rfl
      have k6 := HL0.out.cel 6 _ rfl
      have kl := HL0.out.lt
      go_wp2_with (first | (go_at_call 59; refine Calls.mono (isProto_any _ _) ?_; rintro e v1 ⟨rfl, hw1⟩; rw [hw1]; clear hw1) | (go_at_call 60; refine Calls.mono (HG.out _ HL0.out.aft) ?_; rintro e v1 ⟨rfl, hw1⟩; rw [hw1]; clear hw1) | (go_at_call 61; refine Calls.mono (implIsWord_any _ _) ?_; rintro e v1 ⟨rfl, hw1⟩; rw [hw1]; clear hw1) | (go_at_call 62; refine Calls.mono (netPort_any _ _) ?_; rintro e v1 ⟨rfl, hw1⟩; rw [hw1]; clear hw1))
      go_ret
      exact ⟨ret_bool (by rw [E.out]; simp), HL0.out.bel⟩
    · rw [hq] at E
      cases hg : (r.group != -1)
      · rw [hg] at E
        cases hc0 : isW r.addr
        · rw [hc0] at E
          go_enter Try.func39, Try.ntmps39
          go_upto_region 1 with fail
          generalize (w.alloc (.cells #[.bool r.inn, .int .i64 r.proto, .int .i64 r.addr, .int .i64 r.bits, .int .i64 r.low, .int .i64 r.high, .int .i64 r.group] 44)) = u0 at *
          generalize w.heap.size = b0 at *
          have k1 := HL0.out.cel 1 _ rfl
          have k2 := HL0.out.cel 2 _ rfl
          have k3 := HL0.out.cel 3 _ rfl
          have k4 := HL0.out.cel 4 _ rfl
          have k5 := HL0.out.cel 5 _ rfl
          have k6 := HL0.out.cel 6 _ rfl
          have kl := HL0.out.lt
          go_wp2_with (first | (go_at_call 59; refine Calls.mono (isProto_any _ _) ?_; rintro e v1 ⟨rfl, hw1⟩; rw [hw1]; clear hw1) | (go_at_call 60; refine Calls.mono (HG.out _ HL0.out.aft) ?_; rintro e v1 ⟨rfl, hw1⟩; rw [hw1]; clear hw1) | (go_at_call 61; refine Calls.mono (implIsWord_any _ _) ?_; rintro e v1 ⟨rfl, hw1⟩; rw [hw1]; clear hw1) | (go_at_call 62; refine Calls.mono (netPort_any _ _) ?_; rintro e v1 ⟨rfl, hw1⟩; rw [hw1]; clear hw1))
          go_ret
          exact ⟨ret_bool (by rw [E.out]; simp), HL0.out.bel⟩
        · rw [hc0] at E
          cases hc1 : decide (0 ≤ r.bits)
          · rw [hc1] at E
            go_enter Try.func39, Try.ntmps39
            go_upto_region 1 with fail
            generalize (w.alloc (.cells #[.bool r.inn, .int .i64 r.proto, .int .i64 r.addr, .int .i64 r.bits, .int .i64 r.low, .int .i64 r.high, .int .i64 r.group] 44)) = u0 at *
            generalize w.heap.size = b0 at *
            have k1 := HL0.out.cel 1 _ rfl
            have k2 := HL0.out.cel 2 _ rfl
            have k3 := HL0.out.cel 3 _ rfl
            have k4 := HL0.out.cel 4 _ rfl
            have k5 := HL0.out.cel 5 _ rfl
            have k6 := HL0.out.cel 6 _ rfl
            have kl := HL0.out.lt
            go_wp2_with (first | (go_at_call 59; refine Calls.mono (isProto_any _ _) ?_; rintro e v1 ⟨rfl, hw1⟩; rw [hw1]; clear hw1) | (go_at_call 60; refine Calls.mono (HG.out _ HL0.out.aft) ?_; rintro e v1 ⟨rfl, hw1⟩; rw [hw1]; clear hw1) | (go_at_call 61; refine Calls.mono (implIsWord_any _ _) ?_; rintro e v1 ⟨rfl, hw1⟩; rw [hw1]; clear hw1) | (go_at_call 62; refine Calls.mono (netPort_any _ _) ?_; rintro e v1 ⟨rfl, hw1⟩; rw [hw1]; clear hw1))
            go_ret
            exact ⟨ret_bool (by rw [E.out]; simp), HL0.out.bel⟩
          · rw [hc1] at E
            cases hc2 : decide (r.bits ≤ 32)
            · rw [hc2] at E
              go_enter Try.func39, Try.ntmps39
              go_upto_region 1 with fail
              generalize (w.alloc (.cells #[.bool r.inn, .int .i64 r.proto, .int .i64 r.addr, .int .i64 r.bits, .int .i64 r.low, .int .i64 r.high, .int .i64 r.group] 44)) = u0 at *
              generalize w.heap.size = b0 at *
              have k1 := HL0.out.cel 1 _ rfl
              have k2 := HL0.out.cel 2 _ rfl
              have k3 := HL0.out.cel 3 _ rfl
              have k4 := HL0.out.cel 4 _ rfl
              have k5 := HL0.out.cel 5 _ rfl
              have k6 := HL0.out.cel 6 _ rfl
              have kl := HL0.out.lt
              go_wp2_with (first | (go_at_call 59; refine Calls.mono (isProto_any _ _) ?_; rintro e v1 ⟨rfl, hw1⟩; rw [hw1]; clear hw1) | (go_at_call 60; refine Calls.mono (HG.out _ HL0.out.aft) ?_; rintro e v1 ⟨rfl, hw1⟩; rw [hw1]; clear hw1) | (go_at_call 61; refine Calls.mono (implIsWord_any _ _) ?_; rintro e v1 ⟨rfl, hw1⟩; rw [hw1]; clear hw1) | (go_at_call 62; refine Calls.mono (netPort_any _ _) ?_; rintro e v1 ⟨rfl, hw1⟩; rw [hw1]; clear hw1))
              go_ret
              exact ⟨ret_bool (by rw [E.out]; simp), HL0.out.bel⟩
            · rw [hc2] at E
              cases hc3 : poB r.low
              · rw [hc3] at E
                go_enter Try.func39, Try.ntmps39
                go_upto_region 1 with fail
                generalize (w.alloc (.cells #[.bool r.inn, .int .i64 r.proto, .int .i64 r.addr, .int .i64 r.bits, .int .i64 r.low, .int .i64 r.high, .int .i64 r.group] 44)) = u0 at *
                generalize w.heap.size = b0 at *
                have k1 := HL0.out.cel 1 _ rfl
                have k2 := HL0.out.cel 2 _ rfl
                have k3 := HL0.out.cel 3 _ rfl
                have k4 := HL0.out.cel 4 _ rfl
                have k5 := HL0.out.cel 5 _ rfl
                have k6 := HL0.out.cel 6 _ rfl
                have kl := HL0.out.lt
                go_wp2_with (first | (go_at_call 59; refine Calls.mono (isProto_any _ _) ?_; rintro e v1 ⟨rfl, hw1⟩; rw [hw1]; clear hw1) | (go_at_call 60; refine Calls.mono (HG.out _ HL0.out.aft) ?_; rintro e v1 ⟨rfl, hw1⟩; rw [hw1]; clear hw1) | (go_at_call 61; refine Calls.mono (implIsWord_any _ _) ?_; rintro e v1 ⟨rfl, hw1⟩; rw [hw1]; clear hw1) | (go_at_call 62; refine Calls.mono (netPort_any _ _) ?_; rintro e v1 ⟨rfl, hw1⟩; rw [hw1]; clear hw1))
                go_ret
                exact ⟨ret_bool (by rw [E.out]; simp), HL0.out.bel⟩
              · rw [hc3] at E
                cases hc4 : poB r.high
                · rw [hc4] at E
                  go_enter Try.func39, Try.ntmps39
                  go_upto_region 1 with fail
                  generalize (w.alloc (.cells #[.bool r.inn, .int .i64 r.proto, .int .i64 r.addr, .int .i64 r.bits, .int .i64 r.low, .int .i64 r.high, .int .i64 r.group] 44)) = u0 at *
                  generalize w.heap.size = b0 at *
                  have k1 := HL0.out.cel 1 _ rfl
                  have k2 := HL0.out.cel 2 _ rfl
                  have k3 := HL0.out.cel 3 _ rfl
                  have k4 := HL0.out.cel 4 _ rfl
                  have k5 := HL0.out.cel 5 _ rfl
                  have k6 := HL0.out.cel 6 _ rfl
                  have kl := HL0.out.lt
                  go_wp2_with (first | (go_at_call 59; refine Calls.mono (isProto_any _ _) ?_; rintro e v1 ⟨rfl, hw1⟩; rw [hw1]; clear hw1) | (go_at_call 60; refine Calls.mono (HG.out _ HL0.out.aft) ?_; rintro e v1 ⟨rfl, hw1⟩; rw [hw1]; clear hw1) | (go_at_call 61; refine Calls.mono (implIsWord_any _ _) ?_; rintro e v1 ⟨rfl, hw1⟩; rw [hw1]; clear hw1) | (go_at_call 62; refine Calls.mono (netPort_any _ _) ?_; rintro e v1 ⟨rfl, hw1⟩; rw [hw1]; clear hw1))
                  go_ret
                  exact ⟨ret_bool (by rw [E.out]; simp), HL0.out.bel⟩
                · rw [hc4] at E
                  go_enter Try.func39, Try.ntmps39
                  go_upto_region 1 with fail
                  generalize (w.alloc (.cells #[.bool r.inn, .int .i64 r.proto, .int .i64 r.addr, .int .i64 r.bits, .int .i64 r.low, .int .i64 r.high, .int .i64 r.group] 44)) = u0 at *
                  generalize w.heap.size = b0 at *
                  have k1 := HL0.out.cel 1 _ rfl
                  have k2 := HL0.out.cel 2 _ rfl
                  have k3 := HL0.out.cel 3 _ rfl
                  have k4 := HL0.out.cel 4 _ rfl
                  have k5 := HL0.out.cel 5 _ rfl
                  have k6 := HL0.out.cel 6 _ rfl
                  have kl := HL0.out.lt
                  go_wp2_with (first | (go_at_call 59; refine Calls.mono (isProto_any _ _) ?_; rintro e v1 ⟨rfl, hw1⟩; rw [hw1]; clear hw1) | (go_at_call 60; refine Calls.mono (HG.out _ HL0.out.aft) ?_; rintro e v1 ⟨rfl, hw1⟩; rw [hw1]; clear hw1) | (go_at_call 61; refine Calls.mono (implIsWord_any _ _) ?_; rintro e v1 ⟨rfl, hw1⟩; rw [hw1]; clear hw1) | (go_at_call 62; refine Calls.mono (netPort_any _ _) ?_; rintro e v1 ⟨rfl, hw1⟩; rw [hw1]; clear hw1))
                  go_ret
                  exact ⟨ret_bool (by rw [E.out]; simp), HL0.out.bel⟩
      · rw [hg] at E
        cases hi : inW s.gs.length r.group 1
        · rw [hi] at E HG
          go_enter Try.func39, Try.ntmps39
          go_upto_region 1 with fail
          generalize (w.alloc (.cells #[.bool r.inn, .int .i64 r.proto, .int .i64 r.addr, .int .i64 r.bits, .int .i64 r.low, .int .i64 r.high, .int .i64 r.group] 44)) = u0 at *
          generalize w.heap.size = b0 at *
          have k1 := HL0.out.cel 1 _ rfl
          have k2 := HL0.out.cel 2 _ rfl
          have k3 := HL0.out.cel 3 _ rfl
          have k4 := HL0.out.cel 4 _ rfl
          have k5 := HL0.out.cel 5 _ rfl
          have k6 := HL0.out.cel 6 _ rfl
          have kl := HL0.out.lt
          go_wp2_with (first | (go_at_call 59; refine Calls.mono (isProto_any _ _) ?_; rintro e v1 ⟨rfl, hw1⟩; rw [hw1]; clear hw1) | (go_at_call 60; refine Calls.mono (HG.out _ HL0.out.aft) ?_; rintro e v1 ⟨rfl, hw1⟩; rw [hw1]; clear hw1) | (go_at_call 61; refine Calls.mono (implIsWord_any _ _) ?_; rintro e v1 ⟨rfl, hw1⟩; rw [hw1]; clear hw1) | (go_at_call 62; refine Calls.mono (netPort_any _ _) ?_; rintro e v1 ⟨rfl, hw1⟩; rw [hw1]; clear hw1))
          go_ret
          exact ⟨ret_bool (by rw [E.out]; simp), HL0.out.bel⟩
        · rw [hi] at E HG
          cases hc0 : isW r.addr
          · rw [hc0] at E
            go_enter Try.func39, Try.ntmps39
            go_upto_region 1 with fail
            generalize (w.alloc (.cells #[.bool r.inn, .int .i64 r.proto, .int .i64 r.addr, .int .i64 r.bits, .int .i64 r.low, .int .i64 r.high, .int .i64 r.group] 44)) = u0 at *
            generalize w.heap.size = b0 at *
            have k1 := HL0.out.cel 1 _ rfl
            have k2 := HL0.out.cel 2 _ rfl
            have k3 := HL0.out.cel 3 _ rfl
            have k4 := HL0.out.cel 4 _ rfl
            have k5 := HL0.out.cel 5 _ rfl
            have k6 := HL0.out.cel 6 _ rfl
            have kl := HL0.out.lt
            go_wp2_with (first | (go_at_call 59; refine Calls.mono (isProto_any _ _) ?_; rintro e v1 ⟨rfl, hw1⟩; rw [hw1]; clear hw1) | (go_at_call 60; refine Calls.mono (HG.out _ HL0.out.aft) ?_; rintro e v1 ⟨rfl, hw1⟩; rw [hw1]; clear hw1) | (go_at_call 61; refine Calls.mono (implIsWord_any _ _) ?_; rintro e v1 ⟨rfl, hw1⟩; rw [hw1]; clear hw1) | (go_at_call 62; refine Calls.mono (netPort_any _ _) ?_; rintro e v1 ⟨rfl, hw1⟩; rw [hw1]; clear hw1))
            go_ret
            exact ⟨ret_bool (by rw [E.out]; simp), HL0.out.bel⟩
          · rw [hc0] at E
            cases hc1 : decide (0 ≤ r.bits)
            · rw [hc1] at E
              go_enter Try.func39, Try.ntmps39
              go_upto_region 1 with fail
              generalize (w.alloc (.cells #[.bool r.inn, .int .i64 r.proto, .int .i64 r.addr, .int .i64 r.bits, .int .i64 r.low, .int .i64 r.high, .int .i64 r.group] 44)) = u0 at *
              generalize w.heap.size = b0 at *
              have k1 := HL0.out.cel 1 _ rfl
              have k2 := HL0.out.cel 2 _ rfl
              have k3 := HL0.out.cel 3 _ rfl
              have k4 := HL0.out.cel 4 _ rfl
              have k5 := HL0.out.cel 5 _ rfl
              have k6 := HL0.out.cel 6 _ rfl
              have kl := HL0.out.lt
              go_wp2_with (first | (go_at_call 59; refine Calls.mono (isProto_any _ _) ?_; rintro e v1 ⟨rfl, hw1⟩; rw [hw1]; clear hw1) | (go_at_call 60; refine Calls.mono (HG.out _ HL0.out.aft) ?_; rintro e v1 ⟨rfl, hw1⟩; rw [hw1]; clear hw1) | (go_at_call 61; refine Calls.mono (implIsWord_any _ _) ?_; rintro e v1 ⟨rfl, hw1⟩; rw [hw1]; clear hw1) | (go_at_call 62; refine Calls.mono (netPort_any _ _) ?_; rintro e v1 ⟨rfl, hw1⟩; rw [hw1]; clear hw1))
              go_ret
              exact ⟨ret_bool (by rw [E.out]; simp), HL0.out.bel⟩
            · rw [hc1] at E
              cases hc2 : decide (r.bits ≤ 32)
              · rw [hc2] at E
                go_enter Try.func39, Try.ntmps39
                go_upto_region 1 with fail
                generalize (w.alloc (.cells #[.bool r.inn, .int .i64 r.proto, .int .i64 r.addr, .int .i64 r.bits, .int .i64 r.low, .int .i64 r.high, .int .i64 r.group] 44)) = u0 at *
                generalize w.heap.size = b0 at *
                have k1 := HL0.out.cel 1 _ rfl
                have k2 := HL0.out.cel 2 _ rfl
                have k3 := HL0.out.cel 3 _ rfl
                have k4 := HL0.out.cel 4 _ rfl
                have k5 := HL0.out.cel 5 _ rfl
                have k6 := HL0.out.cel 6 _ rfl
                have kl := HL0.out.lt
                go_wp2_with (first | (go_at_call 59; refine Calls.mono (isProto_any _ _) ?_; rintro e v1 ⟨rfl, hw1⟩; rw [hw1]; clear hw1) | (go_at_call 60; refine Calls.mono (HG.out _ HL0.out.aft) ?_; rintro e v1 ⟨rfl, hw1⟩; rw [hw1]; clear hw1) | (go_at_call 61; refine Calls.mono (implIsWord_any _ _) ?_; rintro e v1 ⟨rfl, hw1⟩; rw [hw1]; clear hw1) | (go_at_call 62; refine Calls.mono (netPort_any _ _) ?_; rintro e v1 ⟨rfl, hw1⟩; rw [hw1]; clear hw1))
                go_ret
                exact ⟨ret_bool (by rw [E.out]; simp), HL0.out.bel⟩
              · rw [hc2] at E
                cases hc3 : poB r.low
                · rw [hc3] at E
                  go_enter Try.func39, Try.ntmps39
                  go_upto_region 1 with fail
                  generalize (w.alloc (.cells #[.bool r.inn, .int .i64 r.proto, .int .i64 r.addr, .int .i64 r.bits, .int .i64 r.low, .int .i64 r.high, .int .i64 r.group] 44)) = u0 at *
                  generalize w.heap.size = b0 at *
                  have k1 := HL0.out.cel 1 _ rfl
                  have k2 := HL0.out.cel 2 _ rfl
                  have k3 := HL0.out.cel 3 _ rfl
                  have k4 := HL0.out.cel 4 _ rfl
                  have k5 := HL0.out.cel 5 _ rfl
                  have k6 := HL0.out.cel 6 _ rfl
                  have kl := HL0.out.lt
                  go_wp2_with (first | (go_at_call 59; refine Calls.mono (isProto_any _ _) ?_; rintro e v1 ⟨rfl, hw1⟩; rw [hw1]; clear hw1) | (go_at_call 60; refine Calls.mono (HG.out _ HL0.out.aft) ?_; rintro e v1 ⟨rfl, hw1⟩; rw [hw1]; clear hw1) | (go_at_call 61; refine Calls.mono (implIsWord_any _ _) ?_; rintro e v1 ⟨rfl, hw1⟩; rw [hw1]; clear hw1) | (go_at_call 62; refine Calls.mono (netPort_any _ _) ?_; rintro e v1 ⟨rfl, hw1⟩; rw [hw1]; clear hw1))
                  go_ret
                  exact ⟨ret_bool (by rw [E.out]; simp), HL0.out.bel⟩
                · rw [hc3] at E
                  cases hc4 : poB r.high
                  · rw [hc4] at E
                    go_enter Try.func39, Try.ntmps39
                    go_upto_region 1 with fail
                    generalize (w.alloc (.cells #[.bool r.inn, .int .i64 r.proto, .int .i64 r.addr, .int .i64 r.bits, .int .i64 r.low, .int .i64 r.high, .int .i64 r.group] 44)) = u0 at *
                    generalize w.heap.size = b0 at *
                    have k1 := HL0.out.cel 1 _ rfl
                    have k2 := HL0.out.cel 2 _ rfl
                    have k3 := HL0.out.cel 3 _ rfl
                    have k4 := HL0.out.cel 4 _ rfl
                    have k5 := HL0.out.cel 5 _ rfl
                    have k6 := HL0.out.cel 6 _ rfl
                    have kl := HL0.out.lt
                    go_wp2_with (first | (go_at_call 59; refine Calls.mono (isProto_any _ _) ?_; rintro e v1 ⟨rfl, hw1⟩; rw [hw1]; clear hw1) | (go_at_call 60; refine Calls.mono (HG.out _ HL0.out.aft) ?_; rintro e v1 ⟨rfl, hw1⟩; rw [hw1]; clear hw1) | (go_at_call 61; refine Calls.mono (implIsWord_any _ _) ?_; rintro e v1 ⟨rfl, hw1⟩; rw [hw1]; clear hw1) | (go_at_call 62; refine Calls.mono (netPort_any _ _) ?_; rintro e v1 ⟨rfl, hw1⟩; rw [hw1]; clear hw1))
                    go_ret
                    exact ⟨ret_bool (by rw [E.out]; simp), HL0.out.bel⟩
                  · rw [hc4] at E
                    go_enter Try.func39, Try.ntmps39
                    go_upto_region 1 with fail
                    generalize (w.alloc (.cells #[.bool r.inn, .int .i64 r.proto, .int .i64 r.addr, .int .i64 r.bits, .int .i64 r.low, .int .i64 r.high, .int .i64 r.group] 44)) = u0 at *
                    generalize w.heap.size = b0 at *
                    have k1 := HL0.out.cel 1 _ rfl
                    have k2 := HL0.out.cel 2 _ rfl
                    have k3 := HL0.out.cel 3 _ rfl
                    have k4 := HL0.out.cel 4 _ rfl
                    have k5 := HL0.out.cel 5 _ rfl
                    have k6 := HL0.out.cel 6 _ rfl
                    have kl := HL0.out.lt
                    go_wp2_with (first | (go_at_call 59; refine Calls.mono (isProto_any _ _) ?_; rintro e v1 ⟨rfl, hw1⟩; rw [hw1]; clear hw1) | (go_at_call 60; refine Calls.mono (HG.out _ HL0.out.aft) ?_; rintro e v1 ⟨rfl, hw1⟩; rw [hw1]; clear hw1) | (go_at_call 61; refine Calls.mono (implIsWord_any _ _) ?_; rintro e v1 ⟨rfl, hw1⟩; rw [hw1]; clear hw1) | (go_at_call 62; refine Calls.mono (netPort_any _ _) ?_; rintro e v1 ⟨rfl, hw1⟩; rw [hw1]; clear hw1))
                    go_ret
                    exact ⟨ret_bool (by rw [E.out]; simp), HL0.out.bel⟩
set_option maxRecDepth 100000 in
set_option maxHeartbeats 4000000 in
theorem groups1_any {w : World} {b bn : Nat} {s : FI} {a : FA} (h : FX w b s a) (hl : s.gs.length ≤ 1048576) (h1 : w.cell? ⟨bn, 0, none⟩ = some (.pointer (some ⟨b, 0, none⟩))) (l1 : bn < w.heap.size) (r : NR) : Calls Try.prog 74 #[.agg #[.bool r.inn, .int .i64 r.proto, .int .i64 r.addr, .int .i64 r.bits, .int .i64 r.low, .int .i64 r.high, .int .i64 r.group], .pointer (some ⟨bn, 0, none⟩)] w fun e w' => e = .returned (.bool (!ruB s.gs.length r)) ∧ Below w.heap.size w w' := by
  have HX : Hid (FX w b s a) := h
  have HL0 : Hid (LG w (w.alloc (.cells #[.bool r.inn, .int .i64 r.proto, .int .i64 r.addr, .int .i64 r.bits, .int .i64 r.low, .int .i64 r.high, .int .i64 r.group] 44)) w.heap.size #[.bool r.inn, .int .i64 r.proto, .int .i64 r.addr, .int .i64 r.bits, .int .i64 r.low, .int .i64 r.high, .int .i64 r.group] 44) := LG.new w _ _
  have d1 : (w.alloc (.cells #[.bool r.inn, .int .i64 r.proto, .int .i64 r.addr, .int .i64 r.bits, .int .i64 r.low, .int .i64 r.high, .int .i64 r.group] 44)).cell? ⟨bn, 0, none⟩ = some (.pointer (some ⟨b, 0, none⟩)) := ((bx1 _ _).cell (p := ⟨bn, 0, none⟩) l1).trans h1
  have m1 : bn < (w.alloc (.cells #[.bool r.inn, .int .i64 r.proto, .int .i64 r.addr, .int .i64 r.bits, .int .i64 r.low, .int .i64 r.high, .int .i64 r.group] 44)).heap.size := by simp; omega
  have HRU : Hid (∀ u, Aft w u → Calls Try.prog 39 #[.pointer (some ⟨b, 0, none⟩), .agg #[.bool r.inn, .int .i64 r.proto, .int .i64 r.addr, .int .i64 r.bits, .int .i64 r.low, .int .i64 r.high, .int .i64 r.group]] u fun e w' => e = .returned (.bool (ruB s.gs.length r)) ∧ Below u.heap.size u w') := fun u hu => ruleRight_any (HX.out.aft hu) hl r
  generalize ruB s.gs.length r = R at *
  clear h h1 l1
  go_enter Try.func74, Try.ntmps74
  go_upto_region 1 with fail
  generalize (w.alloc (.cells #[.bool r.inn, .int .i64 r.proto, .int .i64 r.addr, .int .i64 r.bits, .int .i64 r.low, .int .i64 r.high, .int .i64 r.group] 44)) = u0 at *
  generalize w.heap.size = b0 at *
  have k0 := HL0.out.cel 0 _ rfl
  have k1 := HL0.out.cel 1 _ rfl
  have k2 := HL0.out.cel 2 _ rfl
  have k3 := HL0.out.cel 3 _ rfl
  have k4 := HL0.out.cel 4 _ rfl
  have k5 := HL0.out.cel 5 _ rfl
  have k6 := HL0.out.cel 6 _ rfl
  have kl := HL0.out.lt
  go_wp2_with fail
  refine Calls.mono (HRU.out _ HL0.out.aft) ?_
  rintro e u1 ⟨rfl, hu⟩
  have HL1 : Hid (Below w.heap.size w u1) := HL0.out.bel.trans (hu.mono HL0.out.bel.size)
  clear hu
  go_wp2
  go_ret
  exact ⟨rfl, HL1.out⟩
theorem cfG : ∀ (xs : Array Value) (w' : World), (callFunc 74 xs).run Try.prog w' = .ok (.enter 74 xs) w' := by
  intro xs w'
  kernel_rfl

def gp9 : GP := ⟨[]⟩
def gk (s : FI) (j : Nat) : Bool := !decide (20 < ((s.gs.getD j gp9).rs.length : Int)) && !((s.gs.getD j gp9).rs.any (fun r => !ruB s.gs.length r))
def grB (s : FI) : Bool := allB (gk s) s.gs.length
theorem gdg {zs : List GP} {k : Nat} (h : k < zs.length) : zs.getD k gp9 = zs[k] := by simp [List.getD, List.getElem?_eq_getElem h]
set_option maxRecDepth 100000 in
set_option maxHeartbeats 4000000 in
theorem groupsRight_any {w : World} {b : Nat} {s : FI} {a : FA} (h : FX w b s a) (hl : FIlen s) : Calls Try.prog 51 #[.pointer (some ⟨b, 0, none⟩)] w fun r w' => r = .returned (.bool (grB s)) ∧ Below w.heap.size w w' := by
  have HX : Hid (FX w b s a) := h
  obtain ⟨ao, cap, ee⟩ := h.sg
  have HR : Hid (NGrow w (.slice ao s.gs.length cap) a.qgs) := (show NGrow w _ a.qgs by rw [← ee]; exact h.row.rgs)
  have HI : Hid (GPin w a.qgs s.gs) := h.row.ngs
  have HQ : Hid (a.qgs.length = s.gs.length) := h.row.ngs.len
  have HLN : Hid (FIlen s) := hl
  have HE : Hid (a.vgs = .slice ao s.gs.length cap) := ee
  have HL0 : Hid (LG w (w.alloc (.cells #[.pointer (some ⟨b, 0, none⟩)] 97)) w.heap.size #[.pointer (some ⟨b, 0, none⟩)] 97) := LG.new w _ _
  have hle := hl.lgs.len
  clear h ee hl
  go_enter Try.func51, Try.ntmps51
  go_upto_region 1 with fail
  generalize (w.alloc (.cells #[.pointer (some ⟨b, 0, none⟩)] 97)) = u0 at *
  generalize e0 : w.heap.size = b0 at *
  have HX0 : Hid (FX u0 b s a) := HX.out.below (e0 ▸ HL0.out.bel)
  have c1 := HX0.out.c1
  rw [HE.out] at c1
  have cl := HX0.out.lt
  have k0 := HL0.out.cel 0 _ rfl
  have kl := HL0.out.lt
  go_wp2
  clear c1 cl k0 kl HX0
  go_loopw [10] (fun i wr => ∃ k : Nat, k ≤ s.gs.length ∧ i = .int .i64 k ∧ allB (gk s) k = true ∧ LG w wr b0 #[.pointer (some ⟨b, 0, none⟩)] 97) (fun i _ => s.gs.length - (intOf i).toNat)
  case atStart => exact ⟨0, Nat.zero_le _, rfl, rfl, HL0.out⟩
  case round =>
    obtain ⟨k, hk, rfl, hok, hL⟩ := hrel
    have HOK : Hid (allB (gk s) k = true) := hok
    have HL : Hid (LG w wr b0 #[.pointer (some ⟨b, 0, none⟩)] 97) := hL
    clear hok HL0
    by_cases hlt : k < s.gs.length
    · have hkq : k < a.qgs.length := by rw [HQ.out]; exact hlt
      obtain ⟨g, o, cap2, hv, _, hg, hc⟩ := HR.out.resolve_left (fun h => by rw [h.1] at hkq; simp at hkq)
      injection hv with hv1 hv2 hv3
      subst hv1 hv3
      have d0 := hc.below hL.bel hg k hkq
      have hgw : g < wr.heap.size := Nat.lt_of_lt_of_le hg hL.bel.size
      obtain ⟨p0, p1⟩ := HI.out.el k hkq hlt
      have lp := HLN.out.lgs.el k hlt
      have HT : Hid (gk s k = (!decide (20 < (s.gs[k].rs.length : Int)) && !(s.gs[k].rs.any (fun r => !ruB s.gs.length r)))) := (show gk s k = _ by unfold gk; rw [gdg hlt])
      have hk0 : (0 : Int) ≤ (k : Int) := by omega
      have hk1 : (k : Int) < (s.gs.length : Int) := by omega
      clear p0
      generalize s.gs[k] = p at *
      generalize a.qgs[k].rules = y at *
      obtain ⟨ay, ky, rfl⟩ := p1.sl
      have HP1 : Hid (NRrow w (.slice ay p.rs.length ky) p.rs) := p1
      have HX1 : Hid (LG w (wr.alloc (.cells #[.slice ay p.rs.length ky] 90)) wr.heap.size #[.slice ay p.rs.length ky] 90) := ⟨hL.bel.trans ((bx1 _ _).mono hL.bel.size), heap_new _ _, hL.bel.size⟩
      have HL1 : Hid (LG w (wr.alloc (.cells #[.slice ay p.rs.length ky] 90)) b0 #[.pointer (some ⟨b, 0, none⟩)] 97) := hL.step (bx1 _ _)
      clear hc hL hv2 p1
      go_upto_region 4 with fail
      generalize (wr.alloc (.cells #[.slice ay p.rs.length ky] 90)) = v1 at *
      generalize wr.heap.size = bn at *
      clear d0 hgw hk0 hk1
      have HCF : Hid (Calls Try.prog 73 #[.slice ay p.rs.length ky, .func (.func 74) #[] #[.pointer (some ⟨b0, 0, none⟩)]] v1 fun r w' => r = .returned (.bool (p.rs.any (fun r => !ruB s.gs.length r))) ∧ Below v1.heap.size v1 w') := containsNR_any (HP1.out.below HX1.out.bel) lp _ #[.pointer (some ⟨b0, 0, none⟩)] (fun r => !ruB s.gs.length r) cfG (fun x w' hb => groups1_any ((HX.out.below HX1.out.bel).below hb) hle ((hb.cell (p := ⟨b0, 0, none⟩) HL1.out.lt).trans (HL1.out.cel 0 _ rfl)) (Nat.lt_of_lt_of_le HL1.out.lt hb.size) x)
      generalize (p.rs.any (fun r => !ruB s.gs.length r)) = R at *
      have k0 := HX1.out.cel 0 _ rfl
      have kl := HX1.out.lt
      cases h1 : decide (20 < (p.rs.length : Int))
      · rw [h1] at HT
        cases h2 : R
        all_goals rw [h2] at HT HCF
        · have HGD : Hid (allB (gk s) (k + 1) = true) := (show _ = true by rw [allB_succ, HOK.out, HT.out]; rfl)
          go_wp2_with fail
          refine Calls.mono HCF.out ?_
          rintro r u2 ⟨rfl, hu⟩
          have HL2 : Hid (LG w u2 b0 #[.pointer (some ⟨b, 0, none⟩)] 97) := HL1.out.step hu
          clear hu
          go_wp2
          exact ⟨⟨k + 1, hlt, by go_num, HGD.out, HL2.out⟩, by simp [intOf]; omega⟩
        · have HBD : Hid (grB s = false) := allB_bad hlt (HT.out.trans rfl)
          go_wp2_with fail
          refine Calls.mono HCF.out ?_
          rintro r u2 ⟨rfl, hu⟩
          have HL2 : Hid (LG w u2 b0 #[.pointer (some ⟨b, 0, none⟩)] 97) := HL1.out.step hu
          clear hu
          go_wp2
          go_ret
          exact ⟨ret_bool HBD.out.symm, e0 ▸ HL2.out.bel⟩
      · rw [h1] at HT
        have HBD : Hid (grB s = false) := allB_bad hlt (HT.out.trans rfl)
        go_wp2
        go_ret
        exact ⟨ret_bool HBD.out.symm, e0 ▸ HL1.out.bel⟩
    · obtain rfl : k = s.gs.length := by omega
      clear hL
      go_wp2
      go_ret
      exact ⟨ret_bool HOK.out.symm, e0 ▸ HL.out.bel⟩

def ho9 : HO := ⟨0, []⟩
def hkB (s : FI) (j : Nat) (z : HO) : Bool := !(!isW z.addr || z.addr == 0 || z.addr == s.pub || hAt (s.hs.map (·.addr)) z.addr != (j : Int)) && !(decide (5 < (z.gs.length : Int)) || !arB (fun n => inW s.gs.length n 1) z.gs)
def hk (s : FI) (j : Nat) : Bool := hkB s j (s.hs.getD j ho9)
def hoB (s : FI) : Bool := allB (hk s) s.hs.length
theorem gdh {zs : List HO} {k : Nat} (h : k < zs.length) : zs.getD k ho9 = zs[k] := by simp [List.getD, List.getElem?_eq_getElem h]
theorem FX.aftx {w : World} {b : Nat} {s : FI} {a : FA} (h : FX w b s a) : FX w b s a := h
set_option maxRecDepth 100000 in
set_option maxHeartbeats 4000000 in
theorem hostsRight_any {w : World} {b : Nat} {s : FI} {a : FA} (h : FX w b s a) (hl : FIlen s) : Calls Try.prog 50 #[.pointer (some ⟨b, 0, none⟩)] w fun r w' => r = .returned (.bool (hoB s)) ∧ Below w.heap.size w w' := by
  have HX : Hid (FX w b s a) := h
  obtain ⟨ao, cap, ee⟩ := h.sh
  have HR : Hid (NHrow w (.slice ao s.hs.length cap) a.qhs) := (show NHrow w _ a.qhs by rw [← ee]; exact h.row.rhs)
  have HI : Hid (HOin w a.qhs s.hs) := h.row.nhs
  have HQ : Hid (a.qhs.length = s.hs.length) := h.row.nhs.len
  have HLN : Hid (FIlen s) := hl
  have hle := hl.lhs.len
  have hlg := hl.lgs.len
  have c1 := h.c0
  have cl := h.lt
  rw [ee] at c1
  clear h ee hl
  go_enter Try.func50, Try.ntmps50
  go_wp2
  clear c1 cl
  go_loopw [10] (fun i wr => ∃ k : Nat, k ≤ s.hs.length ∧ i = .int .i64 k ∧ allB (hk s) k = true ∧ Below w.heap.size w wr) (fun i _ => s.hs.length - (intOf i).toNat)
  case atStart => exact ⟨0, Nat.zero_le _, rfl, rfl, Below.refl _ _⟩
  case round =>
    obtain ⟨k, hk0, rfl, hok, hb⟩ := hrel
    have HOK : Hid (allB (hk s) k = true) := hok
    have HB : Hid (Below w.heap.size w wr) := hb
    clear hok
    by_cases hlt : k < s.hs.length
    · have hkq : k < a.qhs.length := by rw [HQ.out]; exact hlt
      obtain ⟨g, o, cap2, hv, _, hg, hc⟩ := HR.out.resolve_left (fun h => by rw [h.1] at hkq; simp at hkq)
      injection hv with hv1 hv2 hv3
      subst hv1 hv3
      obtain ⟨d0, d1⟩ := hc.below hb hg k hkq
      have hgw : g < wr.heap.size := Nat.lt_of_lt_of_le hg hb.size
      obtain ⟨p0, p1⟩ := HI.out.el k hkq hlt
      rw [p0] at d0
      unfold hoQ at d0
      simp only at d0
      have lp := HLN.out.lhs.el k hlt
      have HT : Hid (hk s k = (!(!isW s.hs[k].addr || s.hs[k].addr == 0 || s.hs[k].addr == s.pub || hAt (s.hs.map (·.addr)) s.hs[k].addr != (k : Int)) && !(decide (5 < (s.hs[k].gs.length : Int)) || !arB (fun n => inW s.gs.length n 1) s.hs[k].gs))) := (show hk s k = _ by unfold hk; rw [gdh hlt]; rfl)
      have hk1 : (0 : Int) ≤ (k : Int) := by omega
      have hk2 : (k : Int) < (s.hs.length : Int) := by omega
      clear p0
      generalize s.hs[k] = p at *
      generalize a.qhs[k].groups = y at *
      obtain ⟨ay, ky, rfl⟩ := p1.sl
      have HP1 : Hid (Irow w (.slice ay p.gs.length ky) p.gs) := p1
      have HX1 : Hid (LG w (wr.alloc (.cells #[.int .i64 p.addr, .slice ay p.gs.length ky] 86)) wr.heap.size #[.int .i64 p.addr, .slice ay p.gs.length ky] 86) := ⟨hb.trans ((bx1 _ _).mono hb.size), heap_new _ _, hb.size⟩
      have HW : Hid (∀ u, Calls Try.prog 61 #[.int .i64 p.addr] u fun e w' => e = .returned (.bool (isW p.addr)) ∧ w' = u) := fun u => implIsWord_any _ u
      have HH : Hid (∀ u, Aft w u → Calls Try.prog 71 #[.pointer (some ⟨b, 0, none⟩), .int .i64 p.addr] u fun r w' => r = .returned (.int .i64 (hAt (s.hs.map (·.addr)) p.addr)) ∧ Below u.heap.size u w') := fun u hu => hostAt_any (HX.out.aft hu) hle p.addr
      have HAR : Hid (∀ u, FX u b s a → Aft w u → Calls Try.prog 72 #[.slice ay p.gs.length ky, .func (.func 60) #[.pointer (some ⟨b, 0, none⟩)] #[]] u fun e w' => e = .returned (.bool (arB (fun n => inW s.gs.length n 1) p.gs)) ∧ Below u.heap.size u w') := fun u hx hu => areRising_any hx hlg (HP1.out.below hu.out) lp
      generalize hAt (s.hs.map (·.addr)) p.addr = X at *
      clear hc hb hv2 p1
      go_upto_region 4 with fail
      generalize (wr.alloc (.cells #[.int .i64 p.addr, .slice ay p.gs.length ky] 86)) = v1 at *
      generalize wr.heap.size = bn at *
      clear d0 d1 hgw hk1 hk2
      have HSB : Hid (LG w v1.drew bn #[.int .i64 p.addr, .slice ay p.gs.length ky] 86 ∧ FX v1.drew b s a) := ⟨HX1.out.drew, HX.out.below HX1.out.drew.bel⟩
      cases h1 : isW p.addr
      · rw [h1] at HT HW
        have HBD : Hid (hoB s = false) := allB_bad hlt (HT.out.trans (by simp))
        refine wp_region_held (S := fun w9 => LG w w9 bn #[.int .i64 p.addr, .slice ay p.gs.length ky] 86 ∧ FX w9 b s a) (by kernel_rfl) ?_
        change wpAnyH _ _ _ _ _ _ _ _ (World.drew _)
        refine wpAnyH_take (i := 0) (v := .pointer (some ⟨bn, 0, none⟩)) rfl (by kernel_rfl) (by kernel_rfl) (by kernel_rfl) (fun _ _ _ h => h) (Or.inl ⟨by kernel_rfl, fun w9 h9 => ?_⟩) HSB.out ?_
        · clear h9; go_simp
        refine wpAnyH_take (i := 1) (v := .int .i64 p.addr) rfl (by kernel_rfl) (by kernel_rfl) (by kernel_rfl) (fun _ _ _ h => h) (Or.inl ⟨by kernel_rfl, fun w9 h9 => ?_⟩) HSB.out ?_
        · have x0 := h9.1.cel 0 _ rfl; have xl := h9.1.lt; have y3 := h9.2.c3; have yl := h9.2.lt; clear h9; go_simp
        refine held_one 2 (by kernel_rfl) rfl (by kernel_rfl) fun K hK => ?_
        go_simp
        go_wp2_with (go_at_call 61; refine Calls.mono (HW.out _) ?_; rintro r u9 ⟨rfl, hw9⟩; rw [hw9]; clear hw9)
        refine hK _ _ HSB.out ?_
        clear hK K
        refine wpAnyH_take (i := 3) (v := .bool true) rfl (by kernel_rfl) (by kernel_rfl) (by kernel_rfl) (fun _ _ _ h => h) (Or.inl ⟨by kernel_rfl, fun w9 h9 => ?_⟩) HSB.out ?_
        · clear h9; go_simp
        refine wpAnyH_take (i := 4) (v := .bool true) rfl (by kernel_rfl) (by kernel_rfl) (by kernel_rfl) (fun _ _ _ h => h) (Or.inl ⟨by kernel_rfl, fun w9 h9 => ?_⟩) HSB.out ?_
        · clear h9; go_simp
        refine wpAnyH_take (i := 5) (v := undef) rfl (by kernel_rfl) (by kernel_rfl) (by kernel_rfl) (fun _ _ _ h => h) (Or.inr ⟨by kernel_rfl, rfl⟩) HSB.out ?_
        refine wpAnyH_take (i := 6) (v := undef) rfl (by kernel_rfl) (by kernel_rfl) (by kernel_rfl) (fun _ _ _ h => h) (Or.inr ⟨by kernel_rfl, rfl⟩) HSB.out ?_
        refine wpAnyH_take (i := 7) (v := undef) rfl (by kernel_rfl) (by kernel_rfl) (by kernel_rfl) (fun _ _ _ h => h) (Or.inr ⟨by kernel_rfl, rfl⟩) HSB.out ?_
        refine wpAnyH_take (i := 8) (v := .bool true) rfl (by kernel_rfl) (by kernel_rfl) (by kernel_rfl) (fun _ _ _ h => h) (Or.inl ⟨by kernel_rfl, fun w9 h9 => ?_⟩) HSB.out ?_
        · clear h9; go_simp
        refine wpAnyH_take (i := 9) (v := .bool true) rfl (by kernel_rfl) (by kernel_rfl) (by kernel_rfl) (fun _ _ _ h => h) (Or.inl ⟨by kernel_rfl, fun w9 h9 => ?_⟩) HSB.out ?_
        · clear h9; go_simp
        refine wpAnyH_take (i := 10) (v := undef) rfl (by kernel_rfl) (by kernel_rfl) (by kernel_rfl) (fun _ _ _ h => h) (Or.inr ⟨by kernel_rfl, rfl⟩) HSB.out ?_
        refine wpAnyH_take (i := 11) (v := undef) rfl (by kernel_rfl) (by kernel_rfl) (by kernel_rfl) (fun _ _ _ h => h) (Or.inr ⟨by kernel_rfl, rfl⟩) HSB.out ?_
        refine wpAnyH_take (i := 12) (v := undef) rfl (by kernel_rfl) (by kernel_rfl) (by kernel_rfl) (fun _ _ _ h => h) (Or.inr ⟨by kernel_rfl, rfl⟩) HSB.out ?_
        refine wpAnyH_take (i := 13) (v := undef) rfl (by kernel_rfl) (by kernel_rfl) (by kernel_rfl) (fun _ _ _ h => h) (Or.inr ⟨by kernel_rfl, rfl⟩) HSB.out ?_
        refine wpAnyH_take (i := 14) (v := undef) rfl (by kernel_rfl) (by kernel_rfl) (by kernel_rfl) (fun _ _ _ h => h) (Or.inr ⟨by kernel_rfl, rfl⟩) HSB.out ?_
        refine wpAnyH_take (i := 15) (v := undef) rfl (by kernel_rfl) (by kernel_rfl) (by kernel_rfl) (fun _ _ _ h => h) (Or.inr ⟨by kernel_rfl, rfl⟩) HSB.out ?_
        refine wpAnyH_take (i := 16) (v := undef) rfl (by kernel_rfl) (by kernel_rfl) (by kernel_rfl) (fun _ _ _ h => h) (Or.inr ⟨by kernel_rfl, rfl⟩) HSB.out ?_
        refine wpAnyH_take (i := 17) (v := .bool true) rfl (by kernel_rfl) (by kernel_rfl) (by kernel_rfl) (fun _ _ _ h => h) (Or.inl ⟨by kernel_rfl, fun w9 h9 => ?_⟩) HSB.out ?_
        · clear h9; go_simp
        refine wpAnyH_take (i := 18) (v := .bool true) rfl (by kernel_rfl) (by kernel_rfl) (by kernel_rfl) (fun _ _ _ h => h) (Or.inl ⟨by kernel_rfl, fun w9 h9 => ?_⟩) HSB.out ?_
        · clear h9; go_simp
        refine wpAnyH_take (i := 19) (v := undef) rfl (by kernel_rfl) (by kernel_rfl) (by kernel_rfl) (fun _ _ _ h => h) (Or.inr ⟨by kernel_rfl, rfl⟩) HSB.out ?_
        refine wpAnyH_take (i := 20) (v := undef) rfl (by kernel_rfl) (by kernel_rfl) (by kernel_rfl) (fun _ _ _ h => h) (Or.inr ⟨by kernel_rfl, rfl⟩) HSB.out ?_
        refine wpAnyH_take (i := 21) (v := undef) rfl (by kernel_rfl) (by kernel_rfl) (by kernel_rfl) (fun _ _ _ h => h) (Or.inr ⟨by kernel_rfl, rfl⟩) HSB.out ?_
        refine wpAnyH_take (i := 23) (v := undef) rfl (by kernel_rfl) (by kernel_rfl) (by kernel_rfl) (fun _ _ _ h => h) (Or.inr ⟨by kernel_rfl, rfl⟩) HSB.out ?_
        refine wpAnyH_take (i := 22) (v := undef) rfl (by kernel_rfl) (by kernel_rfl) (by kernel_rfl) (fun _ _ _ h => h) (Or.inr ⟨by kernel_rfl, rfl⟩) HSB.out ?_
        refine wpAnyH_take (i := 24) (v := undef) rfl (by kernel_rfl) (by kernel_rfl) (by kernel_rfl) (fun _ _ _ h => h) (Or.inr ⟨by kernel_rfl, rfl⟩) HSB.out ?_
        refine wpAnyH_take (i := 25) (v := .bool true) rfl (by kernel_rfl) (by kernel_rfl) (by kernel_rfl) (fun _ _ _ h => h) (Or.inl ⟨by kernel_rfl, fun w9 h9 => ?_⟩) HSB.out ?_
        · clear h9; go_simp
        refine wpAnyH_done (by kernel_rfl) ?_ _
        go_simp
        go_wp2
        go_ret
        exact ⟨ret_bool HBD.out.symm, HSB.out.1.bel⟩
      · rw [h1] at HT HW
        cases h2 : (p.addr == 0)
        · rw [h2] at HT
          cases h3 : (p.addr == s.pub)
          · rw [h3] at HT
            cases h4 : (X != (k : Int))
            · rw [h4] at HT
              refine wp_region_held (S := fun w9 => LG w w9 bn #[.int .i64 p.addr, .slice ay p.gs.length ky] 86 ∧ FX w9 b s a) (by kernel_rfl) ?_
              change wpAnyH _ _ _ _ _ _ _ _ (World.drew _)
              refine wpAnyH_take (i := 0) (v := .pointer (some ⟨bn, 0, none⟩)) rfl (by kernel_rfl) (by kernel_rfl) (by kernel_rfl) (fun _ _ _ h => h) (Or.inl ⟨by kernel_rfl, fun w9 h9 => ?_⟩) HSB.out ?_
              · clear h9; go_simp
              refine wpAnyH_take (i := 1) (v := .int .i64 p.addr) rfl (by kernel_rfl) (by kernel_rfl) (by kernel_rfl) (fun _ _ _ h => h) (Or.inl ⟨by kernel_rfl, fun w9 h9 => ?_⟩) HSB.out ?_
              · have x0 := h9.1.cel 0 _ rfl; have xl := h9.1.lt; have y3 := h9.2.c3; have yl := h9.2.lt; clear h9; go_simp
              refine held_one 2 (by kernel_rfl) rfl (by kernel_rfl) fun K hK => ?_
              go_simp
              go_wp2_with (go_at_call 61; refine Calls.mono (HW.out _) ?_; rintro r u9 ⟨rfl, hw9⟩; rw [hw9]; clear hw9)
              refine hK _ _ HSB.out ?_
              clear hK K
              refine wpAnyH_take (i := 3) (v := .bool false) rfl (by kernel_rfl) (by kernel_rfl) (by kernel_rfl) (fun _ _ _ h => h) (Or.inl ⟨by kernel_rfl, fun w9 h9 => ?_⟩) HSB.out ?_
              · clear h9; go_simp
              refine wpAnyH_take (i := 4) (v := .bool false) rfl (by kernel_rfl) (by kernel_rfl) (by kernel_rfl) (fun _ _ _ h => h) (Or.inl ⟨by kernel_rfl, fun w9 h9 => ?_⟩) HSB.out ?_
              · clear h9; go_simp
              refine wpAnyH_take (i := 5) (v := .pointer (some ⟨bn, 0, none⟩)) rfl (by kernel_rfl) (by kernel_rfl) (by kernel_rfl) (fun _ _ _ h => h) (Or.inl ⟨by kernel_rfl, fun w9 h9 => ?_⟩) HSB.out ?_
              · clear h9; go_simp
              refine wpAnyH_take (i := 6) (v := .int .i64 p.addr) rfl (by kernel_rfl) (by kernel_rfl) (by kernel_rfl) (fun _ _ _ h => h) (Or.inl ⟨by kernel_rfl, fun w9 h9 => ?_⟩) HSB.out ?_
              · have x0 := h9.1.cel 0 _ rfl; have xl := h9.1.lt; have y3 := h9.2.c3; have yl := h9.2.lt; clear h9; go_simp
              refine wpAnyH_take (i := 7) (v := .bool false) rfl (by kernel_rfl) (by kernel_rfl) (by kernel_rfl) (fun _ _ _ h => h) (Or.inl ⟨by kernel_rfl, fun w9 h9 => ?_⟩) HSB.out ?_
              · clear h9; go_simp
              refine wpAnyH_take (i := 8) (v := .bool false) rfl (by kernel_rfl) (by kernel_rfl) (by kernel_rfl) (fun _ _ _ h => h) (Or.inl ⟨by kernel_rfl, fun w9 h9 => ?_⟩) HSB.out ?_
              · clear h9; go_simp
              refine wpAnyH_take (i := 9) (v := .bool false) rfl (by kernel_rfl) (by kernel_rfl) (by kernel_rfl) (fun _ _ _ h => h) (Or.inl ⟨by kernel_rfl, fun w9 h9 => ?_⟩) HSB.out ?_
              · clear h9; go_simp
              refine wpAnyH_take (i := 10) (v := .pointer (some ⟨bn, 0, none⟩)) rfl (by kernel_rfl) (by kernel_rfl) (by kernel_rfl) (fun _ _ _ h => h) (Or.inl ⟨by kernel_rfl, fun w9 h9 => ?_⟩) HSB.out ?_
              · clear h9; go_simp
              refine wpAnyH_take (i := 11) (v := .int .i64 p.addr) rfl (by kernel_rfl) (by kernel_rfl) (by kernel_rfl) (fun _ _ _ h => h) (Or.inl ⟨by kernel_rfl, fun w9 h9 => ?_⟩) HSB.out ?_
              · have x0 := h9.1.cel 0 _ rfl; have xl := h9.1.lt; have y3 := h9.2.c3; have yl := h9.2.lt; clear h9; go_simp
              refine wpAnyH_take (i := 12) (v := .pointer (some ⟨b, 0, none⟩)) rfl (by kernel_rfl) (by kernel_rfl) (by kernel_rfl) (fun _ _ _ h => h) (Or.inl ⟨by kernel_rfl, fun w9 h9 => ?_⟩) HSB.out ?_
              · clear h9; go_simp
              refine wpAnyH_take (i := 13) (v := .pointer (some ⟨b, 0, none⟩)) rfl (by kernel_rfl) (by kernel_rfl) (by kernel_rfl) (fun _ _ _ h => h) (Or.inl ⟨by kernel_rfl, fun w9 h9 => ?_⟩) HSB.out ?_
              · clear h9; go_simp
              refine wpAnyH_take (i := 14) (v := .pointer (some ⟨b, 3, none⟩)) rfl (by kernel_rfl) (by kernel_rfl) (by kernel_rfl) (fun _ _ _ h => h) (Or.inl ⟨by kernel_rfl, fun w9 h9 => ?_⟩) HSB.out ?_
              · clear h9; go_simp
              refine wpAnyH_take (i := 15) (v := .int .i64 s.pub) rfl (by kernel_rfl) (by kernel_rfl) (by kernel_rfl) (fun _ _ _ h => h) (Or.inl ⟨by kernel_rfl, fun w9 h9 => ?_⟩) HSB.out ?_
              · have x0 := h9.1.cel 0 _ rfl; have xl := h9.1.lt; have y3 := h9.2.c3; have yl := h9.2.lt; clear h9; go_simp
              refine wpAnyH_take (i := 16) (v := .bool false) rfl (by kernel_rfl) (by kernel_rfl) (by kernel_rfl) (fun _ _ _ h => h) (Or.inl ⟨by kernel_rfl, fun w9 h9 => ?_⟩) HSB.out ?_
              · clear h9; go_simp
              refine wpAnyH_take (i := 17) (v := .bool false) rfl (by kernel_rfl) (by kernel_rfl) (by kernel_rfl) (fun _ _ _ h => h) (Or.inl ⟨by kernel_rfl, fun w9 h9 => ?_⟩) HSB.out ?_
              · clear h9; go_simp
              refine wpAnyH_take (i := 18) (v := .bool false) rfl (by kernel_rfl) (by kernel_rfl) (by kernel_rfl) (fun _ _ _ h => h) (Or.inl ⟨by kernel_rfl, fun w9 h9 => ?_⟩) HSB.out ?_
              · clear h9; go_simp
              refine wpAnyH_take (i := 19) (v := .pointer (some ⟨b, 0, none⟩)) rfl (by kernel_rfl) (by kernel_rfl) (by kernel_rfl) (fun _ _ _ h => h) (Or.inl ⟨by kernel_rfl, fun w9 h9 => ?_⟩) HSB.out ?_
              · clear h9; go_simp
              refine wpAnyH_take (i := 20) (v := .pointer (some ⟨bn, 0, none⟩)) rfl (by kernel_rfl) (by kernel_rfl) (by kernel_rfl) (fun _ _ _ h => h) (Or.inl ⟨by kernel_rfl, fun w9 h9 => ?_⟩) HSB.out ?_
              · clear h9; go_simp
              refine wpAnyH_take (i := 21) (v := .int .i64 p.addr) rfl (by kernel_rfl) (by kernel_rfl) (by kernel_rfl) (fun _ _ _ h => h) (Or.inl ⟨by kernel_rfl, fun w9 h9 => ?_⟩) HSB.out ?_
              · have x0 := h9.1.cel 0 _ rfl; have xl := h9.1.lt; have y3 := h9.2.c3; have yl := h9.2.lt; clear h9; go_simp
              refine wpAnyH_take (i := 23) (v := .int .i64 (k : Int)) rfl (by kernel_rfl) (by kernel_rfl) (by kernel_rfl) (fun _ _ _ h => h) (Or.inl ⟨by kernel_rfl, fun w9 h9 => ?_⟩) HSB.out ?_
              · clear h9; go_simp
              refine held_one 22 (by kernel_rfl) rfl (by kernel_rfl) fun K hK => ?_
              go_simp
              go_wp2_with (go_at_call 71; refine Calls.mono (HH.out _ HSB.out.1.aft) ?_; rintro r u9 ⟨rfl, hu9⟩; have HSC : Hid (LG w u9 bn #[.int .i64 p.addr, .slice ay p.gs.length ky] 86 ∧ FX u9 b s a) := ⟨HSB.out.1.step hu9, HSB.out.2.below hu9⟩; clear hu9)
              refine hK _ _ HSC.out ?_
              clear hK K
              refine wpAnyH_take (i := 24) (v := .bool false) rfl (by kernel_rfl) (by kernel_rfl) (by kernel_rfl) (fun _ _ _ h => h) (Or.inl ⟨by kernel_rfl, fun w9 h9 => ?_⟩) HSC.out ?_
              · clear h9; go_simp
              refine wpAnyH_take (i := 25) (v := .bool false) rfl (by kernel_rfl) (by kernel_rfl) (by kernel_rfl) (fun _ _ _ h => h) (Or.inl ⟨by kernel_rfl, fun w9 h9 => ?_⟩) HSC.out ?_
              · clear h9; go_simp
              refine wpAnyH_done (by kernel_rfl) ?_ _
              go_simp
              have k0 := HSC.out.1.cel 0 _ rfl
              have k1 := HSC.out.1.cel 1 _ rfl
              have kl := HSC.out.1.lt
              cases h5 : decide (5 < (p.gs.length : Int))
              · rw [h5] at HT
                cases h6 : arB (fun n => inW s.gs.length n 1) p.gs
                · rw [h6] at HT HAR
                  have HBD : Hid (hoB s = false) := allB_bad hlt (HT.out.trans (by simp))
                  go_wp2_with fail
                  refine Calls.mono (HAR.out _ HSC.out.2.aftx HSC.out.1.aft) ?_
                  rintro r u2 ⟨rfl, hu⟩
                  have HL2 : Hid (LG w u2 bn #[.int .i64 p.addr, .slice ay p.gs.length ky] 86) := HSC.out.1.step hu
                  clear hu
                  go_wp2
                  go_ret
                  exact ⟨ret_bool HBD.out.symm, HL2.out.bel⟩
                · rw [h6] at HT HAR
                  have HGD : Hid (allB (hk s) (k + 1) = true) := (show _ = true by rw [allB_succ, HOK.out, HT.out]; simp)
                  go_wp2_with fail
                  refine Calls.mono (HAR.out _ HSC.out.2.aftx HSC.out.1.aft) ?_
                  rintro r u2 ⟨rfl, hu⟩
                  have HL2 : Hid (LG w u2 bn #[.int .i64 p.addr, .slice ay p.gs.length ky] 86) := HSC.out.1.step hu
                  clear hu
                  go_wp2
                  exact ⟨⟨k + 1, hlt, by go_num, HGD.out, HL2.out.bel⟩, by simp [intOf]; omega⟩
              · rw [h5] at HT
                have HBD : Hid (hoB s = false) := allB_bad hlt (HT.out.trans (by simp))
                go_wp2
                go_ret
                exact ⟨ret_bool HBD.out.symm, HSC.out.1.bel⟩
            · rw [h4] at HT
              have HBD : Hid (hoB s = false) := allB_bad hlt (HT.out.trans (by simp))
              refine wp_region_held (S := fun w9 => LG w w9 bn #[.int .i64 p.addr, .slice ay p.gs.length ky] 86 ∧ FX w9 b s a) (by kernel_rfl) ?_
              change wpAnyH _ _ _ _ _ _ _ _ (World.drew _)
              refine wpAnyH_take (i := 0) (v := .pointer (some ⟨bn, 0, none⟩)) rfl (by kernel_rfl) (by kernel_rfl) (by kernel_rfl) (fun _ _ _ h => h) (Or.inl ⟨by kernel_rfl, fun w9 h9 => ?_⟩) HSB.out ?_
              · clear h9; go_simp
              refine wpAnyH_take (i := 1) (v := .int .i64 p.addr) rfl (by kernel_rfl) (by kernel_rfl) (by kernel_rfl) (fun _ _ _ h => h) (Or.inl ⟨by kernel_rfl, fun w9 h9 => ?_⟩) HSB.out ?_
              · have x0 := h9.1.cel 0 _ rfl; have xl := h9.1.lt; have y3 := h9.2.c3; have yl := h9.2.lt; clear h9; go_simp
              refine held_one 2 (by kernel_rfl) rfl (by kernel_rfl) fun K hK => ?_
              go_simp
              go_wp2_with (go_at_call 61; refine Calls.mono (HW.out _) ?_; rintro r u9 ⟨rfl, hw9⟩; rw [hw9]; clear hw9)
              refine hK _ _ HSB.out ?_
              clear hK K
              refine wpAnyH_take (i := 3) (v := .bool false) rfl (by kernel_rfl) (by kernel_rfl) (by kernel_rfl) (fun _ _ _ h => h) (Or.inl ⟨by kernel_rfl, fun w9 h9 => ?_⟩) HSB.out ?_
              · clear h9; go_simp
              refine wpAnyH_take (i := 4) (v := .bool false) rfl (by kernel_rfl) (by kernel_rfl) (by kernel_rfl) (fun _ _ _ h => h) (Or.inl ⟨by kernel_rfl, fun w9 h9 => ?_⟩) HSB.out ?_
              · clear h9; go_simp
              refine wpAnyH_take (i := 5) (v := .pointer (some ⟨bn, 0, none⟩)) rfl (by kernel_rfl) (by kernel_rfl) (by kernel_rfl) (fun _ _ _ h => h) (Or.inl ⟨by kernel_rfl, fun w9 h9 => ?_⟩) HSB.out ?_
              · clear h9; go_simp
              refine wpAnyH_take (i := 6) (v := .int .i64 p.addr) rfl (by kernel_rfl) (by kernel_rfl) (by kernel_rfl) (fun _ _ _ h => h) (Or.inl ⟨by kernel_rfl, fun w9 h9 => ?_⟩) HSB.out ?_
              · have x0 := h9.1.cel 0 _ rfl; have xl := h9.1.lt; have y3 := h9.2.c3; have yl := h9.2.lt; clear h9; go_simp
              refine wpAnyH_take (i := 7) (v := .bool false) rfl (by kernel_rfl) (by kernel_rfl) (by kernel_rfl) (fun _ _ _ h => h) (Or.inl ⟨by kernel_rfl, fun w9 h9 => ?_⟩) HSB.out ?_
              · clear h9; go_simp
              refine wpAnyH_take (i := 8) (v := .bool false) rfl (by kernel_rfl) (by kernel_rfl) (by kernel_rfl) (fun _ _ _ h => h) (Or.inl ⟨by kernel_rfl, fun w9 h9 => ?_⟩) HSB.out ?_
              · clear h9; go_simp
              refine wpAnyH_take (i := 9) (v := .bool false) rfl (by kernel_rfl) (by kernel_rfl) (by kernel_rfl) (fun _ _ _ h => h) (Or.inl ⟨by kernel_rfl, fun w9 h9 => ?_⟩) HSB.out ?_
              · clear h9; go_simp
              refine wpAnyH_take (i := 10) (v := .pointer (some ⟨bn, 0, none⟩)) rfl (by kernel_rfl) (by kernel_rfl) (by kernel_rfl) (fun _ _ _ h => h) (Or.inl ⟨by kernel_rfl, fun w9 h9 => ?_⟩) HSB.out ?_
              · clear h9; go_simp
              refine wpAnyH_take (i := 11) (v := .int .i64 p.addr) rfl (by kernel_rfl) (by kernel_rfl) (by kernel_rfl) (fun _ _ _ h => h) (Or.inl ⟨by kernel_rfl, fun w9 h9 => ?_⟩) HSB.out ?_
              · have x0 := h9.1.cel 0 _ rfl; have xl := h9.1.lt; have y3 := h9.2.c3; have yl := h9.2.lt; clear h9; go_simp
              refine wpAnyH_take (i := 12) (v := .pointer (some ⟨b, 0, none⟩)) rfl (by kernel_rfl) (by kernel_rfl) (by kernel_rfl) (fun _ _ _ h => h) (Or.inl ⟨by kernel_rfl, fun w9 h9 => ?_⟩) HSB.out ?_
              · clear h9; go_simp
              refine wpAnyH_take (i := 13) (v := .pointer (some ⟨b, 0, none⟩)) rfl (by kernel_rfl) (by kernel_rfl) (by kernel_rfl) (fun _ _ _ h => h) (Or.inl ⟨by kernel_rfl, fun w9 h9 => ?_⟩) HSB.out ?_
              · clear h9; go_simp
              refine wpAnyH_take (i := 14) (v := .pointer (some ⟨b, 3, none⟩)) rfl (by kernel_rfl) (by kernel_rfl) (by kernel_rfl) (fun _ _ _ h => h) (Or.inl ⟨by kernel_rfl, fun w9 h9 => ?_⟩) HSB.out ?_
              · clear h9; go_simp
              refine wpAnyH_take (i := 15) (v := .int .i64 s.pub) rfl (by kernel_rfl) (by kernel_rfl) (by kernel_rfl) (fun _ _ _ h => h) (Or.inl ⟨by kernel_rfl, fun w9 h9 => ?_⟩) HSB.out ?_
              · have x0 := h9.1.cel 0 _ rfl; have xl := h9.1.lt; have y3 := h9.2.c3; have yl := h9.2.lt; clear h9; go_simp
              refine wpAnyH_take (i := 16) (v := .bool false) rfl (by kernel_rfl) (by kernel_rfl) (by kernel_rfl) (fun _ _ _ h => h) (Or.inl ⟨by kernel_rfl, fun w9 h9 => ?_⟩) HSB.out ?_
              · clear h9; go_simp
              refine wpAnyH_take (i := 17) (v := .bool false) rfl (by kernel_rfl) (by kernel_rfl) (by kernel_rfl) (fun _ _ _ h => h) (Or.inl ⟨by kernel_rfl, fun w9 h9 => ?_⟩) HSB.out ?_
              · clear h9; go_simp
              refine wpAnyH_take (i := 18) (v := .bool false) rfl (by kernel_rfl) (by kernel_rfl) (by kernel_rfl) (fun _ _ _ h => h) (Or.inl ⟨by kernel_rfl, fun w9 h9 => ?_⟩) HSB.out ?_
              · clear h9; go_simp
              refine wpAnyH_take (i := 19) (v := .pointer (some ⟨b, 0, none⟩)) rfl (by kernel_rfl) (by kernel_rfl) (by kernel_rfl) (fun _ _ _ h => h) (Or.inl ⟨by kernel_rfl, fun w9 h9 => ?_⟩) HSB.out ?_
              · clear h9; go_simp
              refine wpAnyH_take (i := 20) (v := .pointer (some ⟨bn, 0, none⟩)) rfl (by kernel_rfl) (by kernel_rfl) (by kernel_rfl) (fun _ _ _ h => h) (Or.inl ⟨by kernel_rfl, fun w9 h9 => ?_⟩) HSB.out ?_
              · clear h9; go_simp
              refine wpAnyH_take (i := 21) (v := .int .i64 p.addr) rfl (by kernel_rfl) (by kernel_rfl) (by kernel_rfl) (fun _ _ _ h => h) (Or.inl ⟨by kernel_rfl, fun w9 h9 => ?_⟩) HSB.out ?_
              · have x0 := h9.1.cel 0 _ rfl; have xl := h9.1.lt; have y3 := h9.2.c3; have yl := h9.2.lt; clear h9; go_simp
              refine wpAnyH_take (i := 23) (v := .int .i64 (k : Int)) rfl (by kernel_rfl) (by kernel_rfl) (by kernel_rfl) (fun _ _ _ h => h) (Or.inl ⟨by kernel_rfl, fun w9 h9 => ?_⟩) HSB.out ?_
              · clear h9; go_simp
              refine held_one 22 (by kernel_rfl) rfl (by kernel_rfl) fun K hK => ?_
              go_simp
              go_wp2_with (go_at_call 71; refine Calls.mono (HH.out _ HSB.out.1.aft) ?_; rintro r u9 ⟨rfl, hu9⟩; have HSC : Hid (LG w u9 bn #[.int .i64 p.addr, .slice ay p.gs.length ky] 86 ∧ FX u9 b s a) := ⟨HSB.out.1.step hu9, HSB.out.2.below hu9⟩; clear hu9)
              refine hK _ _ HSC.out ?_
              clear hK K
              refine wpAnyH_take (i := 24) (v := .bool true) rfl (by kernel_rfl) (by kernel_rfl) (by kernel_rfl) (fun _ _ _ h => h) (Or.inl ⟨by kernel_rfl, fun w9 h9 => ?_⟩) HSC.out ?_
              · clear h9; go_simp
              refine wpAnyH_take (i := 25) (v := .bool true) rfl (by kernel_rfl) (by kernel_rfl) (by kernel_rfl) (fun _ _ _ h => h) (Or.inl ⟨by kernel_rfl, fun w9 h9 => ?_⟩) HSC.out ?_
              · clear h9; go_simp
              refine wpAnyH_done (by kernel_rfl) ?_ _
              go_simp
              go_wp2
              go_ret
              exact ⟨ret_bool HBD.out.symm, HSC.out.1.bel⟩
          · rw [h3] at HT
            have HBD : Hid (hoB s = false) := allB_bad hlt (HT.out.trans (by simp))
            refine wp_region_held (S := fun w9 => LG w w9 bn #[.int .i64 p.addr, .slice ay p.gs.length ky] 86 ∧ FX w9 b s a) (by kernel_rfl) ?_
            change wpAnyH _ _ _ _ _ _ _ _ (World.drew _)
            refine wpAnyH_take (i := 0) (v := .pointer (some ⟨bn, 0, none⟩)) rfl (by kernel_rfl) (by kernel_rfl) (by kernel_rfl) (fun _ _ _ h => h) (Or.inl ⟨by kernel_rfl, fun w9 h9 => ?_⟩) HSB.out ?_
            · clear h9; go_simp
            refine wpAnyH_take (i := 1) (v := .int .i64 p.addr) rfl (by kernel_rfl) (by kernel_rfl) (by kernel_rfl) (fun _ _ _ h => h) (Or.inl ⟨by kernel_rfl, fun w9 h9 => ?_⟩) HSB.out ?_
            · have x0 := h9.1.cel 0 _ rfl; have xl := h9.1.lt; have y3 := h9.2.c3; have yl := h9.2.lt; clear h9; go_simp
            refine held_one 2 (by kernel_rfl) rfl (by kernel_rfl) fun K hK => ?_
            go_simp
            go_wp2_with (go_at_call 61; refine Calls.mono (HW.out _) ?_; rintro r u9 ⟨rfl, hw9⟩; rw [hw9]; clear hw9)
            refine hK _ _ HSB.out ?_
            clear hK K
            refine wpAnyH_take (i := 3) (v := .bool false) rfl (by kernel_rfl) (by kernel_rfl) (by kernel_rfl) (fun _ _ _ h => h) (Or.inl ⟨by kernel_rfl, fun w9 h9 => ?_⟩) HSB.out ?_
            · clear h9; go_simp
            refine wpAnyH_take (i := 4) (v := .bool false) rfl (by kernel_rfl) (by kernel_rfl) (by kernel_rfl) (fun _ _ _ h => h) (Or.inl ⟨by kernel_rfl, fun w9 h9 => ?_⟩) HSB.out ?_
            · clear h9; go_simp
            refine wpAnyH_take (i := 5) (v := .pointer (some ⟨bn, 0, none⟩)) rfl (by kernel_rfl) (by kernel_rfl) (by kernel_rfl) (fun _ _ _ h => h) (Or.inl ⟨by kernel_rfl, fun w9 h9 => ?_⟩) HSB.out ?_
            · clear h9; go_simp
            refine wpAnyH_take (i := 6) (v := .int .i64 p.addr) rfl (by kernel_rfl) (by kernel_rfl) (by kernel_rfl) (fun _ _ _ h => h) (Or.inl ⟨by kernel_rfl, fun w9 h9 => ?_⟩) HSB.out ?_
            · have x0 := h9.1.cel 0 _ rfl; have xl := h9.1.lt; have y3 := h9.2.c3; have yl := h9.2.lt; clear h9; go_simp
            refine wpAnyH_take (i := 7) (v := .bool false) rfl (by kernel_rfl) (by kernel_rfl) (by kernel_rfl) (fun _ _ _ h => h) (Or.inl ⟨by kernel_rfl, fun w9 h9 => ?_⟩) HSB.out ?_
            · clear h9; go_simp
            refine wpAnyH_take (i := 8) (v := .bool false) rfl (by kernel_rfl) (by kernel_rfl) (by kernel_rfl) (fun _ _ _ h => h) (Or.inl ⟨by kernel_rfl, fun w9 h9 => ?_⟩) HSB.out ?_
            · clear h9; go_simp
            refine wpAnyH_take (i := 9) (v := .bool false) rfl (by kernel_rfl) (by kernel_rfl) (by kernel_rfl) (fun _ _ _ h => h) (Or.inl ⟨by kernel_rfl, fun w9 h9 => ?_⟩) HSB.out ?_
            · clear h9; go_simp
            refine wpAnyH_take (i := 10) (v := .pointer (some ⟨bn, 0, none⟩)) rfl (by kernel_rfl) (by kernel_rfl) (by kernel_rfl) (fun _ _ _ h => h) (Or.inl ⟨by kernel_rfl, fun w9 h9 => ?_⟩) HSB.out ?_
            · clear h9; go_simp
            refine wpAnyH_take (i := 11) (v := .int .i64 p.addr) rfl (by kernel_rfl) (by kernel_rfl) (by kernel_rfl) (fun _ _ _ h => h) (Or.inl ⟨by kernel_rfl, fun w9 h9 => ?_⟩) HSB.out ?_
            · have x0 := h9.1.cel 0 _ rfl; have xl := h9.1.lt; have y3 := h9.2.c3; have yl := h9.2.lt; clear h9; go_simp
            refine wpAnyH_take (i := 12) (v := .pointer (some ⟨b, 0, none⟩)) rfl (by kernel_rfl) (by kernel_rfl) (by kernel_rfl) (fun _ _ _ h => h) (Or.inl ⟨by kernel_rfl, fun w9 h9 => ?_⟩) HSB.out ?_
            · clear h9; go_simp
            refine wpAnyH_take (i := 13) (v := .pointer (some ⟨b, 0, none⟩)) rfl (by kernel_rfl) (by kernel_rfl) (by kernel_rfl) (fun _ _ _ h => h) (Or.inl ⟨by kernel_rfl, fun w9 h9 => ?_⟩) HSB.out ?_
            · clear h9; go_simp
            refine wpAnyH_take (i := 14) (v := .pointer (some ⟨b, 3, none⟩)) rfl (by kernel_rfl) (by kernel_rfl) (by kernel_rfl) (fun _ _ _ h => h) (Or.inl ⟨by kernel_rfl, fun w9 h9 => ?_⟩) HSB.out ?_
            · clear h9; go_simp
            refine wpAnyH_take (i := 15) (v := .int .i64 s.pub) rfl (by kernel_rfl) (by kernel_rfl) (by kernel_rfl) (fun _ _ _ h => h) (Or.inl ⟨by kernel_rfl, fun w9 h9 => ?_⟩) HSB.out ?_
            · have x0 := h9.1.cel 0 _ rfl; have xl := h9.1.lt; have y3 := h9.2.c3; have yl := h9.2.lt; clear h9; go_simp
            refine wpAnyH_take (i := 16) (v := .bool true) rfl (by kernel_rfl) (by kernel_rfl) (by kernel_rfl) (fun _ _ _ h => h) (Or.inl ⟨by kernel_rfl, fun w9 h9 => ?_⟩) HSB.out ?_
            · clear h9; go_simp
            refine wpAnyH_take (i := 17) (v := .bool true) rfl (by kernel_rfl) (by kernel_rfl) (by kernel_rfl) (fun _ _ _ h => h) (Or.inl ⟨by kernel_rfl, fun w9 h9 => ?_⟩) HSB.out ?_
            · clear h9; go_simp
            refine wpAnyH_take (i := 18) (v := .bool true) rfl (by kernel_rfl) (by kernel_rfl) (by kernel_rfl) (fun _ _ _ h => h) (Or.inl ⟨by kernel_rfl, fun w9 h9 => ?_⟩) HSB.out ?_
            · clear h9; go_simp
            refine wpAnyH_take (i := 19) (v := undef) rfl (by kernel_rfl) (by kernel_rfl) (by kernel_rfl) (fun _ _ _ h => h) (Or.inr ⟨by kernel_rfl, rfl⟩) HSB.out ?_
            refine wpAnyH_take (i := 20) (v := undef) rfl (by kernel_rfl) (by kernel_rfl) (by kernel_rfl) (fun _ _ _ h => h) (Or.inr ⟨by kernel_rfl, rfl⟩) HSB.out ?_
            refine wpAnyH_take (i := 21) (v := undef) rfl (by kernel_rfl) (by kernel_rfl) (by kernel_rfl) (fun _ _ _ h => h) (Or.inr ⟨by kernel_rfl, rfl⟩) HSB.out ?_
            refine wpAnyH_take (i := 23) (v := undef) rfl (by kernel_rfl) (by kernel_rfl) (by kernel_rfl) (fun _ _ _ h => h) (Or.inr ⟨by kernel_rfl, rfl⟩) HSB.out ?_
            refine wpAnyH_take (i := 22) (v := undef) rfl (by kernel_rfl) (by kernel_rfl) (by kernel_rfl) (fun _ _ _ h => h) (Or.inr ⟨by kernel_rfl, rfl⟩) HSB.out ?_
            refine wpAnyH_take (i := 24) (v := undef) rfl (by kernel_rfl) (by kernel_rfl) (by kernel_rfl) (fun _ _ _ h => h) (Or.inr ⟨by kernel_rfl, rfl⟩) HSB.out ?_
            refine wpAnyH_take (i := 25) (v := .bool true) rfl (by kernel_rfl) (by kernel_rfl) (by kernel_rfl) (fun _ _ _ h => h) (Or.inl ⟨by kernel_rfl, fun w9 h9 => ?_⟩) HSB.out ?_
            · clear h9; go_simp
            refine wpAnyH_done (by kernel_rfl) ?_ _
            go_simp
            go_wp2
            go_ret
            exact ⟨ret_bool HBD.out.symm, HSB.out.1.bel⟩
        · rw [h2] at HT
          have HBD : Hid (hoB s = false) := allB_bad hlt (HT.out.trans (by simp))
          refine wp_region_held (S := fun w9 => LG w w9 bn #[.int .i64 p.addr, .slice ay p.gs.length ky] 86 ∧ FX w9 b s a) (by kernel_rfl) ?_
          change wpAnyH _ _ _ _ _ _ _ _ (World.drew _)
          refine wpAnyH_take (i := 0) (v := .pointer (some ⟨bn, 0, none⟩)) rfl (by kernel_rfl) (by kernel_rfl) (by kernel_rfl) (fun _ _ _ h => h) (Or.inl ⟨by kernel_rfl, fun w9 h9 => ?_⟩) HSB.out ?_
          · clear h9; go_simp
          refine wpAnyH_take (i := 1) (v := .int .i64 p.addr) rfl (by kernel_rfl) (by kernel_rfl) (by kernel_rfl) (fun _ _ _ h => h) (Or.inl ⟨by kernel_rfl, fun w9 h9 => ?_⟩) HSB.out ?_
          · have x0 := h9.1.cel 0 _ rfl; have xl := h9.1.lt; have y3 := h9.2.c3; have yl := h9.2.lt; clear h9; go_simp
          refine held_one 2 (by kernel_rfl) rfl (by kernel_rfl) fun K hK => ?_
          go_simp
          go_wp2_with (go_at_call 61; refine Calls.mono (HW.out _) ?_; rintro r u9 ⟨rfl, hw9⟩; rw [hw9]; clear hw9)
          refine hK _ _ HSB.out ?_
          clear hK K
          refine wpAnyH_take (i := 3) (v := .bool false) rfl (by kernel_rfl) (by kernel_rfl) (by kernel_rfl) (fun _ _ _ h => h) (Or.inl ⟨by kernel_rfl, fun w9 h9 => ?_⟩) HSB.out ?_
          · clear h9; go_simp
          refine wpAnyH_take (i := 4) (v := .bool false) rfl (by kernel_rfl) (by kernel_rfl) (by kernel_rfl) (fun _ _ _ h => h) (Or.inl ⟨by kernel_rfl, fun w9 h9 => ?_⟩) HSB.out ?_
          · clear h9; go_simp
          refine wpAnyH_take (i := 5) (v := .pointer (some ⟨bn, 0, none⟩)) rfl (by kernel_rfl) (by kernel_rfl) (by kernel_rfl) (fun _ _ _ h => h) (Or.inl ⟨by kernel_rfl, fun w9 h9 => ?_⟩) HSB.out ?_
          · clear h9; go_simp
          refine wpAnyH_take (i := 6) (v := .int .i64 p.addr) rfl (by kernel_rfl) (by kernel_rfl) (by kernel_rfl) (fun _ _ _ h => h) (Or.inl ⟨by kernel_rfl, fun w9 h9 => ?_⟩) HSB.out ?_
          · have x0 := h9.1.cel 0 _ rfl; have xl := h9.1.lt; have y3 := h9.2.c3; have yl := h9.2.lt; clear h9; go_simp
          refine wpAnyH_take (i := 7) (v := .bool true) rfl (by kernel_rfl) (by kernel_rfl) (by kernel_rfl) (fun _ _ _ h => h) (Or.inl ⟨by kernel_rfl, fun w9 h9 => ?_⟩) HSB.out ?_
          · clear h9; go_simp
          refine wpAnyH_take (i := 8) (v := .bool true) rfl (by kernel_rfl) (by kernel_rfl) (by kernel_rfl) (fun _ _ _ h => h) (Or.inl ⟨by kernel_rfl, fun w9 h9 => ?_⟩) HSB.out ?_
          · clear h9; go_simp
          refine wpAnyH_take (i := 9) (v := .bool true) rfl (by kernel_rfl) (by kernel_rfl) (by kernel_rfl) (fun _ _ _ h => h) (Or.inl ⟨by kernel_rfl, fun w9 h9 => ?_⟩) HSB.out ?_
          · clear h9; go_simp
          refine wpAnyH_take (i := 10) (v := undef) rfl (by kernel_rfl) (by kernel_rfl) (by kernel_rfl) (fun _ _ _ h => h) (Or.inr ⟨by kernel_rfl, rfl⟩) HSB.out ?_
          refine wpAnyH_take (i := 11) (v := undef) rfl (by kernel_rfl) (by kernel_rfl) (by kernel_rfl) (fun _ _ _ h => h) (Or.inr ⟨by kernel_rfl, rfl⟩) HSB.out ?_
          refine wpAnyH_take (i := 12) (v := undef) rfl (by kernel_rfl) (by kernel_rfl) (by kernel_rfl) (fun _ _ _ h => h) (Or.inr ⟨by kernel_rfl, rfl⟩) HSB.out ?_
          refine wpAnyH_take (i := 13) (v := undef) rfl (by kernel_rfl) (by kernel_rfl) (by kernel_rfl) (fun _ _ _ h => h) (Or.inr ⟨by kernel_rfl, rfl⟩) HSB.out ?_
          refine wpAnyH_take (i := 14) (v := undef) rfl (by kernel_rfl) (by kernel_rfl) (by kernel_rfl) (fun _ _ _ h => h) (Or.inr ⟨by kernel_rfl, rfl⟩) HSB.out ?_
          refine wpAnyH_take (i := 15) (v := undef) rfl (by kernel_rfl) (by kernel_rfl) (by kernel_rfl) (fun _ _ _ h => h) (Or.inr ⟨by kernel_rfl, rfl⟩) HSB.out ?_
          refine wpAnyH_take (i := 16) (v := undef) rfl (by kernel_rfl) (by kernel_rfl) (by kernel_rfl) (fun _ _ _ h => h) (Or.inr ⟨by kernel_rfl, rfl⟩) HSB.out ?_
          refine wpAnyH_take (i := 17) (v := .bool true) rfl (by kernel_rfl) (by kernel_rfl) (by kernel_rfl) (fun _ _ _ h => h) (Or.inl ⟨by kernel_rfl, fun w9 h9 => ?_⟩) HSB.out ?_
          · clear h9; go_simp
          refine wpAnyH_take (i := 18) (v := .bool true) rfl (by kernel_rfl) (by kernel_rfl) (by kernel_rfl) (fun _ _ _ h => h) (Or.inl ⟨by kernel_rfl, fun w9 h9 => ?_⟩) HSB.out ?_
          · clear h9; go_simp
          refine wpAnyH_take (i := 19) (v := undef) rfl (by kernel_rfl) (by kernel_rfl) (by kernel_rfl) (fun _ _ _ h => h) (Or.inr ⟨by kernel_rfl, rfl⟩) HSB.out ?_
          refine wpAnyH_take (i := 20) (v := undef) rfl (by kernel_rfl) (by kernel_rfl) (by kernel_rfl) (fun _ _ _ h => h) (Or.inr ⟨by kernel_rfl, rfl⟩) HSB.out ?_
          refine wpAnyH_take (i := 21) (v := undef) rfl (by kernel_rfl) (by kernel_rfl) (by kernel_rfl) (fun _ _ _ h => h) (Or.inr ⟨by kernel_rfl, rfl⟩) HSB.out ?_
          refine wpAnyH_take (i := 23) (v := undef) rfl (by kernel_rfl) (by kernel_rfl) (by kernel_rfl) (fun _ _ _ h => h) (Or.inr ⟨by kernel_rfl, rfl⟩) HSB.out ?_
          refine wpAnyH_take (i := 22) (v := undef) rfl (by kernel_rfl) (by kernel_rfl) (by kernel_rfl) (fun _ _ _ h => h) (Or.inr ⟨by kernel_rfl, rfl⟩) HSB.out ?_
          refine wpAnyH_take (i := 24) (v := undef) rfl (by kernel_rfl) (by kernel_rfl) (by kernel_rfl) (fun _ _ _ h => h) (Or.inr ⟨by kernel_rfl, rfl⟩) HSB.out ?_
          refine wpAnyH_take (i := 25) (v := .bool true) rfl (by kernel_rfl) (by kernel_rfl) (by kernel_rfl) (fun _ _ _ h => h) (Or.inl ⟨by kernel_rfl, fun w9 h9 => ?_⟩) HSB.out ?_
          · clear h9; go_simp
          refine wpAnyH_done (by kernel_rfl) ?_ _
          go_simp
          go_wp2
          go_ret
          exact ⟨ret_bool HBD.out.symm, HSB.out.1.bel⟩
    · obtain rfl : k = s.hs.length := by omega
      go_wp2
      go_ret
      exact ⟨ret_bool HOK.out.symm, HB.out⟩
end Go.Proofs.Ytpggbbdfbnocfaa
