import Derived.Test.YtpggbbdfbnocfaaFp2
import Derived.BigQuiet
namespace Go.Proofs.Ytpggbbdfbnocfaa
open Go.ChangeShapes Go.WideShapes Go.ChangeAt Go.RowKit

set_option maxRecDepth 100000 in
set_option maxHeartbeats 4000000 in
theorem protoS_any (p : Int) (w : World) : Calls Try.prog 20 #[.int .i64 p] w fun e w' => e = .returned (.bool (prB p)) ∧ w' = w := by
  have E : Hid (prB p = (p == 1 || p == 6 || p == 17)) := rfl
  cases h0 : (p == 1)
  · rw [h0] at E
    cases h1 : (p == 6)
    · rw [h1] at E
      go_enter Try.func20, Try.ntmps20
      go_wp2
      go_ret
      exact ⟨ret_bool (by rw [E.out]; simp), rfl⟩
    · rw [h1] at E
      go_enter Try.func20, Try.ntmps20
      go_wp2
      go_ret
      exact ⟨ret_bool (by rw [E.out]; simp), rfl⟩
  · rw [h0] at E
    go_enter Try.func20, Try.ntmps20
    go_wp2
    go_ret
    exact ⟨ret_bool (by rw [E.out]; simp), rfl⟩
set_option maxRecDepth 100000 in
set_option maxHeartbeats 4000000 in
theorem portS_any (p : Int) (w : World) : Calls Try.prog 21 #[.int .i64 p] w fun e w' => e = .returned (.bool (poB p)) ∧ w' = w := by
  have E : Hid (poB p = (decide (0 ≤ p) && decide (p ≤ 65535))) := rfl
  cases h0 : decide (0 ≤ p)
  · rw [h0] at E
    go_enter Try.func21, Try.ntmps21
    go_wp2
    go_ret
    exact ⟨ret_bool (by rw [E.out]; simp), rfl⟩
  · rw [h0] at E
    go_enter Try.func21, Try.ntmps21
    go_wp2
    go_ret
    exact ⟨ret_bool (by rw [E.out]; simp), rfl⟩
set_option maxRecDepth 100000 in
set_option maxHeartbeats 4000000 in
theorem hostS_any {w : World} {s : FI} {a : FA} (h : FIRows w s a) (hl : s.hs.length ≤ 1048576) (x : Int) : Calls Try.prog 22 #[flA s a, .int .i64 x] w fun e w' => e = .returned (.int .i64 (hAt (s.hs.map (·.addr)) x)) ∧ Below w.heap.size w w' := by
  have HX0 : Hid (FX (w.alloc (.cells (flC s a) 35)) w.heap.size s a) := ⟨heap_new _ _, h.below (bx1 _ _)⟩
  have HB0 : Hid (Below w.heap.size w (w.alloc (.cells (flC s a) 35))) := bx1 _ _
  obtain ⟨ahs, khs, ags, kgs, afs, kfs, acs, kcs, e⟩ := h.sl
  obtain ⟨qhs, eq1⟩ : ∃ q, a.qhs = q := ⟨_, rfl⟩
  obtain ⟨qgs, eq2⟩ : ∃ q, a.qgs = q := ⟨_, rfl⟩
  rw [eq1, eq2] at e
  have hR : NHrow w (.slice ahs s.hs.length khs) qhs := by have h9 := h.rhs; rw [e] at h9; exact h9
  have hI : HOin w qhs s.hs := by have h9 := h.nhs; rw [e] at h9; exact h9
  clear eq1 eq2
  subst e
  have HQ : Hid (qhs.length = s.hs.length) := hI.len
  have HRW : Hid (hAt (s.hs.map (·.addr)) x = ixNH (fun z => z.addr == x) qhs) := (hAt_raw hI x).symm
  have HR : Hid (NHrow w (.slice ahs s.hs.length khs) qhs) := hR
  clear h hR hI
  unfold flC at HX0 HB0
  unfold flA flC
  simp only at HX0 HB0 ⊢
  go_enter Try.func22, Try.ntmps22
  go_upto_region 1 with fail
  generalize (w.alloc (.cells #[.slice ahs s.hs.length khs, .slice ags s.gs.length kgs, .slice afs s.fs.length kfs, .int .i64 s.pub, .int .i64 s.fst, .int .i64 s.lst, .slice acs s.cs.length kcs, .int .i64 s.time] 35)) = u0 at *
  generalize e0 : w.heap.size = b0 at *
  go_wp2
  go_loopw [5] (fun i wr => ∃ k : Nat, k ≤ s.hs.length ∧ i = .int .i64 k ∧ (∀ j (hj : j < k) (hz : j < qhs.length), (qhs[j].addr == x) = false) ∧ wr = u0) (fun i _ => s.hs.length - (intOf i).toNat)
  case atStart => exact ⟨0, Nat.zero_le _, rfl, fun j hj => absurd hj (Nat.not_lt_zero _), rfl⟩
  case round =>
    obtain ⟨k, hk, rfl, hno, rfl⟩ := hrel
    have HN : Hid (∀ j (hj : j < k) (hz : j < qhs.length), (qhs[j].addr == x) = false) := hno
    clear hno
    have c0 : _ := HX0.out.c0
    have cl := HX0.out.lt
    simp only at c0
    by_cases hlt : k < s.hs.length
    · have hkq : k < qhs.length := by rw [HQ.out]; exact hlt
      obtain ⟨g, o, cap2, hv, _, hg, hc⟩ := HR.out.resolve_left (fun h => by rw [h.1] at hkq; simp at hkq)
      injection hv with hv1 hv2 hv3
      subst hv1 hv3
      obtain ⟨d0, d1⟩ := hc.below (e0 ▸ HB0.out) (e0 ▸ hg) k hkq
      obtain ⟨y, hy⟩ : ∃ y, qhs[k].addr = y := ⟨_, rfl⟩
      rw [hy] at d0
      have HY : Hid (qhs[k].addr = y) := hy
      have hk0 : (0 : Int) ≤ (k : Int) := by omega
      have hk1 : (k : Int) < (s.hs.length : Int) := by omega
      have hgw : g < wr.heap.size := Nat.lt_of_lt_of_le (e0 ▸ hg) HB0.out.size
      clear hc hy hv2 d1
      cases hp : (y == x)
      · go_wp2
        refine ⟨⟨k + 1, hlt, by go_num, fun j hj hz => ?_, trivial⟩, by simp [intOf]; omega⟩
        by_cases hjk : j = k
        · subst hjk
          rw [HY.out]
          exact hp
        · exact HN.out j (by omega) hz
      · go_wp2
        go_ret
        exact ⟨ret_int (by rw [HRW.out, ixNH_at hkq (by rw [HY.out]; exact hp) (fun j hj => HN.out j hj (by omega))]), e0 ▸ HB0.out⟩
    · obtain rfl : k = s.hs.length := by omega
      go_wp2
      go_ret
      exact ⟨ret_int (by rw [HRW.out, ixNH_none (fun j hj => HN.out j (by have := HQ.out; omega) hj)]), e0 ▸ HB0.out⟩
def rlB (n : Nat) (r : NR) : Bool := (r.proto == 0 || prB r.proto) && isW r.addr && decide (0 ≤ r.bits) && decide (r.bits ≤ 32) && poB r.low && poB r.high && decide (-1 ≤ r.group) && decide (r.group < (n : Int))
set_option maxRecDepth 100000 in
set_option maxHeartbeats 4000000 in
theorem ruleS_any (r : NR) (n : Nat) (w : World) : Calls Try.prog 36 #[nrA r, .int .i64 (n : Nat)] w fun e w' => e = .returned (.bool (rlB n r)) ∧ Below w.heap.size w w' := by
  have HL0 : Hid (LG w (w.alloc (.cells #[.bool r.inn, .int .i64 r.proto, .int .i64 r.addr, .int .i64 r.bits, .int .i64 r.low, .int .i64 r.high, .int .i64 r.group] 44)) w.heap.size #[.bool r.inn, .int .i64 r.proto, .int .i64 r.addr, .int .i64 r.bits, .int .i64 r.low, .int .i64 r.high, .int .i64 r.group] 44) := LG.new w _ _
  have E : Hid (rlB n r = ((r.proto == 0 || prB r.proto) && isW r.addr && decide (0 ≤ r.bits) && decide (r.bits ≤ 32) && poB r.low && poB r.high && decide (-1 ≤ r.group) && decide (r.group < (n : Int)))) := rfl
  unfold nrA
  cases hp : (r.proto == 0)
  · rw [hp] at E
    cases hq : prB r.proto
    · rw [hq] at E
      go_enter Try.func36, Try.ntmps36
      go_upto_region 1 with fail
      generalize (w.alloc (.cells #[.bool r.inn, .int .i64 r.proto, .int .i64 r.addr, .int .i64 r.bits, .int .i64 r.low, .int .i64 r.high, .int .i64 r.group] 44)) = u0 at *
      generalize w.heap.size = b0 at *
      have k1 := HL0.out.cel 1 _ rfl
      have k2 := HL0.out.cel 2 _ rfl
      have k3 := HL0.out.cel 3 _ rfl
      have k4 := HL0.out.cel 4 _ rfl
      have k5 := HL0.out.cel 5 _ rfl
      have k6 := HL0.out.cel 6 _ rfl
      have kl := HL0.out.lt
      go_wp2_with (first | (go_at_call 20; refine Calls.mono (protoS_any _ _) ?_; rintro e v2 ⟨rfl, hw1⟩; rw [hw1]; clear hw1) | (go_at_call 18; refine Calls.mono (specIsWord_any _ _) ?_; rintro e v2 ⟨rfl, hw1⟩; rw [hw1]; clear hw1) | (go_at_call 21; refine Calls.mono (portS_any _ _) ?_; rintro e v2 ⟨rfl, hw1⟩; rw [hw1]; clear hw1))
      go_ret
      exact ⟨ret_bool (by rw [E.out]; simp), HL0.out.bel⟩
    · rw [hq] at E
      cases ha0 : isW r.addr
      · rw [ha0] at E
        go_enter Try.func36, Try.ntmps36
        go_upto_region 1 with fail
        generalize (w.alloc (.cells #[.bool r.inn, .int .i64 r.proto, .int .i64 r.addr, .int .i64 r.bits, .int .i64 r.low, .int .i64 r.high, .int .i64 r.group] 44)) = u0 at *
        generalize w.heap.size = b0 at *
        have k1 := HL0.out.cel 1 _ rfl
        have k2 := HL0.out.cel 2 _ rfl
        have k3 := HL0.out.cel 3 _ rfl
        have k4 := HL0.out.cel 4 _ rfl
        have k5 := HL0.out.cel 5 _ rfl
        have k6 := HL0.out.cel 6 _ rfl
        have kl := HL0.out.lt
        go_wp2_with (first | (go_at_call 20; refine Calls.mono (protoS_any _ _) ?_; rintro e v2 ⟨rfl, hw1⟩; rw [hw1]; clear hw1) | (go_at_call 18; refine Calls.mono (specIsWord_any _ _) ?_; rintro e v2 ⟨rfl, hw1⟩; rw [hw1]; clear hw1) | (go_at_call 21; refine Calls.mono (portS_any _ _) ?_; rintro e v2 ⟨rfl, hw1⟩; rw [hw1]; clear hw1))
        go_ret
        exact ⟨ret_bool (by rw [E.out]; simp), HL0.out.bel⟩
      · rw [ha0] at E
        cases ha1 : decide (0 ≤ r.bits)
        · rw [ha1] at E
          go_enter Try.func36, Try.ntmps36
          go_upto_region 1 with fail
          generalize (w.alloc (.cells #[.bool r.inn, .int .i64 r.proto, .int .i64 r.addr, .int .i64 r.bits, .int .i64 r.low, .int .i64 r.high, .int .i64 r.group] 44)) = u0 at *
          generalize w.heap.size = b0 at *
          have k1 := HL0.out.cel 1 _ rfl
          have k2 := HL0.out.cel 2 _ rfl
          have k3 := HL0.out.cel 3 _ rfl
          have k4 := HL0.out.cel 4 _ rfl
          have k5 := HL0.out.cel 5 _ rfl
          have k6 := HL0.out.cel 6 _ rfl
          have kl := HL0.out.lt
          go_wp2_with (first | (go_at_call 20; refine Calls.mono (protoS_any _ _) ?_; rintro e v2 ⟨rfl, hw1⟩; rw [hw1]; clear hw1) | (go_at_call 18; refine Calls.mono (specIsWord_any _ _) ?_; rintro e v2 ⟨rfl, hw1⟩; rw [hw1]; clear hw1) | (go_at_call 21; refine Calls.mono (portS_any _ _) ?_; rintro e v2 ⟨rfl, hw1⟩; rw [hw1]; clear hw1))
          go_ret
          exact ⟨ret_bool (by rw [E.out]; simp), HL0.out.bel⟩
        · rw [ha1] at E
          cases ha2 : decide (r.bits ≤ 32)
          · rw [ha2] at E
            go_enter Try.func36, Try.ntmps36
            go_upto_region 1 with fail
            generalize (w.alloc (.cells #[.bool r.inn, .int .i64 r.proto, .int .i64 r.addr, .int .i64 r.bits, .int .i64 r.low, .int .i64 r.high, .int .i64 r.group] 44)) = u0 at *
            generalize w.heap.size = b0 at *
            have k1 := HL0.out.cel 1 _ rfl
            have k2 := HL0.out.cel 2 _ rfl
            have k3 := HL0.out.cel 3 _ rfl
            have k4 := HL0.out.cel 4 _ rfl
            have k5 := HL0.out.cel 5 _ rfl
            have k6 := HL0.out.cel 6 _ rfl
            have kl := HL0.out.lt
            go_wp2_with (first | (go_at_call 20; refine Calls.mono (protoS_any _ _) ?_; rintro e v2 ⟨rfl, hw1⟩; rw [hw1]; clear hw1) | (go_at_call 18; refine Calls.mono (specIsWord_any _ _) ?_; rintro e v2 ⟨rfl, hw1⟩; rw [hw1]; clear hw1) | (go_at_call 21; refine Calls.mono (portS_any _ _) ?_; rintro e v2 ⟨rfl, hw1⟩; rw [hw1]; clear hw1))
            go_ret
            exact ⟨ret_bool (by rw [E.out]; simp), HL0.out.bel⟩
          · rw [ha2] at E
            cases ha3 : poB r.low
            · rw [ha3] at E
              go_enter Try.func36, Try.ntmps36
              go_upto_region 1 with fail
              generalize (w.alloc (.cells #[.bool r.inn, .int .i64 r.proto, .int .i64 r.addr, .int .i64 r.bits, .int .i64 r.low, .int .i64 r.high, .int .i64 r.group] 44)) = u0 at *
              generalize w.heap.size = b0 at *
              have k1 := HL0.out.cel 1 _ rfl
              have k2 := HL0.out.cel 2 _ rfl
              have k3 := HL0.out.cel 3 _ rfl
              have k4 := HL0.out.cel 4 _ rfl
              have k5 := HL0.out.cel 5 _ rfl
              have k6 := HL0.out.cel 6 _ rfl
              have kl := HL0.out.lt
              go_wp2_with (first | (go_at_call 20; refine Calls.mono (protoS_any _ _) ?_; rintro e v2 ⟨rfl, hw1⟩; rw [hw1]; clear hw1) | (go_at_call 18; refine Calls.mono (specIsWord_any _ _) ?_; rintro e v2 ⟨rfl, hw1⟩; rw [hw1]; clear hw1) | (go_at_call 21; refine Calls.mono (portS_any _ _) ?_; rintro e v2 ⟨rfl, hw1⟩; rw [hw1]; clear hw1))
              go_ret
              exact ⟨ret_bool (by rw [E.out]; simp), HL0.out.bel⟩
            · rw [ha3] at E
              cases ha4 : poB r.high
              · rw [ha4] at E
                go_enter Try.func36, Try.ntmps36
                go_upto_region 1 with fail
                generalize (w.alloc (.cells #[.bool r.inn, .int .i64 r.proto, .int .i64 r.addr, .int .i64 r.bits, .int .i64 r.low, .int .i64 r.high, .int .i64 r.group] 44)) = u0 at *
                generalize w.heap.size = b0 at *
                have k1 := HL0.out.cel 1 _ rfl
                have k2 := HL0.out.cel 2 _ rfl
                have k3 := HL0.out.cel 3 _ rfl
                have k4 := HL0.out.cel 4 _ rfl
                have k5 := HL0.out.cel 5 _ rfl
                have k6 := HL0.out.cel 6 _ rfl
                have kl := HL0.out.lt
                go_wp2_with (first | (go_at_call 20; refine Calls.mono (protoS_any _ _) ?_; rintro e v2 ⟨rfl, hw1⟩; rw [hw1]; clear hw1) | (go_at_call 18; refine Calls.mono (specIsWord_any _ _) ?_; rintro e v2 ⟨rfl, hw1⟩; rw [hw1]; clear hw1) | (go_at_call 21; refine Calls.mono (portS_any _ _) ?_; rintro e v2 ⟨rfl, hw1⟩; rw [hw1]; clear hw1))
                go_ret
                exact ⟨ret_bool (by rw [E.out]; simp), HL0.out.bel⟩
              · rw [ha4] at E
                cases ha5 : decide (-1 ≤ r.group)
                · rw [ha5] at E
                  go_enter Try.func36, Try.ntmps36
                  go_upto_region 1 with fail
                  generalize (w.alloc (.cells #[.bool r.inn, .int .i64 r.proto, .int .i64 r.addr, .int .i64 r.bits, .int .i64 r.low, .int .i64 r.high, .int .i64 r.group] 44)) = u0 at *
                  generalize w.heap.size = b0 at *
                  have k1 := HL0.out.cel 1 _ rfl
                  have k2 := HL0.out.cel 2 _ rfl
                  have k3 := HL0.out.cel 3 _ rfl
                  have k4 := HL0.out.cel 4 _ rfl
                  have k5 := HL0.out.cel 5 _ rfl
                  have k6 := HL0.out.cel 6 _ rfl
                  have kl := HL0.out.lt
                  go_wp2_with (first | (go_at_call 20; refine Calls.mono (protoS_any _ _) ?_; rintro e v2 ⟨rfl, hw1⟩; rw [hw1]; clear hw1) | (go_at_call 18; refine Calls.mono (specIsWord_any _ _) ?_; rintro e v2 ⟨rfl, hw1⟩; rw [hw1]; clear hw1) | (go_at_call 21; refine Calls.mono (portS_any _ _) ?_; rintro e v2 ⟨rfl, hw1⟩; rw [hw1]; clear hw1))
                  go_ret
                  exact ⟨ret_bool (by rw [E.out]; simp), HL0.out.bel⟩
                · rw [ha5] at E
                  go_enter Try.func36, Try.ntmps36
                  go_upto_region 1 with fail
                  generalize (w.alloc (.cells #[.bool r.inn, .int .i64 r.proto, .int .i64 r.addr, .int .i64 r.bits, .int .i64 r.low, .int .i64 r.high, .int .i64 r.group] 44)) = u0 at *
                  generalize w.heap.size = b0 at *
                  have k1 := HL0.out.cel 1 _ rfl
                  have k2 := HL0.out.cel 2 _ rfl
                  have k3 := HL0.out.cel 3 _ rfl
                  have k4 := HL0.out.cel 4 _ rfl
                  have k5 := HL0.out.cel 5 _ rfl
                  have k6 := HL0.out.cel 6 _ rfl
                  have kl := HL0.out.lt
                  go_wp2_with (first | (go_at_call 20; refine Calls.mono (protoS_any _ _) ?_; rintro e v2 ⟨rfl, hw1⟩; rw [hw1]; clear hw1) | (go_at_call 18; refine Calls.mono (specIsWord_any _ _) ?_; rintro e v2 ⟨rfl, hw1⟩; rw [hw1]; clear hw1) | (go_at_call 21; refine Calls.mono (portS_any _ _) ?_; rintro e v2 ⟨rfl, hw1⟩; rw [hw1]; clear hw1))
                  go_ret
                  exact ⟨ret_bool (by rw [E.out]; simp), HL0.out.bel⟩
  · rw [hp] at E
    cases ha0 : isW r.addr
    · rw [ha0] at E
      go_enter Try.func36, Try.ntmps36
      go_upto_region 1 with fail
      generalize (w.alloc (.cells #[.bool r.inn, .int .i64 r.proto, .int .i64 r.addr, .int .i64 r.bits, .int .i64 r.low, .int .i64 r.high, .int .i64 r.group] 44)) = u0 at *
      generalize w.heap.size = b0 at *
      have k1 := HL0.out.cel 1 _ rfl
      have k2 := HL0.out.cel 2 _ rfl
      have k3 := HL0.out.cel 3 _ rfl
      have k4 := HL0.out.cel 4 _ rfl
      have k5 := HL0.out.cel 5 _ rfl
      have k6 := HL0.out.cel 6 _ rfl
      have kl := HL0.out.lt
      go_wp2_with (first | (go_at_call 20; refine Calls.mono (protoS_any _ _) ?_; rintro e v2 ⟨rfl, hw1⟩; rw [hw1]; clear hw1) | (go_at_call 18; refine Calls.mono (specIsWord_any _ _) ?_; rintro e v2 ⟨rfl, hw1⟩; rw [hw1]; clear hw1) | (go_at_call 21; refine Calls.mono (portS_any _ _) ?_; rintro e v2 ⟨rfl, hw1⟩; rw [hw1]; clear hw1))
      go_ret
      exact ⟨ret_bool (by rw [E.out]; simp), HL0.out.bel⟩
    · rw [ha0] at E
      cases ha1 : decide (0 ≤ r.bits)
      · rw [ha1] at E
        go_enter Try.func36, Try.ntmps36
        go_upto_region 1 with fail
        generalize (w.alloc (.cells #[.bool r.inn, .int .i64 r.proto, .int .i64 r.addr, .int .i64 r.bits, .int .i64 r.low, .int .i64 r.high, .int .i64 r.group] 44)) = u0 at *
        generalize w.heap.size = b0 at *
        have k1 := HL0.out.cel 1 _ rfl
        have k2 := HL0.out.cel 2 _ rfl
        have k3 := HL0.out.cel 3 _ rfl
        have k4 := HL0.out.cel 4 _ rfl
        have k5 := HL0.out.cel 5 _ rfl
        have k6 := HL0.out.cel 6 _ rfl
        have kl := HL0.out.lt
        go_wp2_with (first | (go_at_call 20; refine Calls.mono (protoS_any _ _) ?_; rintro e v2 ⟨rfl, hw1⟩; rw [hw1]; clear hw1) | (go_at_call 18; refine Calls.mono (specIsWord_any _ _) ?_; rintro e v2 ⟨rfl, hw1⟩; rw [hw1]; clear hw1) | (go_at_call 21; refine Calls.mono (portS_any _ _) ?_; rintro e v2 ⟨rfl, hw1⟩; rw [hw1]; clear hw1))
        go_ret
        exact ⟨ret_bool (by rw [E.out]; simp), HL0.out.bel⟩
      · rw [ha1] at E
        cases ha2 : decide (r.bits ≤ 32)
        · rw [ha2] at E
          go_enter Try.func36, Try.ntmps36
          go_upto_region 1 with fail
          generalize (w.alloc (.cells #[.bool r.inn, .int .i64 r.proto, .int .i64 r.addr, .int .i64 r.bits, .int .i64 r.low, .int .i64 r.high, .int .i64 r.group] 44)) = u0 at *
          generalize w.heap.size = b0 at *
          have k1 := HL0.out.cel 1 _ rfl
          have k2 := HL0.out.cel 2 _ rfl
          have k3 := HL0.out.cel 3 _ rfl
          have k4 := HL0.out.cel 4 _ rfl
          have k5 := HL0.out.cel 5 _ rfl
          have k6 := HL0.out.cel 6 _ rfl
          have kl := HL0.out.lt
          go_wp2_with (first | (go_at_call 20; refine Calls.mono (protoS_any _ _) ?_; rintro e v2 ⟨rfl, hw1⟩; rw [hw1]; clear hw1) | (go_at_call 18; refine Calls.mono (specIsWord_any _ _) ?_; rintro e v2 ⟨rfl, hw1⟩; rw [hw1]; clear hw1) | (go_at_call 21; refine Calls.mono (portS_any _ _) ?_; rintro e v2 ⟨rfl, hw1⟩; rw [hw1]; clear hw1))
          go_ret
          exact ⟨ret_bool (by rw [E.out]; simp), HL0.out.bel⟩
        · rw [ha2] at E
          cases ha3 : poB r.low
          · rw [ha3] at E
            go_enter Try.func36, Try.ntmps36
            go_upto_region 1 with fail
            generalize (w.alloc (.cells #[.bool r.inn, .int .i64 r.proto, .int .i64 r.addr, .int .i64 r.bits, .int .i64 r.low, .int .i64 r.high, .int .i64 r.group] 44)) = u0 at *
            generalize w.heap.size = b0 at *
            have k1 := HL0.out.cel 1 _ rfl
            have k2 := HL0.out.cel 2 _ rfl
            have k3 := HL0.out.cel 3 _ rfl
            have k4 := HL0.out.cel 4 _ rfl
            have k5 := HL0.out.cel 5 _ rfl
            have k6 := HL0.out.cel 6 _ rfl
            have kl := HL0.out.lt
            go_wp2_with (first | (go_at_call 20; refine Calls.mono (protoS_any _ _) ?_; rintro e v2 ⟨rfl, hw1⟩; rw [hw1]; clear hw1) | (go_at_call 18; refine Calls.mono (specIsWord_any _ _) ?_; rintro e v2 ⟨rfl, hw1⟩; rw [hw1]; clear hw1) | (go_at_call 21; refine Calls.mono (portS_any _ _) ?_; rintro e v2 ⟨rfl, hw1⟩; rw [hw1]; clear hw1))
            go_ret
            exact ⟨ret_bool (by rw [E.out]; simp), HL0.out.bel⟩
          · rw [ha3] at E
            cases ha4 : poB r.high
            · rw [ha4] at E
              go_enter Try.func36, Try.ntmps36
              go_upto_region 1 with fail
              generalize (w.alloc (.cells #[.bool r.inn, .int .i64 r.proto, .int .i64 r.addr, .int .i64 r.bits, .int .i64 r.low, .int .i64 r.high, .int .i64 r.group] 44)) = u0 at *
              generalize w.heap.size = b0 at *
              have k1 := HL0.out.cel 1 _ rfl
              have k2 := HL0.out.cel 2 _ rfl
              have k3 := HL0.out.cel 3 _ rfl
              have k4 := HL0.out.cel 4 _ rfl
              have k5 := HL0.out.cel 5 _ rfl
              have k6 := HL0.out.cel 6 _ rfl
              have kl := HL0.out.lt
              go_wp2_with (first | (go_at_call 20; refine Calls.mono (protoS_any _ _) ?_; rintro e v2 ⟨rfl, hw1⟩; rw [hw1]; clear hw1) | (go_at_call 18; refine Calls.mono (specIsWord_any _ _) ?_; rintro e v2 ⟨rfl, hw1⟩; rw [hw1]; clear hw1) | (go_at_call 21; refine Calls.mono (portS_any _ _) ?_; rintro e v2 ⟨rfl, hw1⟩; rw [hw1]; clear hw1))
              go_ret
              exact ⟨ret_bool (by rw [E.out]; simp), HL0.out.bel⟩
            · rw [ha4] at E
              cases ha5 : decide (-1 ≤ r.group)
              · rw [ha5] at E
                go_enter Try.func36, Try.ntmps36
                go_upto_region 1 with fail
                generalize (w.alloc (.cells #[.bool r.inn, .int .i64 r.proto, .int .i64 r.addr, .int .i64 r.bits, .int .i64 r.low, .int .i64 r.high, .int .i64 r.group] 44)) = u0 at *
                generalize w.heap.size = b0 at *
                have k1 := HL0.out.cel 1 _ rfl
                have k2 := HL0.out.cel 2 _ rfl
                have k3 := HL0.out.cel 3 _ rfl
                have k4 := HL0.out.cel 4 _ rfl
                have k5 := HL0.out.cel 5 _ rfl
                have k6 := HL0.out.cel 6 _ rfl
                have kl := HL0.out.lt
                go_wp2_with (first | (go_at_call 20; refine Calls.mono (protoS_any _ _) ?_; rintro e v2 ⟨rfl, hw1⟩; rw [hw1]; clear hw1) | (go_at_call 18; refine Calls.mono (specIsWord_any _ _) ?_; rintro e v2 ⟨rfl, hw1⟩; rw [hw1]; clear hw1) | (go_at_call 21; refine Calls.mono (portS_any _ _) ?_; rintro e v2 ⟨rfl, hw1⟩; rw [hw1]; clear hw1))
                go_ret
                exact ⟨ret_bool (by rw [E.out]; simp), HL0.out.bel⟩
              · rw [ha5] at E
                go_enter Try.func36, Try.ntmps36
                go_upto_region 1 with fail
                generalize (w.alloc (.cells #[.bool r.inn, .int .i64 r.proto, .int .i64 r.addr, .int .i64 r.bits, .int .i64 r.low, .int .i64 r.high, .int .i64 r.group] 44)) = u0 at *
                generalize w.heap.size = b0 at *
                have k1 := HL0.out.cel 1 _ rfl
                have k2 := HL0.out.cel 2 _ rfl
                have k3 := HL0.out.cel 3 _ rfl
                have k4 := HL0.out.cel 4 _ rfl
                have k5 := HL0.out.cel 5 _ rfl
                have k6 := HL0.out.cel 6 _ rfl
                have kl := HL0.out.lt
                go_wp2_with (first | (go_at_call 20; refine Calls.mono (protoS_any _ _) ?_; rintro e v2 ⟨rfl, hw1⟩; rw [hw1]; clear hw1) | (go_at_call 18; refine Calls.mono (specIsWord_any _ _) ?_; rintro e v2 ⟨rfl, hw1⟩; rw [hw1]; clear hw1) | (go_at_call 21; refine Calls.mono (portS_any _ _) ?_; rintro e v2 ⟨rfl, hw1⟩; rw [hw1]; clear hw1))
                go_ret
                exact ⟨ret_bool (by rw [E.out]; simp), HL0.out.bel⟩
def scB (c : CN) (t : Int) : Bool := prB c.proto && isW c.a && isW c.b && poB c.ap && poB c.bp && poB c.outer && decide (1 ≤ c.state) && decide (c.state ≤ 3) && (c.proto == 6 || c.state == 2) && decide (0 ≤ c.seen) && decide (c.seen ≤ t)
set_option maxRecDepth 100000 in
set_option maxHeartbeats 4000000 in
theorem connS_any (c : CN) (t : Int) (w : World) : Calls Try.prog 23 #[cnA c, .int .i64 t] w fun e w' => e = .returned (.bool (scB c t)) ∧ Below w.heap.size w w' := by
  have HL0 : Hid (LG w (w.alloc (.cells #[.int .i64 c.proto, .int .i64 c.a, .int .i64 c.ap, .int .i64 c.b, .int .i64 c.bp, .int .i64 c.outer, .int .i64 c.state, .bool c.fa, .bool c.fb, .int .i64 c.seen] 59)) w.heap.size #[.int .i64 c.proto, .int .i64 c.a, .int .i64 c.ap, .int .i64 c.b, .int .i64 c.bp, .int .i64 c.outer, .int .i64 c.state, .bool c.fa, .bool c.fb, .int .i64 c.seen] 59) := LG.new w _ _
  have E : Hid (scB c t = (prB c.proto && isW c.a && isW c.b && poB c.ap && poB c.bp && poB c.outer && decide (1 ≤ c.state) && decide (c.state ≤ 3) && (c.proto == 6 || c.state == 2) && decide (0 ≤ c.seen) && decide (c.seen ≤ t))) := rfl
  unfold cnA
  cases h0 : prB c.proto
  · rw [h0] at E
    go_enter Try.func23, Try.ntmps23
    go_upto_region 1 with fail
    generalize (w.alloc (.cells #[.int .i64 c.proto, .int .i64 c.a, .int .i64 c.ap, .int .i64 c.b, .int .i64 c.bp, .int .i64 c.outer, .int .i64 c.state, .bool c.fa, .bool c.fb, .int .i64 c.seen] 59)) = u0 at *
    generalize w.heap.size = b0 at *
    have k0 := HL0.out.cel 0 _ rfl
    have k1 := HL0.out.cel 1 _ rfl
    have k2 := HL0.out.cel 2 _ rfl
    have k3 := HL0.out.cel 3 _ rfl
    have k4 := HL0.out.cel 4 _ rfl
    have k5 := HL0.out.cel 5 _ rfl
    have k6 := HL0.out.cel 6 _ rfl
    have k9 := HL0.out.cel 9 _ rfl
    have kl := HL0.out.lt
    go_wp2_with (first | (go_at_call 20; refine Calls.mono (protoS_any _ _) ?_; rintro e v2 ⟨rfl, hw1⟩; rw [hw1]; clear hw1) | (go_at_call 18; refine Calls.mono (specIsWord_any _ _) ?_; rintro e v2 ⟨rfl, hw1⟩; rw [hw1]; clear hw1) | (go_at_call 21; refine Calls.mono (portS_any _ _) ?_; rintro e v2 ⟨rfl, hw1⟩; rw [hw1]; clear hw1))
    go_ret
    exact ⟨ret_bool (by rw [E.out]; simp), HL0.out.bel⟩
  · rw [h0] at E
    cases h1 : isW c.a
    · rw [h1] at E
      go_enter Try.func23, Try.ntmps23
      go_upto_region 1 with fail
      generalize (w.alloc (.cells #[.int .i64 c.proto, .int .i64 c.a, .int .i64 c.ap, .int .i64 c.b, .int .i64 c.bp, .int .i64 c.outer, .int .i64 c.state, .bool c.fa, .bool c.fb, .int .i64 c.seen] 59)) = u0 at *
      generalize w.heap.size = b0 at *
      have k0 := HL0.out.cel 0 _ rfl
      have k1 := HL0.out.cel 1 _ rfl
      have k2 := HL0.out.cel 2 _ rfl
      have k3 := HL0.out.cel 3 _ rfl
      have k4 := HL0.out.cel 4 _ rfl
      have k5 := HL0.out.cel 5 _ rfl
      have k6 := HL0.out.cel 6 _ rfl
      have k9 := HL0.out.cel 9 _ rfl
      have kl := HL0.out.lt
      go_wp2_with (first | (go_at_call 20; refine Calls.mono (protoS_any _ _) ?_; rintro e v2 ⟨rfl, hw1⟩; rw [hw1]; clear hw1) | (go_at_call 18; refine Calls.mono (specIsWord_any _ _) ?_; rintro e v2 ⟨rfl, hw1⟩; rw [hw1]; clear hw1) | (go_at_call 21; refine Calls.mono (portS_any _ _) ?_; rintro e v2 ⟨rfl, hw1⟩; rw [hw1]; clear hw1))
      go_ret
      exact ⟨ret_bool (by rw [E.out]; simp), HL0.out.bel⟩
    · rw [h1] at E
      cases h2 : isW c.b
      · rw [h2] at E
        go_enter Try.func23, Try.ntmps23
        go_upto_region 1 with fail
        generalize (w.alloc (.cells #[.int .i64 c.proto, .int .i64 c.a, .int .i64 c.ap, .int .i64 c.b, .int .i64 c.bp, .int .i64 c.outer, .int .i64 c.state, .bool c.fa, .bool c.fb, .int .i64 c.seen] 59)) = u0 at *
        generalize w.heap.size = b0 at *
        have k0 := HL0.out.cel 0 _ rfl
        have k1 := HL0.out.cel 1 _ rfl
        have k2 := HL0.out.cel 2 _ rfl
        have k3 := HL0.out.cel 3 _ rfl
        have k4 := HL0.out.cel 4 _ rfl
        have k5 := HL0.out.cel 5 _ rfl
        have k6 := HL0.out.cel 6 _ rfl
        have k9 := HL0.out.cel 9 _ rfl
        have kl := HL0.out.lt
        go_wp2_with (first | (go_at_call 20; refine Calls.mono (protoS_any _ _) ?_; rintro e v2 ⟨rfl, hw1⟩; rw [hw1]; clear hw1) | (go_at_call 18; refine Calls.mono (specIsWord_any _ _) ?_; rintro e v2 ⟨rfl, hw1⟩; rw [hw1]; clear hw1) | (go_at_call 21; refine Calls.mono (portS_any _ _) ?_; rintro e v2 ⟨rfl, hw1⟩; rw [hw1]; clear hw1))
        go_ret
        exact ⟨ret_bool (by rw [E.out]; simp), HL0.out.bel⟩
      · rw [h2] at E
        cases h3 : poB c.ap
        · rw [h3] at E
          go_enter Try.func23, Try.ntmps23
          go_upto_region 1 with fail
          generalize (w.alloc (.cells #[.int .i64 c.proto, .int .i64 c.a, .int .i64 c.ap, .int .i64 c.b, .int .i64 c.bp, .int .i64 c.outer, .int .i64 c.state, .bool c.fa, .bool c.fb, .int .i64 c.seen] 59)) = u0 at *
          generalize w.heap.size = b0 at *
          have k0 := HL0.out.cel 0 _ rfl
          have k1 := HL0.out.cel 1 _ rfl
          have k2 := HL0.out.cel 2 _ rfl
          have k3 := HL0.out.cel 3 _ rfl
          have k4 := HL0.out.cel 4 _ rfl
          have k5 := HL0.out.cel 5 _ rfl
          have k6 := HL0.out.cel 6 _ rfl
          have k9 := HL0.out.cel 9 _ rfl
          have kl := HL0.out.lt
          go_wp2_with (first | (go_at_call 20; refine Calls.mono (protoS_any _ _) ?_; rintro e v2 ⟨rfl, hw1⟩; rw [hw1]; clear hw1) | (go_at_call 18; refine Calls.mono (specIsWord_any _ _) ?_; rintro e v2 ⟨rfl, hw1⟩; rw [hw1]; clear hw1) | (go_at_call 21; refine Calls.mono (portS_any _ _) ?_; rintro e v2 ⟨rfl, hw1⟩; rw [hw1]; clear hw1))
          go_ret
          exact ⟨ret_bool (by rw [E.out]; simp), HL0.out.bel⟩
        · rw [h3] at E
          cases h4 : poB c.bp
          · rw [h4] at E
            go_enter Try.func23, Try.ntmps23
            go_upto_region 1 with fail
            generalize (w.alloc (.cells #[.int .i64 c.proto, .int .i64 c.a, .int .i64 c.ap, .int .i64 c.b, .int .i64 c.bp, .int .i64 c.outer, .int .i64 c.state, .bool c.fa, .bool c.fb, .int .i64 c.seen] 59)) = u0 at *
            generalize w.heap.size = b0 at *
            have k0 := HL0.out.cel 0 _ rfl
            have k1 := HL0.out.cel 1 _ rfl
            have k2 := HL0.out.cel 2 _ rfl
            have k3 := HL0.out.cel 3 _ rfl
            have k4 := HL0.out.cel 4 _ rfl
            have k5 := HL0.out.cel 5 _ rfl
            have k6 := HL0.out.cel 6 _ rfl
            have k9 := HL0.out.cel 9 _ rfl
            have kl := HL0.out.lt
            go_wp2_with (first | (go_at_call 20; refine Calls.mono (protoS_any _ _) ?_; rintro e v2 ⟨rfl, hw1⟩; rw [hw1]; clear hw1) | (go_at_call 18; refine Calls.mono (specIsWord_any _ _) ?_; rintro e v2 ⟨rfl, hw1⟩; rw [hw1]; clear hw1) | (go_at_call 21; refine Calls.mono (portS_any _ _) ?_; rintro e v2 ⟨rfl, hw1⟩; rw [hw1]; clear hw1))
            go_ret
            exact ⟨ret_bool (by rw [E.out]; simp), HL0.out.bel⟩
          · rw [h4] at E
            cases h5 : poB c.outer
            · rw [h5] at E
              go_enter Try.func23, Try.ntmps23
              go_upto_region 1 with fail
              generalize (w.alloc (.cells #[.int .i64 c.proto, .int .i64 c.a, .int .i64 c.ap, .int .i64 c.b, .int .i64 c.bp, .int .i64 c.outer, .int .i64 c.state, .bool c.fa, .bool c.fb, .int .i64 c.seen] 59)) = u0 at *
              generalize w.heap.size = b0 at *
              have k0 := HL0.out.cel 0 _ rfl
              have k1 := HL0.out.cel 1 _ rfl
              have k2 := HL0.out.cel 2 _ rfl
              have k3 := HL0.out.cel 3 _ rfl
              have k4 := HL0.out.cel 4 _ rfl
              have k5 := HL0.out.cel 5 _ rfl
              have k6 := HL0.out.cel 6 _ rfl
              have k9 := HL0.out.cel 9 _ rfl
              have kl := HL0.out.lt
              go_wp2_with (first | (go_at_call 20; refine Calls.mono (protoS_any _ _) ?_; rintro e v2 ⟨rfl, hw1⟩; rw [hw1]; clear hw1) | (go_at_call 18; refine Calls.mono (specIsWord_any _ _) ?_; rintro e v2 ⟨rfl, hw1⟩; rw [hw1]; clear hw1) | (go_at_call 21; refine Calls.mono (portS_any _ _) ?_; rintro e v2 ⟨rfl, hw1⟩; rw [hw1]; clear hw1))
              go_ret
              exact ⟨ret_bool (by rw [E.out]; simp), HL0.out.bel⟩
            · rw [h5] at E
              cases h6 : decide (1 ≤ c.state)
              · rw [h6] at E
                go_enter Try.func23, Try.ntmps23
                go_upto_region 1 with fail
                generalize (w.alloc (.cells #[.int .i64 c.proto, .int .i64 c.a, .int .i64 c.ap, .int .i64 c.b, .int .i64 c.bp, .int .i64 c.outer, .int .i64 c.state, .bool c.fa, .bool c.fb, .int .i64 c.seen] 59)) = u0 at *
                generalize w.heap.size = b0 at *
                have k0 := HL0.out.cel 0 _ rfl
                have k1 := HL0.out.cel 1 _ rfl
                have k2 := HL0.out.cel 2 _ rfl
                have k3 := HL0.out.cel 3 _ rfl
                have k4 := HL0.out.cel 4 _ rfl
                have k5 := HL0.out.cel 5 _ rfl
                have k6 := HL0.out.cel 6 _ rfl
                have k9 := HL0.out.cel 9 _ rfl
                have kl := HL0.out.lt
                go_wp2_with (first | (go_at_call 20; refine Calls.mono (protoS_any _ _) ?_; rintro e v2 ⟨rfl, hw1⟩; rw [hw1]; clear hw1) | (go_at_call 18; refine Calls.mono (specIsWord_any _ _) ?_; rintro e v2 ⟨rfl, hw1⟩; rw [hw1]; clear hw1) | (go_at_call 21; refine Calls.mono (portS_any _ _) ?_; rintro e v2 ⟨rfl, hw1⟩; rw [hw1]; clear hw1))
                go_ret
                exact ⟨ret_bool (by rw [E.out]; simp), HL0.out.bel⟩
              · rw [h6] at E
                cases h7 : decide (c.state ≤ 3)
                · rw [h7] at E
                  go_enter Try.func23, Try.ntmps23
                  go_upto_region 1 with fail
                  generalize (w.alloc (.cells #[.int .i64 c.proto, .int .i64 c.a, .int .i64 c.ap, .int .i64 c.b, .int .i64 c.bp, .int .i64 c.outer, .int .i64 c.state, .bool c.fa, .bool c.fb, .int .i64 c.seen] 59)) = u0 at *
                  generalize w.heap.size = b0 at *
                  have k0 := HL0.out.cel 0 _ rfl
                  have k1 := HL0.out.cel 1 _ rfl
                  have k2 := HL0.out.cel 2 _ rfl
                  have k3 := HL0.out.cel 3 _ rfl
                  have k4 := HL0.out.cel 4 _ rfl
                  have k5 := HL0.out.cel 5 _ rfl
                  have k6 := HL0.out.cel 6 _ rfl
                  have k9 := HL0.out.cel 9 _ rfl
                  have kl := HL0.out.lt
                  go_wp2_with (first | (go_at_call 20; refine Calls.mono (protoS_any _ _) ?_; rintro e v2 ⟨rfl, hw1⟩; rw [hw1]; clear hw1) | (go_at_call 18; refine Calls.mono (specIsWord_any _ _) ?_; rintro e v2 ⟨rfl, hw1⟩; rw [hw1]; clear hw1) | (go_at_call 21; refine Calls.mono (portS_any _ _) ?_; rintro e v2 ⟨rfl, hw1⟩; rw [hw1]; clear hw1))
                  go_ret
                  exact ⟨ret_bool (by rw [E.out]; simp), HL0.out.bel⟩
                · rw [h7] at E
                  cases hx : (c.proto == 6)
                  · rw [hx] at E
                    cases hc0 : (c.state == 2)
                    · rw [hc0] at E
                      go_enter Try.func23, Try.ntmps23
                      go_upto_region 1 with fail
                      generalize (w.alloc (.cells #[.int .i64 c.proto, .int .i64 c.a, .int .i64 c.ap, .int .i64 c.b, .int .i64 c.bp, .int .i64 c.outer, .int .i64 c.state, .bool c.fa, .bool c.fb, .int .i64 c.seen] 59)) = u0 at *
                      generalize w.heap.size = b0 at *
                      have k0 := HL0.out.cel 0 _ rfl
                      have k1 := HL0.out.cel 1 _ rfl
                      have k2 := HL0.out.cel 2 _ rfl
                      have k3 := HL0.out.cel 3 _ rfl
                      have k4 := HL0.out.cel 4 _ rfl
                      have k5 := HL0.out.cel 5 _ rfl
                      have k6 := HL0.out.cel 6 _ rfl
                      have k9 := HL0.out.cel 9 _ rfl
                      have kl := HL0.out.lt
                      go_wp2_with (first | (go_at_call 20; refine Calls.mono (protoS_any _ _) ?_; rintro e v2 ⟨rfl, hw1⟩; rw [hw1]; clear hw1) | (go_at_call 18; refine Calls.mono (specIsWord_any _ _) ?_; rintro e v2 ⟨rfl, hw1⟩; rw [hw1]; clear hw1) | (go_at_call 21; refine Calls.mono (portS_any _ _) ?_; rintro e v2 ⟨rfl, hw1⟩; rw [hw1]; clear hw1))
                      go_ret
                      exact ⟨ret_bool (by rw [E.out]; simp), HL0.out.bel⟩
                    · rw [hc0] at E
                      cases hc1 : decide (0 ≤ c.seen)
                      · rw [hc1] at E
                        go_enter Try.func23, Try.ntmps23
                        go_upto_region 1 with fail
                        generalize (w.alloc (.cells #[.int .i64 c.proto, .int .i64 c.a, .int .i64 c.ap, .int .i64 c.b, .int .i64 c.bp, .int .i64 c.outer, .int .i64 c.state, .bool c.fa, .bool c.fb, .int .i64 c.seen] 59)) = u0 at *
                        generalize w.heap.size = b0 at *
                        have k0 := HL0.out.cel 0 _ rfl
                        have k1 := HL0.out.cel 1 _ rfl
                        have k2 := HL0.out.cel 2 _ rfl
                        have k3 := HL0.out.cel 3 _ rfl
                        have k4 := HL0.out.cel 4 _ rfl
                        have k5 := HL0.out.cel 5 _ rfl
                        have k6 := HL0.out.cel 6 _ rfl
                        have k9 := HL0.out.cel 9 _ rfl
                        have kl := HL0.out.lt
                        go_wp2_with (first | (go_at_call 20; refine Calls.mono (protoS_any _ _) ?_; rintro e v2 ⟨rfl, hw1⟩; rw [hw1]; clear hw1) | (go_at_call 18; refine Calls.mono (specIsWord_any _ _) ?_; rintro e v2 ⟨rfl, hw1⟩; rw [hw1]; clear hw1) | (go_at_call 21; refine Calls.mono (portS_any _ _) ?_; rintro e v2 ⟨rfl, hw1⟩; rw [hw1]; clear hw1))
                        go_ret
                        exact ⟨ret_bool (by rw [E.out]; simp), HL0.out.bel⟩
                      · rw [hc1] at E
                        go_enter Try.func23, Try.ntmps23
                        go_upto_region 1 with fail
                        generalize (w.alloc (.cells #[.int .i64 c.proto, .int .i64 c.a, .int .i64 c.ap, .int .i64 c.b, .int .i64 c.bp, .int .i64 c.outer, .int .i64 c.state, .bool c.fa, .bool c.fb, .int .i64 c.seen] 59)) = u0 at *
                        generalize w.heap.size = b0 at *
                        have k0 := HL0.out.cel 0 _ rfl
                        have k1 := HL0.out.cel 1 _ rfl
                        have k2 := HL0.out.cel 2 _ rfl
                        have k3 := HL0.out.cel 3 _ rfl
                        have k4 := HL0.out.cel 4 _ rfl
                        have k5 := HL0.out.cel 5 _ rfl
                        have k6 := HL0.out.cel 6 _ rfl
                        have k9 := HL0.out.cel 9 _ rfl
                        have kl := HL0.out.lt
                        go_wp2_with (first | (go_at_call 20; refine Calls.mono (protoS_any _ _) ?_; rintro e v2 ⟨rfl, hw1⟩; rw [hw1]; clear hw1) | (go_at_call 18; refine Calls.mono (specIsWord_any _ _) ?_; rintro e v2 ⟨rfl, hw1⟩; rw [hw1]; clear hw1) | (go_at_call 21; refine Calls.mono (portS_any _ _) ?_; rintro e v2 ⟨rfl, hw1⟩; rw [hw1]; clear hw1))
                        go_ret
                        exact ⟨ret_bool (by rw [E.out]; simp), HL0.out.bel⟩
                  · rw [hx] at E
                    cases hc0 : decide (0 ≤ c.seen)
                    · rw [hc0] at E
                      go_enter Try.func23, Try.ntmps23
                      go_upto_region 1 with fail
                      generalize (w.alloc (.cells #[.int .i64 c.proto, .int .i64 c.a, .int .i64 c.ap, .int .i64 c.b, .int .i64 c.bp, .int .i64 c.outer, .int .i64 c.state, .bool c.fa, .bool c.fb, .int .i64 c.seen] 59)) = u0 at *
                      generalize w.heap.size = b0 at *
                      have k0 := HL0.out.cel 0 _ rfl
                      have k1 := HL0.out.cel 1 _ rfl
                      have k2 := HL0.out.cel 2 _ rfl
                      have k3 := HL0.out.cel 3 _ rfl
                      have k4 := HL0.out.cel 4 _ rfl
                      have k5 := HL0.out.cel 5 _ rfl
                      have k6 := HL0.out.cel 6 _ rfl
                      have k9 := HL0.out.cel 9 _ rfl
                      have kl := HL0.out.lt
                      go_wp2_with (first | (go_at_call 20; refine Calls.mono (protoS_any _ _) ?_; rintro e v2 ⟨rfl, hw1⟩; rw [hw1]; clear hw1) | (go_at_call 18; refine Calls.mono (specIsWord_any _ _) ?_; rintro e v2 ⟨rfl, hw1⟩; rw [hw1]; clear hw1) | (go_at_call 21; refine Calls.mono (portS_any _ _) ?_; rintro e v2 ⟨rfl, hw1⟩; rw [hw1]; clear hw1))
                      go_ret
                      exact ⟨ret_bool (by rw [E.out]; simp), HL0.out.bel⟩
                    · rw [hc0] at E
                      go_enter Try.func23, Try.ntmps23
                      go_upto_region 1 with fail
                      generalize (w.alloc (.cells #[.int .i64 c.proto, .int .i64 c.a, .int .i64 c.ap, .int .i64 c.b, .int .i64 c.bp, .int .i64 c.outer, .int .i64 c.state, .bool c.fa, .bool c.fb, .int .i64 c.seen] 59)) = u0 at *
                      generalize w.heap.size = b0 at *
                      have k0 := HL0.out.cel 0 _ rfl
                      have k1 := HL0.out.cel 1 _ rfl
                      have k2 := HL0.out.cel 2 _ rfl
                      have k3 := HL0.out.cel 3 _ rfl
                      have k4 := HL0.out.cel 4 _ rfl
                      have k5 := HL0.out.cel 5 _ rfl
                      have k6 := HL0.out.cel 6 _ rfl
                      have k9 := HL0.out.cel 9 _ rfl
                      have kl := HL0.out.lt
                      go_wp2_with (first | (go_at_call 20; refine Calls.mono (protoS_any _ _) ?_; rintro e v2 ⟨rfl, hw1⟩; rw [hw1]; clear hw1) | (go_at_call 18; refine Calls.mono (specIsWord_any _ _) ?_; rintro e v2 ⟨rfl, hw1⟩; rw [hw1]; clear hw1) | (go_at_call 21; refine Calls.mono (portS_any _ _) ?_; rintro e v2 ⟨rfl, hw1⟩; rw [hw1]; clear hw1))
                      go_ret
                      exact ⟨ret_bool (by rw [E.out]; simp), HL0.out.bel⟩

def smB (c d : CN) : Bool := !(c.proto != d.proto) && (c.a == d.a && c.ap == d.ap && c.b == d.b && c.bp == d.bp || c.a == d.b && c.ap == d.bp && c.b == d.a && c.bp == d.ap)
set_option maxRecDepth 100000 in
set_option maxHeartbeats 4000000 in
theorem sameS_any (c d : CN) (w : World) : Calls Try.prog 26 #[cnA c, cnA d] w fun e w' => e = .returned (.bool (smB c d)) ∧ Below w.heap.size w w' := by
  have HT0 : Hid (TB w ((w.alloc (.cells #[.int .i64 c.proto, .int .i64 c.a, .int .i64 c.ap, .int .i64 c.b, .int .i64 c.bp, .int .i64 c.outer, .int .i64 c.state, .bool c.fa, .bool c.fb, .int .i64 c.seen] 59)).alloc (.cells #[.int .i64 d.proto, .int .i64 d.a, .int .i64 d.ap, .int .i64 d.b, .int .i64 d.bp, .int .i64 d.outer, .int .i64 d.state, .bool d.fa, .bool d.fb, .int .i64 d.seen] 59)) w.heap.size (w.heap.size + 1) #[.int .i64 c.proto, .int .i64 c.a, .int .i64 c.ap, .int .i64 c.b, .int .i64 c.bp, .int .i64 c.outer, .int .i64 c.state, .bool c.fa, .bool c.fb, .int .i64 c.seen] 59 #[.int .i64 d.proto, .int .i64 d.a, .int .i64 d.ap, .int .i64 d.b, .int .i64 d.bp, .int .i64 d.outer, .int .i64 d.state, .bool d.fa, .bool d.fb, .int .i64 d.seen] 59) := TB.new w _ _ _ _
  have E : Hid (smB c d = (!(c.proto != d.proto) && (c.a == d.a && c.ap == d.ap && c.b == d.b && c.bp == d.bp || c.a == d.b && c.ap == d.bp && c.b == d.a && c.bp == d.ap))) := rfl
  unfold cnA
  cases hp : (c.proto != d.proto)
  · rw [hp] at E
    cases hp0 : (c.a == d.a)
    · rw [hp0] at E
      cases hq0 : (c.a == d.b)
      · rw [hq0] at E
        go_enter Try.func26, Try.ntmps26
        go_upto_region 1 with fail
        generalize ((w.alloc (.cells #[.int .i64 c.proto, .int .i64 c.a, .int .i64 c.ap, .int .i64 c.b, .int .i64 c.bp, .int .i64 c.outer, .int .i64 c.state, .bool c.fa, .bool c.fb, .int .i64 c.seen] 59)).alloc (.cells #[.int .i64 d.proto, .int .i64 d.a, .int .i64 d.ap, .int .i64 d.b, .int .i64 d.bp, .int .i64 d.outer, .int .i64 d.state, .bool d.fa, .bool d.fb, .int .i64 d.seen] 59)) = u0 at *
        generalize w.heap.size + 1 = b1 at *
        generalize w.heap.size = b0 at *
        have k0 := HT0.out.c1 0 _ rfl
        have j0 := HT0.out.c2 0 _ rfl
        have k1 := HT0.out.c1 1 _ rfl
        have j1 := HT0.out.c2 1 _ rfl
        have k2 := HT0.out.c1 2 _ rfl
        have j2 := HT0.out.c2 2 _ rfl
        have k3 := HT0.out.c1 3 _ rfl
        have j3 := HT0.out.c2 3 _ rfl
        have k4 := HT0.out.c1 4 _ rfl
        have j4 := HT0.out.c2 4 _ rfl
        have kl := HT0.out.lt1
        have jl := HT0.out.lt2
        go_wp2
        go_ret
        exact ⟨ret_bool (by rw [E.out]; simp), HT0.out.bel⟩
      · rw [hq0] at E
        cases hq1 : (c.ap == d.bp)
        · rw [hq1] at E
          go_enter Try.func26, Try.ntmps26
          go_upto_region 1 with fail
          generalize ((w.alloc (.cells #[.int .i64 c.proto, .int .i64 c.a, .int .i64 c.ap, .int .i64 c.b, .int .i64 c.bp, .int .i64 c.outer, .int .i64 c.state, .bool c.fa, .bool c.fb, .int .i64 c.seen] 59)).alloc (.cells #[.int .i64 d.proto, .int .i64 d.a, .int .i64 d.ap, .int .i64 d.b, .int .i64 d.bp, .int .i64 d.outer, .int .i64 d.state, .bool d.fa, .bool d.fb, .int .i64 d.seen] 59)) = u0 at *
          generalize w.heap.size + 1 = b1 at *
          generalize w.heap.size = b0 at *
          have k0 := HT0.out.c1 0 _ rfl
          have j0 := HT0.out.c2 0 _ rfl
          have k1 := HT0.out.c1 1 _ rfl
          have j1 := HT0.out.c2 1 _ rfl
          have k2 := HT0.out.c1 2 _ rfl
          have j2 := HT0.out.c2 2 _ rfl
          have k3 := HT0.out.c1 3 _ rfl
          have j3 := HT0.out.c2 3 _ rfl
          have k4 := HT0.out.c1 4 _ rfl
          have j4 := HT0.out.c2 4 _ rfl
          have kl := HT0.out.lt1
          have jl := HT0.out.lt2
          go_wp2
          go_ret
          exact ⟨ret_bool (by rw [E.out]; simp), HT0.out.bel⟩
        · rw [hq1] at E
          cases hq2 : (c.b == d.a)
          · rw [hq2] at E
            go_enter Try.func26, Try.ntmps26
            go_upto_region 1 with fail
            generalize ((w.alloc (.cells #[.int .i64 c.proto, .int .i64 c.a, .int .i64 c.ap, .int .i64 c.b, .int .i64 c.bp, .int .i64 c.outer, .int .i64 c.state, .bool c.fa, .bool c.fb, .int .i64 c.seen] 59)).alloc (.cells #[.int .i64 d.proto, .int .i64 d.a, .int .i64 d.ap, .int .i64 d.b, .int .i64 d.bp, .int .i64 d.outer, .int .i64 d.state, .bool d.fa, .bool d.fb, .int .i64 d.seen] 59)) = u0 at *
            generalize w.heap.size + 1 = b1 at *
            generalize w.heap.size = b0 at *
            have k0 := HT0.out.c1 0 _ rfl
            have j0 := HT0.out.c2 0 _ rfl
            have k1 := HT0.out.c1 1 _ rfl
            have j1 := HT0.out.c2 1 _ rfl
            have k2 := HT0.out.c1 2 _ rfl
            have j2 := HT0.out.c2 2 _ rfl
            have k3 := HT0.out.c1 3 _ rfl
            have j3 := HT0.out.c2 3 _ rfl
            have k4 := HT0.out.c1 4 _ rfl
            have j4 := HT0.out.c2 4 _ rfl
            have kl := HT0.out.lt1
            have jl := HT0.out.lt2
            go_wp2
            go_ret
            exact ⟨ret_bool (by rw [E.out]; simp), HT0.out.bel⟩
          · rw [hq2] at E
            go_enter Try.func26, Try.ntmps26
            go_upto_region 1 with fail
            generalize ((w.alloc (.cells #[.int .i64 c.proto, .int .i64 c.a, .int .i64 c.ap, .int .i64 c.b, .int .i64 c.bp, .int .i64 c.outer, .int .i64 c.state, .bool c.fa, .bool c.fb, .int .i64 c.seen] 59)).alloc (.cells #[.int .i64 d.proto, .int .i64 d.a, .int .i64 d.ap, .int .i64 d.b, .int .i64 d.bp, .int .i64 d.outer, .int .i64 d.state, .bool d.fa, .bool d.fb, .int .i64 d.seen] 59)) = u0 at *
            generalize w.heap.size + 1 = b1 at *
            generalize w.heap.size = b0 at *
            have k0 := HT0.out.c1 0 _ rfl
            have j0 := HT0.out.c2 0 _ rfl
            have k1 := HT0.out.c1 1 _ rfl
            have j1 := HT0.out.c2 1 _ rfl
            have k2 := HT0.out.c1 2 _ rfl
            have j2 := HT0.out.c2 2 _ rfl
            have k3 := HT0.out.c1 3 _ rfl
            have j3 := HT0.out.c2 3 _ rfl
            have k4 := HT0.out.c1 4 _ rfl
            have j4 := HT0.out.c2 4 _ rfl
            have kl := HT0.out.lt1
            have jl := HT0.out.lt2
            go_wp2
            go_ret
            exact ⟨ret_bool (by rw [E.out]; simp), HT0.out.bel⟩
    · rw [hp0] at E
      cases hp1 : (c.ap == d.ap)
      · rw [hp1] at E
        cases hq0 : (c.a == d.b)
        · rw [hq0] at E
          go_enter Try.func26, Try.ntmps26
          go_upto_region 1 with fail
          generalize ((w.alloc (.cells #[.int .i64 c.proto, .int .i64 c.a, .int .i64 c.ap, .int .i64 c.b, .int .i64 c.bp, .int .i64 c.outer, .int .i64 c.state, .bool c.fa, .bool c.fb, .int .i64 c.seen] 59)).alloc (.cells #[.int .i64 d.proto, .int .i64 d.a, .int .i64 d.ap, .int .i64 d.b, .int .i64 d.bp, .int .i64 d.outer, .int .i64 d.state, .bool d.fa, .bool d.fb, .int .i64 d.seen] 59)) = u0 at *
          generalize w.heap.size + 1 = b1 at *
          generalize w.heap.size = b0 at *
          have k0 := HT0.out.c1 0 _ rfl
          have j0 := HT0.out.c2 0 _ rfl
          have k1 := HT0.out.c1 1 _ rfl
          have j1 := HT0.out.c2 1 _ rfl
          have k2 := HT0.out.c1 2 _ rfl
          have j2 := HT0.out.c2 2 _ rfl
          have k3 := HT0.out.c1 3 _ rfl
          have j3 := HT0.out.c2 3 _ rfl
          have k4 := HT0.out.c1 4 _ rfl
          have j4 := HT0.out.c2 4 _ rfl
          have kl := HT0.out.lt1
          have jl := HT0.out.lt2
          go_wp2
          go_ret
          exact ⟨ret_bool (by rw [E.out]; simp), HT0.out.bel⟩
        · rw [hq0] at E
          cases hq1 : (c.ap == d.bp)
          · rw [hq1] at E
            go_enter Try.func26, Try.ntmps26
            go_upto_region 1 with fail
            generalize ((w.alloc (.cells #[.int .i64 c.proto, .int .i64 c.a, .int .i64 c.ap, .int .i64 c.b, .int .i64 c.bp, .int .i64 c.outer, .int .i64 c.state, .bool c.fa, .bool c.fb, .int .i64 c.seen] 59)).alloc (.cells #[.int .i64 d.proto, .int .i64 d.a, .int .i64 d.ap, .int .i64 d.b, .int .i64 d.bp, .int .i64 d.outer, .int .i64 d.state, .bool d.fa, .bool d.fb, .int .i64 d.seen] 59)) = u0 at *
            generalize w.heap.size + 1 = b1 at *
            generalize w.heap.size = b0 at *
            have k0 := HT0.out.c1 0 _ rfl
            have j0 := HT0.out.c2 0 _ rfl
            have k1 := HT0.out.c1 1 _ rfl
            have j1 := HT0.out.c2 1 _ rfl
            have k2 := HT0.out.c1 2 _ rfl
            have j2 := HT0.out.c2 2 _ rfl
            have k3 := HT0.out.c1 3 _ rfl
            have j3 := HT0.out.c2 3 _ rfl
            have k4 := HT0.out.c1 4 _ rfl
            have j4 := HT0.out.c2 4 _ rfl
            have kl := HT0.out.lt1
            have jl := HT0.out.lt2
            go_wp2
            go_ret
            exact ⟨ret_bool (by rw [E.out]; simp), HT0.out.bel⟩
          · rw [hq1] at E
            cases hq2 : (c.b == d.a)
            · rw [hq2] at E
              go_enter Try.func26, Try.ntmps26
              go_upto_region 1 with fail
              generalize ((w.alloc (.cells #[.int .i64 c.proto, .int .i64 c.a, .int .i64 c.ap, .int .i64 c.b, .int .i64 c.bp, .int .i64 c.outer, .int .i64 c.state, .bool c.fa, .bool c.fb, .int .i64 c.seen] 59)).alloc (.cells #[.int .i64 d.proto, .int .i64 d.a, .int .i64 d.ap, .int .i64 d.b, .int .i64 d.bp, .int .i64 d.outer, .int .i64 d.state, .bool d.fa, .bool d.fb, .int .i64 d.seen] 59)) = u0 at *
              generalize w.heap.size + 1 = b1 at *
              generalize w.heap.size = b0 at *
              have k0 := HT0.out.c1 0 _ rfl
              have j0 := HT0.out.c2 0 _ rfl
              have k1 := HT0.out.c1 1 _ rfl
              have j1 := HT0.out.c2 1 _ rfl
              have k2 := HT0.out.c1 2 _ rfl
              have j2 := HT0.out.c2 2 _ rfl
              have k3 := HT0.out.c1 3 _ rfl
              have j3 := HT0.out.c2 3 _ rfl
              have k4 := HT0.out.c1 4 _ rfl
              have j4 := HT0.out.c2 4 _ rfl
              have kl := HT0.out.lt1
              have jl := HT0.out.lt2
              go_wp2
              go_ret
              exact ⟨ret_bool (by rw [E.out]; simp), HT0.out.bel⟩
            · rw [hq2] at E
              go_enter Try.func26, Try.ntmps26
              go_upto_region 1 with fail
              generalize ((w.alloc (.cells #[.int .i64 c.proto, .int .i64 c.a, .int .i64 c.ap, .int .i64 c.b, .int .i64 c.bp, .int .i64 c.outer, .int .i64 c.state, .bool c.fa, .bool c.fb, .int .i64 c.seen] 59)).alloc (.cells #[.int .i64 d.proto, .int .i64 d.a, .int .i64 d.ap, .int .i64 d.b, .int .i64 d.bp, .int .i64 d.outer, .int .i64 d.state, .bool d.fa, .bool d.fb, .int .i64 d.seen] 59)) = u0 at *
              generalize w.heap.size + 1 = b1 at *
              generalize w.heap.size = b0 at *
              have k0 := HT0.out.c1 0 _ rfl
              have j0 := HT0.out.c2 0 _ rfl
              have k1 := HT0.out.c1 1 _ rfl
              have j1 := HT0.out.c2 1 _ rfl
              have k2 := HT0.out.c1 2 _ rfl
              have j2 := HT0.out.c2 2 _ rfl
              have k3 := HT0.out.c1 3 _ rfl
              have j3 := HT0.out.c2 3 _ rfl
              have k4 := HT0.out.c1 4 _ rfl
              have j4 := HT0.out.c2 4 _ rfl
              have kl := HT0.out.lt1
              have jl := HT0.out.lt2
              go_wp2
              go_ret
              exact ⟨ret_bool (by rw [E.out]; simp), HT0.out.bel⟩
      · rw [hp1] at E
        cases hp2 : (c.b == d.b)
        · rw [hp2] at E
          cases hq0 : (c.a == d.b)
          · rw [hq0] at E
            go_enter Try.func26, Try.ntmps26
            go_upto_region 1 with fail
            generalize ((w.alloc (.cells #[.int .i64 c.proto, .int .i64 c.a, .int .i64 c.ap, .int .i64 c.b, .int .i64 c.bp, .int .i64 c.outer, .int .i64 c.state, .bool c.fa, .bool c.fb, .int .i64 c.seen] 59)).alloc (.cells #[.int .i64 d.proto, .int .i64 d.a, .int .i64 d.ap, .int .i64 d.b, .int .i64 d.bp, .int .i64 d.outer, .int .i64 d.state, .bool d.fa, .bool d.fb, .int .i64 d.seen] 59)) = u0 at *
            generalize w.heap.size + 1 = b1 at *
            generalize w.heap.size = b0 at *
            have k0 := HT0.out.c1 0 _ rfl
            have j0 := HT0.out.c2 0 _ rfl
            have k1 := HT0.out.c1 1 _ rfl
            have j1 := HT0.out.c2 1 _ rfl
            have k2 := HT0.out.c1 2 _ rfl
            have j2 := HT0.out.c2 2 _ rfl
            have k3 := HT0.out.c1 3 _ rfl
            have j3 := HT0.out.c2 3 _ rfl
            have k4 := HT0.out.c1 4 _ rfl
            have j4 := HT0.out.c2 4 _ rfl
            have kl := HT0.out.lt1
            have jl := HT0.out.lt2
            go_wp2
            go_ret
            exact ⟨ret_bool (by rw [E.out]; simp), HT0.out.bel⟩
          · rw [hq0] at E
            cases hq1 : (c.ap == d.bp)
            · rw [hq1] at E
              go_enter Try.func26, Try.ntmps26
              go_upto_region 1 with fail
              generalize ((w.alloc (.cells #[.int .i64 c.proto, .int .i64 c.a, .int .i64 c.ap, .int .i64 c.b, .int .i64 c.bp, .int .i64 c.outer, .int .i64 c.state, .bool c.fa, .bool c.fb, .int .i64 c.seen] 59)).alloc (.cells #[.int .i64 d.proto, .int .i64 d.a, .int .i64 d.ap, .int .i64 d.b, .int .i64 d.bp, .int .i64 d.outer, .int .i64 d.state, .bool d.fa, .bool d.fb, .int .i64 d.seen] 59)) = u0 at *
              generalize w.heap.size + 1 = b1 at *
              generalize w.heap.size = b0 at *
              have k0 := HT0.out.c1 0 _ rfl
              have j0 := HT0.out.c2 0 _ rfl
              have k1 := HT0.out.c1 1 _ rfl
              have j1 := HT0.out.c2 1 _ rfl
              have k2 := HT0.out.c1 2 _ rfl
              have j2 := HT0.out.c2 2 _ rfl
              have k3 := HT0.out.c1 3 _ rfl
              have j3 := HT0.out.c2 3 _ rfl
              have k4 := HT0.out.c1 4 _ rfl
              have j4 := HT0.out.c2 4 _ rfl
              have kl := HT0.out.lt1
              have jl := HT0.out.lt2
              go_wp2
              go_ret
              exact ⟨ret_bool (by rw [E.out]; simp), HT0.out.bel⟩
            · rw [hq1] at E
              cases hq2 : (c.b == d.a)
              · rw [hq2] at E
                go_enter Try.func26, Try.ntmps26
                go_upto_region 1 with fail
                generalize ((w.alloc (.cells #[.int .i64 c.proto, .int .i64 c.a, .int .i64 c.ap, .int .i64 c.b, .int .i64 c.bp, .int .i64 c.outer, .int .i64 c.state, .bool c.fa, .bool c.fb, .int .i64 c.seen] 59)).alloc (.cells #[.int .i64 d.proto, .int .i64 d.a, .int .i64 d.ap, .int .i64 d.b, .int .i64 d.bp, .int .i64 d.outer, .int .i64 d.state, .bool d.fa, .bool d.fb, .int .i64 d.seen] 59)) = u0 at *
                generalize w.heap.size + 1 = b1 at *
                generalize w.heap.size = b0 at *
                have k0 := HT0.out.c1 0 _ rfl
                have j0 := HT0.out.c2 0 _ rfl
                have k1 := HT0.out.c1 1 _ rfl
                have j1 := HT0.out.c2 1 _ rfl
                have k2 := HT0.out.c1 2 _ rfl
                have j2 := HT0.out.c2 2 _ rfl
                have k3 := HT0.out.c1 3 _ rfl
                have j3 := HT0.out.c2 3 _ rfl
                have k4 := HT0.out.c1 4 _ rfl
                have j4 := HT0.out.c2 4 _ rfl
                have kl := HT0.out.lt1
                have jl := HT0.out.lt2
                go_wp2
                go_ret
                exact ⟨ret_bool (by rw [E.out]; simp), HT0.out.bel⟩
              · rw [hq2] at E
                go_enter Try.func26, Try.ntmps26
                go_upto_region 1 with fail
                generalize ((w.alloc (.cells #[.int .i64 c.proto, .int .i64 c.a, .int .i64 c.ap, .int .i64 c.b, .int .i64 c.bp, .int .i64 c.outer, .int .i64 c.state, .bool c.fa, .bool c.fb, .int .i64 c.seen] 59)).alloc (.cells #[.int .i64 d.proto, .int .i64 d.a, .int .i64 d.ap, .int .i64 d.b, .int .i64 d.bp, .int .i64 d.outer, .int .i64 d.state, .bool d.fa, .bool d.fb, .int .i64 d.seen] 59)) = u0 at *
                generalize w.heap.size + 1 = b1 at *
                generalize w.heap.size = b0 at *
                have k0 := HT0.out.c1 0 _ rfl
                have j0 := HT0.out.c2 0 _ rfl
                have k1 := HT0.out.c1 1 _ rfl
                have j1 := HT0.out.c2 1 _ rfl
                have k2 := HT0.out.c1 2 _ rfl
                have j2 := HT0.out.c2 2 _ rfl
                have k3 := HT0.out.c1 3 _ rfl
                have j3 := HT0.out.c2 3 _ rfl
                have k4 := HT0.out.c1 4 _ rfl
                have j4 := HT0.out.c2 4 _ rfl
                have kl := HT0.out.lt1
                have jl := HT0.out.lt2
                go_wp2
                go_ret
                exact ⟨ret_bool (by rw [E.out]; simp), HT0.out.bel⟩
        · rw [hp2] at E
          cases hp3 : (c.bp == d.bp)
          · rw [hp3] at E
            cases hq0 : (c.a == d.b)
            · rw [hq0] at E
              go_enter Try.func26, Try.ntmps26
              go_upto_region 1 with fail
              generalize ((w.alloc (.cells #[.int .i64 c.proto, .int .i64 c.a, .int .i64 c.ap, .int .i64 c.b, .int .i64 c.bp, .int .i64 c.outer, .int .i64 c.state, .bool c.fa, .bool c.fb, .int .i64 c.seen] 59)).alloc (.cells #[.int .i64 d.proto, .int .i64 d.a, .int .i64 d.ap, .int .i64 d.b, .int .i64 d.bp, .int .i64 d.outer, .int .i64 d.state, .bool d.fa, .bool d.fb, .int .i64 d.seen] 59)) = u0 at *
              generalize w.heap.size + 1 = b1 at *
              generalize w.heap.size = b0 at *
              have k0 := HT0.out.c1 0 _ rfl
              have j0 := HT0.out.c2 0 _ rfl
              have k1 := HT0.out.c1 1 _ rfl
              have j1 := HT0.out.c2 1 _ rfl
              have k2 := HT0.out.c1 2 _ rfl
              have j2 := HT0.out.c2 2 _ rfl
              have k3 := HT0.out.c1 3 _ rfl
              have j3 := HT0.out.c2 3 _ rfl
              have k4 := HT0.out.c1 4 _ rfl
              have j4 := HT0.out.c2 4 _ rfl
              have kl := HT0.out.lt1
              have jl := HT0.out.lt2
              go_wp2
              go_ret
              exact ⟨ret_bool (by rw [E.out]; simp), HT0.out.bel⟩
            · rw [hq0] at E
              cases hq1 : (c.ap == d.bp)
              · rw [hq1] at E
                go_enter Try.func26, Try.ntmps26
                go_upto_region 1 with fail
                generalize ((w.alloc (.cells #[.int .i64 c.proto, .int .i64 c.a, .int .i64 c.ap, .int .i64 c.b, .int .i64 c.bp, .int .i64 c.outer, .int .i64 c.state, .bool c.fa, .bool c.fb, .int .i64 c.seen] 59)).alloc (.cells #[.int .i64 d.proto, .int .i64 d.a, .int .i64 d.ap, .int .i64 d.b, .int .i64 d.bp, .int .i64 d.outer, .int .i64 d.state, .bool d.fa, .bool d.fb, .int .i64 d.seen] 59)) = u0 at *
                generalize w.heap.size + 1 = b1 at *
                generalize w.heap.size = b0 at *
                have k0 := HT0.out.c1 0 _ rfl
                have j0 := HT0.out.c2 0 _ rfl
                have k1 := HT0.out.c1 1 _ rfl
                have j1 := HT0.out.c2 1 _ rfl
                have k2 := HT0.out.c1 2 _ rfl
                have j2 := HT0.out.c2 2 _ rfl
                have k3 := HT0.out.c1 3 _ rfl
                have j3 := HT0.out.c2 3 _ rfl
                have k4 := HT0.out.c1 4 _ rfl
                have j4 := HT0.out.c2 4 _ rfl
                have kl := HT0.out.lt1
                have jl := HT0.out.lt2
                go_wp2
                go_ret
                exact ⟨ret_bool (by rw [E.out]; simp), HT0.out.bel⟩
              · rw [hq1] at E
                cases hq2 : (c.b == d.a)
                · rw [hq2] at E
                  go_enter Try.func26, Try.ntmps26
                  go_upto_region 1 with fail
                  generalize ((w.alloc (.cells #[.int .i64 c.proto, .int .i64 c.a, .int .i64 c.ap, .int .i64 c.b, .int .i64 c.bp, .int .i64 c.outer, .int .i64 c.state, .bool c.fa, .bool c.fb, .int .i64 c.seen] 59)).alloc (.cells #[.int .i64 d.proto, .int .i64 d.a, .int .i64 d.ap, .int .i64 d.b, .int .i64 d.bp, .int .i64 d.outer, .int .i64 d.state, .bool d.fa, .bool d.fb, .int .i64 d.seen] 59)) = u0 at *
                  generalize w.heap.size + 1 = b1 at *
                  generalize w.heap.size = b0 at *
                  have k0 := HT0.out.c1 0 _ rfl
                  have j0 := HT0.out.c2 0 _ rfl
                  have k1 := HT0.out.c1 1 _ rfl
                  have j1 := HT0.out.c2 1 _ rfl
                  have k2 := HT0.out.c1 2 _ rfl
                  have j2 := HT0.out.c2 2 _ rfl
                  have k3 := HT0.out.c1 3 _ rfl
                  have j3 := HT0.out.c2 3 _ rfl
                  have k4 := HT0.out.c1 4 _ rfl
                  have j4 := HT0.out.c2 4 _ rfl
                  have kl := HT0.out.lt1
                  have jl := HT0.out.lt2
                  go_wp2
                  go_ret
                  exact ⟨ret_bool (by rw [E.out]; simp), HT0.out.bel⟩
                · rw [hq2] at E
                  go_enter Try.func26, Try.ntmps26
                  go_upto_region 1 with fail
                  generalize ((w.alloc (.cells #[.int .i64 c.proto, .int .i64 c.a, .int .i64 c.ap, .int .i64 c.b, .int .i64 c.bp, .int .i64 c.outer, .int .i64 c.state, .bool c.fa, .bool c.fb, .int .i64 c.seen] 59)).alloc (.cells #[.int .i64 d.proto, .int .i64 d.a, .int .i64 d.ap, .int .i64 d.b, .int .i64 d.bp, .int .i64 d.outer, .int .i64 d.state, .bool d.fa, .bool d.fb, .int .i64 d.seen] 59)) = u0 at *
                  generalize w.heap.size + 1 = b1 at *
                  generalize w.heap.size = b0 at *
                  have k0 := HT0.out.c1 0 _ rfl
                  have j0 := HT0.out.c2 0 _ rfl
                  have k1 := HT0.out.c1 1 _ rfl
                  have j1 := HT0.out.c2 1 _ rfl
                  have k2 := HT0.out.c1 2 _ rfl
                  have j2 := HT0.out.c2 2 _ rfl
                  have k3 := HT0.out.c1 3 _ rfl
                  have j3 := HT0.out.c2 3 _ rfl
                  have k4 := HT0.out.c1 4 _ rfl
                  have j4 := HT0.out.c2 4 _ rfl
                  have kl := HT0.out.lt1
                  have jl := HT0.out.lt2
                  go_wp2
                  go_ret
                  exact ⟨ret_bool (by rw [E.out]; simp), HT0.out.bel⟩
          · rw [hp3] at E
            go_enter Try.func26, Try.ntmps26
            go_upto_region 1 with fail
            generalize ((w.alloc (.cells #[.int .i64 c.proto, .int .i64 c.a, .int .i64 c.ap, .int .i64 c.b, .int .i64 c.bp, .int .i64 c.outer, .int .i64 c.state, .bool c.fa, .bool c.fb, .int .i64 c.seen] 59)).alloc (.cells #[.int .i64 d.proto, .int .i64 d.a, .int .i64 d.ap, .int .i64 d.b, .int .i64 d.bp, .int .i64 d.outer, .int .i64 d.state, .bool d.fa, .bool d.fb, .int .i64 d.seen] 59)) = u0 at *
            generalize w.heap.size + 1 = b1 at *
            generalize w.heap.size = b0 at *
            have k0 := HT0.out.c1 0 _ rfl
            have j0 := HT0.out.c2 0 _ rfl
            have k1 := HT0.out.c1 1 _ rfl
            have j1 := HT0.out.c2 1 _ rfl
            have k2 := HT0.out.c1 2 _ rfl
            have j2 := HT0.out.c2 2 _ rfl
            have k3 := HT0.out.c1 3 _ rfl
            have j3 := HT0.out.c2 3 _ rfl
            have k4 := HT0.out.c1 4 _ rfl
            have j4 := HT0.out.c2 4 _ rfl
            have kl := HT0.out.lt1
            have jl := HT0.out.lt2
            go_wp2
            go_ret
            exact ⟨ret_bool (by rw [E.out]; simp), HT0.out.bel⟩
  · rw [hp] at E
    go_enter Try.func26, Try.ntmps26
    go_upto_region 1 with fail
    generalize ((w.alloc (.cells #[.int .i64 c.proto, .int .i64 c.a, .int .i64 c.ap, .int .i64 c.b, .int .i64 c.bp, .int .i64 c.outer, .int .i64 c.state, .bool c.fa, .bool c.fb, .int .i64 c.seen] 59)).alloc (.cells #[.int .i64 d.proto, .int .i64 d.a, .int .i64 d.ap, .int .i64 d.b, .int .i64 d.bp, .int .i64 d.outer, .int .i64 d.state, .bool d.fa, .bool d.fb, .int .i64 d.seen] 59)) = u0 at *
    generalize w.heap.size + 1 = b1 at *
    generalize w.heap.size = b0 at *
    have k0 := HT0.out.c1 0 _ rfl
    have j0 := HT0.out.c2 0 _ rfl
    have k1 := HT0.out.c1 1 _ rfl
    have j1 := HT0.out.c2 1 _ rfl
    have k2 := HT0.out.c1 2 _ rfl
    have j2 := HT0.out.c2 2 _ rfl
    have k3 := HT0.out.c1 3 _ rfl
    have j3 := HT0.out.c2 3 _ rfl
    have k4 := HT0.out.c1 4 _ rfl
    have j4 := HT0.out.c2 4 _ rfl
    have kl := HT0.out.lt1
    have jl := HT0.out.lt2
    go_wp2
    go_ret
    exact ⟨ret_bool (by rw [E.out]; simp), HT0.out.bel⟩
/-- A filter's box and a connection's. -/
structure FC2 (w u : World) (b0 b1 : Nat) (s : FI) (a : FA) (c : CN) : Prop where
  bel : Below w.heap.size w u
  x : FX u b0 s a
  c : u.heap[b1]? = some (.cells #[.int .i64 c.proto, .int .i64 c.a, .int .i64 c.ap, .int .i64 c.b, .int .i64 c.bp, .int .i64 c.outer, .int .i64 c.state, .bool c.fa, .bool c.fb, .int .i64 c.seen] 59 (0, 0))
theorem FC2.step {w u u' : World} {b0 b1 : Nat} {s : FI} {a : FA} {c : CN} (h : FC2 w u b0 b1 s a c) (hb : Below u.heap.size u u') : FC2 w u' b0 b1 s a c := ⟨h.bel.trans (hb.mono h.bel.size), h.x.below hb, (hb.block _ (Array.getElem?_eq_some_iff.1 h.c).1).trans h.c⟩
theorem FC2.lt {w u : World} {b0 b1 : Nat} {s : FI} {a : FA} {c : CN} (h : FC2 w u b0 b1 s a c) : b1 < u.heap.size := (Array.getElem?_eq_some_iff.1 h.c).1
theorem FC2.aft {w u : World} {b0 b1 : Nat} {s : FI} {a : FA} {c : CN} (h : FC2 w u b0 b1 s a c) : Aft w u := ⟨h.bel⟩
theorem FC2.new {w : World} {s : FI} {a : FA} (c : CN) (h : FIRows w s a) : FC2 w ((w.alloc (.cells (flC s a) 35)).alloc (.cells #[.int .i64 c.proto, .int .i64 c.a, .int .i64 c.ap, .int .i64 c.b, .int .i64 c.bp, .int .i64 c.outer, .int .i64 c.state, .bool c.fa, .bool c.fb, .int .i64 c.seen] 59)) w.heap.size (w.heap.size + 1) s a c :=
  ⟨(bx1 _ _).alloc (by simp) _, ⟨((bx1 (w.alloc _) _).block _ (by simp)).trans (heap_new _ _), (h.below (bx1 _ _)).below (bx1 _ _)⟩, by simpa using heap_new (w.alloc (.cells (flC s a) 35)) (.cells #[.int .i64 c.proto, .int .i64 c.a, .int .i64 c.ap, .int .i64 c.b, .int .i64 c.bp, .int .i64 c.outer, .int .i64 c.state, .bool c.fa, .bool c.fb, .int .i64 c.seen] 59)⟩
def ouP (s : FI) (c : CN) : Int × Int := if decide (hAt (s.hs.map (·.addr)) c.a < 0) = true then (c.a, c.ap) else if decide (hAt (s.hs.map (·.addr)) c.b < 0) = true then (c.b, c.bp) else (-1, -1)
set_option maxRecDepth 100000 in
set_option maxHeartbeats 4000000 in
theorem outS_any {w : World} {s : FI} {a : FA} (h : FIRows w s a) (hl : s.hs.length ≤ 1048576) (c : CN) : Calls Try.prog 25 #[flA s a, cnA c] w fun e w' => e = .returned (.tuple #[.int .i64 (ouP s c).1, .int .i64 (ouP s c).2]) ∧ Below w.heap.size w w' := by
  have E : Hid (ouP s c = if decide (hAt (s.hs.map (·.addr)) c.a < 0) = true then (c.a, c.ap) else if decide (hAt (s.hs.map (·.addr)) c.b < 0) = true then (c.b, c.bp) else (-1, -1)) := rfl
  generalize ouP s c = R at *
  have HR : Hid (FIRows w s a) := h
  have HH0 : Hid (∀ x u, Aft w u → Calls Try.prog 22 #[flA s a, .int .i64 x] u fun e w' => e = .returned (.int .i64 (hAt (s.hs.map (·.addr)) x)) ∧ Below u.heap.size u w') := fun x u hu => hostS_any (HR.out.below hu.out) hl x
  have HC0 : Hid (FC2 w ((w.alloc (.cells (flC s a) 35)).alloc (.cells #[.int .i64 c.proto, .int .i64 c.a, .int .i64 c.ap, .int .i64 c.b, .int .i64 c.bp, .int .i64 c.outer, .int .i64 c.state, .bool c.fa, .bool c.fb, .int .i64 c.seen] 59)) w.heap.size (w.heap.size + 1) s a c) := FC2.new c h
  obtain ⟨ahs, khs, ags, kgs, afs, kfs, acs, kcs, e⟩ := h.sl
  generalize a.qhs = qhs at e
  generalize a.qgs = qgs at e
  subst e
  clear h HR
  unfold flA at HH0
  unfold flC at HC0 HH0
  unfold flA flC cnA
  simp only at HC0 HH0 ⊢
  have HA : Hid _ := HH0.out c.a
  have HB : Hid _ := HH0.out c.b
  clear HH0
  generalize hAt (s.hs.map (·.addr)) c.a = XA at *
  generalize hAt (s.hs.map (·.addr)) c.b = XB at *
  cases h1 : decide (XA < 0)
  · rw [h1] at E
    cases h2 : decide (XB < 0)
    · rw [h2] at E
      go_enter Try.func25, Try.ntmps25
      go_upto_region 1 with fail
      generalize ((w.alloc (.cells #[.slice ahs s.hs.length khs, .slice ags s.gs.length kgs, .slice afs s.fs.length kfs, .int .i64 s.pub, .int .i64 s.fst, .int .i64 s.lst, .slice acs s.cs.length kcs, .int .i64 s.time] 35)).alloc (.cells #[.int .i64 c.proto, .int .i64 c.a, .int .i64 c.ap, .int .i64 c.b, .int .i64 c.bp, .int .i64 c.outer, .int .i64 c.state, .bool c.fa, .bool c.fb, .int .i64 c.seen] 59)) = u0 at *
      generalize w.heap.size + 1 = b1 at *
      generalize e0 : w.heap.size = b0 at *
      have x0 := HC0.out.x.c0
      have x1 := HC0.out.x.c1
      have x2 := HC0.out.x.c2
      have x3 := HC0.out.x.c3
      have x4 := HC0.out.x.c4
      have x5 := HC0.out.x.c5
      have x6 := HC0.out.x.c6
      have x7 := HC0.out.x.c7
      simp only at x0 x1 x2 x6
      have xl := HC0.out.x.lt
      have y0 := celN HC0.out.c 0 _ rfl
      have y1 := celN HC0.out.c 1 _ rfl
      have y2 := celN HC0.out.c 2 _ rfl
      have y3 := celN HC0.out.c 3 _ rfl
      have y4 := celN HC0.out.c 4 _ rfl
      have y5 := celN HC0.out.c 5 _ rfl
      have y6 := celN HC0.out.c 6 _ rfl
      have y7 := celN HC0.out.c 7 _ rfl
      have y8 := celN HC0.out.c 8 _ rfl
      have y9 := celN HC0.out.c 9 _ rfl
      have yl := HC0.out.lt
      go_wp2_with fail
      refine Calls.mono (HA.out _ HC0.out.aft) ?_
      rintro e u1 ⟨rfl, hu⟩
      have HC1 : Hid (FC2 w u1 b0 b1 s ⟨.slice ahs s.hs.length khs, .slice ags s.gs.length kgs, .slice afs s.fs.length kfs, .slice acs s.cs.length kcs, qhs, qgs⟩ c) := HC0.out.step hu
      clear hu HC0
      clear x0 x1 x2 x3 x4 x5 x6 x7 xl y0 y1 y2 y3 y4 y5 y6 y7 y8 y9 yl
      have x0 := HC1.out.x.c0
      have x1 := HC1.out.x.c1
      have x2 := HC1.out.x.c2
      have x3 := HC1.out.x.c3
      have x4 := HC1.out.x.c4
      have x5 := HC1.out.x.c5
      have x6 := HC1.out.x.c6
      have x7 := HC1.out.x.c7
      simp only at x0 x1 x2 x6
      have xl := HC1.out.x.lt
      have y0 := celN HC1.out.c 0 _ rfl
      have y1 := celN HC1.out.c 1 _ rfl
      have y2 := celN HC1.out.c 2 _ rfl
      have y3 := celN HC1.out.c 3 _ rfl
      have y4 := celN HC1.out.c 4 _ rfl
      have y5 := celN HC1.out.c 5 _ rfl
      have y6 := celN HC1.out.c 6 _ rfl
      have y7 := celN HC1.out.c 7 _ rfl
      have y8 := celN HC1.out.c 8 _ rfl
      have y9 := celN HC1.out.c 9 _ rfl
      have yl := HC1.out.lt
      go_wp2_with fail
      refine Calls.mono (HB.out _ HC1.out.aft) ?_
      rintro e u2 ⟨rfl, hu⟩
      have HC2 : Hid (FC2 w u2 b0 b1 s ⟨.slice ahs s.hs.length khs, .slice ags s.gs.length kgs, .slice afs s.fs.length kfs, .slice acs s.cs.length kcs, qhs, qgs⟩ c) := HC1.out.step hu
      clear hu HC1
      clear x0 x1 x2 x3 x4 x5 x6 x7 xl y0 y1 y2 y3 y4 y5 y6 y7 y8 y9 yl
      have x0 := HC2.out.x.c0
      have x1 := HC2.out.x.c1
      have x2 := HC2.out.x.c2
      have x3 := HC2.out.x.c3
      have x4 := HC2.out.x.c4
      have x5 := HC2.out.x.c5
      have x6 := HC2.out.x.c6
      have x7 := HC2.out.x.c7
      simp only at x0 x1 x2 x6
      have xl := HC2.out.x.lt
      have y0 := celN HC2.out.c 0 _ rfl
      have y1 := celN HC2.out.c 1 _ rfl
      have y2 := celN HC2.out.c 2 _ rfl
      have y3 := celN HC2.out.c 3 _ rfl
      have y4 := celN HC2.out.c 4 _ rfl
      have y5 := celN HC2.out.c 5 _ rfl
      have y6 := celN HC2.out.c 6 _ rfl
      have y7 := celN HC2.out.c 7 _ rfl
      have y8 := celN HC2.out.c 8 _ rfl
      have y9 := celN HC2.out.c 9 _ rfl
      have yl := HC2.out.lt
      go_wp2_with (go_quiet (fail))
      refine bodyPost_ret (v := .tuple #[.int .i64 (-1), .int .i64 (-1)]) (by simp [results, Try.results25, go_sem]) rfl ⟨by rw [E.out]; rfl, by first | exact HC2.out.bel | exact bdn HC2.out.bel _⟩
    · rw [h2] at E
      go_enter Try.func25, Try.ntmps25
      go_upto_region 1 with fail
      generalize ((w.alloc (.cells #[.slice ahs s.hs.length khs, .slice ags s.gs.length kgs, .slice afs s.fs.length kfs, .int .i64 s.pub, .int .i64 s.fst, .int .i64 s.lst, .slice acs s.cs.length kcs, .int .i64 s.time] 35)).alloc (.cells #[.int .i64 c.proto, .int .i64 c.a, .int .i64 c.ap, .int .i64 c.b, .int .i64 c.bp, .int .i64 c.outer, .int .i64 c.state, .bool c.fa, .bool c.fb, .int .i64 c.seen] 59)) = u0 at *
      generalize w.heap.size + 1 = b1 at *
      generalize e0 : w.heap.size = b0 at *
      have x0 := HC0.out.x.c0
      have x1 := HC0.out.x.c1
      have x2 := HC0.out.x.c2
      have x3 := HC0.out.x.c3
      have x4 := HC0.out.x.c4
      have x5 := HC0.out.x.c5
      have x6 := HC0.out.x.c6
      have x7 := HC0.out.x.c7
      simp only at x0 x1 x2 x6
      have xl := HC0.out.x.lt
      have y0 := celN HC0.out.c 0 _ rfl
      have y1 := celN HC0.out.c 1 _ rfl
      have y2 := celN HC0.out.c 2 _ rfl
      have y3 := celN HC0.out.c 3 _ rfl
      have y4 := celN HC0.out.c 4 _ rfl
      have y5 := celN HC0.out.c 5 _ rfl
      have y6 := celN HC0.out.c 6 _ rfl
      have y7 := celN HC0.out.c 7 _ rfl
      have y8 := celN HC0.out.c 8 _ rfl
      have y9 := celN HC0.out.c 9 _ rfl
      have yl := HC0.out.lt
      go_wp2_with fail
      refine Calls.mono (HA.out _ HC0.out.aft) ?_
      rintro e u1 ⟨rfl, hu⟩
      have HC1 : Hid (FC2 w u1 b0 b1 s ⟨.slice ahs s.hs.length khs, .slice ags s.gs.length kgs, .slice afs s.fs.length kfs, .slice acs s.cs.length kcs, qhs, qgs⟩ c) := HC0.out.step hu
      clear hu HC0
      clear x0 x1 x2 x3 x4 x5 x6 x7 xl y0 y1 y2 y3 y4 y5 y6 y7 y8 y9 yl
      have x0 := HC1.out.x.c0
      have x1 := HC1.out.x.c1
      have x2 := HC1.out.x.c2
      have x3 := HC1.out.x.c3
      have x4 := HC1.out.x.c4
      have x5 := HC1.out.x.c5
      have x6 := HC1.out.x.c6
      have x7 := HC1.out.x.c7
      simp only at x0 x1 x2 x6
      have xl := HC1.out.x.lt
      have y0 := celN HC1.out.c 0 _ rfl
      have y1 := celN HC1.out.c 1 _ rfl
      have y2 := celN HC1.out.c 2 _ rfl
      have y3 := celN HC1.out.c 3 _ rfl
      have y4 := celN HC1.out.c 4 _ rfl
      have y5 := celN HC1.out.c 5 _ rfl
      have y6 := celN HC1.out.c 6 _ rfl
      have y7 := celN HC1.out.c 7 _ rfl
      have y8 := celN HC1.out.c 8 _ rfl
      have y9 := celN HC1.out.c 9 _ rfl
      have yl := HC1.out.lt
      go_wp2_with fail
      refine Calls.mono (HB.out _ HC1.out.aft) ?_
      rintro e u2 ⟨rfl, hu⟩
      have HC2 : Hid (FC2 w u2 b0 b1 s ⟨.slice ahs s.hs.length khs, .slice ags s.gs.length kgs, .slice afs s.fs.length kfs, .slice acs s.cs.length kcs, qhs, qgs⟩ c) := HC1.out.step hu
      clear hu HC1
      clear x0 x1 x2 x3 x4 x5 x6 x7 xl y0 y1 y2 y3 y4 y5 y6 y7 y8 y9 yl
      have x0 := HC2.out.x.c0
      have x1 := HC2.out.x.c1
      have x2 := HC2.out.x.c2
      have x3 := HC2.out.x.c3
      have x4 := HC2.out.x.c4
      have x5 := HC2.out.x.c5
      have x6 := HC2.out.x.c6
      have x7 := HC2.out.x.c7
      simp only at x0 x1 x2 x6
      have xl := HC2.out.x.lt
      have y0 := celN HC2.out.c 0 _ rfl
      have y1 := celN HC2.out.c 1 _ rfl
      have y2 := celN HC2.out.c 2 _ rfl
      have y3 := celN HC2.out.c 3 _ rfl
      have y4 := celN HC2.out.c 4 _ rfl
      have y5 := celN HC2.out.c 5 _ rfl
      have y6 := celN HC2.out.c 6 _ rfl
      have y7 := celN HC2.out.c 7 _ rfl
      have y8 := celN HC2.out.c 8 _ rfl
      have y9 := celN HC2.out.c 9 _ rfl
      have yl := HC2.out.lt
      go_wp2_with (go_quiet (fail))
      refine bodyPost_ret (v := .tuple #[.int .i64 (c.b), .int .i64 (c.bp)]) (by simp [results, Try.results25, go_sem]) rfl ⟨by rw [E.out]; rfl, by first | exact HC2.out.bel | exact bdn HC2.out.bel _⟩
  · rw [h1] at E
    go_enter Try.func25, Try.ntmps25
    go_upto_region 1 with fail
    generalize ((w.alloc (.cells #[.slice ahs s.hs.length khs, .slice ags s.gs.length kgs, .slice afs s.fs.length kfs, .int .i64 s.pub, .int .i64 s.fst, .int .i64 s.lst, .slice acs s.cs.length kcs, .int .i64 s.time] 35)).alloc (.cells #[.int .i64 c.proto, .int .i64 c.a, .int .i64 c.ap, .int .i64 c.b, .int .i64 c.bp, .int .i64 c.outer, .int .i64 c.state, .bool c.fa, .bool c.fb, .int .i64 c.seen] 59)) = u0 at *
    generalize w.heap.size + 1 = b1 at *
    generalize e0 : w.heap.size = b0 at *
    have x0 := HC0.out.x.c0
    have x1 := HC0.out.x.c1
    have x2 := HC0.out.x.c2
    have x3 := HC0.out.x.c3
    have x4 := HC0.out.x.c4
    have x5 := HC0.out.x.c5
    have x6 := HC0.out.x.c6
    have x7 := HC0.out.x.c7
    simp only at x0 x1 x2 x6
    have xl := HC0.out.x.lt
    have y0 := celN HC0.out.c 0 _ rfl
    have y1 := celN HC0.out.c 1 _ rfl
    have y2 := celN HC0.out.c 2 _ rfl
    have y3 := celN HC0.out.c 3 _ rfl
    have y4 := celN HC0.out.c 4 _ rfl
    have y5 := celN HC0.out.c 5 _ rfl
    have y6 := celN HC0.out.c 6 _ rfl
    have y7 := celN HC0.out.c 7 _ rfl
    have y8 := celN HC0.out.c 8 _ rfl
    have y9 := celN HC0.out.c 9 _ rfl
    have yl := HC0.out.lt
    go_wp2_with fail
    refine Calls.mono (HA.out _ HC0.out.aft) ?_
    rintro e u1 ⟨rfl, hu⟩
    have HC1 : Hid (FC2 w u1 b0 b1 s ⟨.slice ahs s.hs.length khs, .slice ags s.gs.length kgs, .slice afs s.fs.length kfs, .slice acs s.cs.length kcs, qhs, qgs⟩ c) := HC0.out.step hu
    clear hu HC0
    clear x0 x1 x2 x3 x4 x5 x6 x7 xl y0 y1 y2 y3 y4 y5 y6 y7 y8 y9 yl
    have x0 := HC1.out.x.c0
    have x1 := HC1.out.x.c1
    have x2 := HC1.out.x.c2
    have x3 := HC1.out.x.c3
    have x4 := HC1.out.x.c4
    have x5 := HC1.out.x.c5
    have x6 := HC1.out.x.c6
    have x7 := HC1.out.x.c7
    simp only at x0 x1 x2 x6
    have xl := HC1.out.x.lt
    have y0 := celN HC1.out.c 0 _ rfl
    have y1 := celN HC1.out.c 1 _ rfl
    have y2 := celN HC1.out.c 2 _ rfl
    have y3 := celN HC1.out.c 3 _ rfl
    have y4 := celN HC1.out.c 4 _ rfl
    have y5 := celN HC1.out.c 5 _ rfl
    have y6 := celN HC1.out.c 6 _ rfl
    have y7 := celN HC1.out.c 7 _ rfl
    have y8 := celN HC1.out.c 8 _ rfl
    have y9 := celN HC1.out.c 9 _ rfl
    have yl := HC1.out.lt
    go_wp2_with (go_quiet (fail))
    refine bodyPost_ret (v := .tuple #[.int .i64 (c.a), .int .i64 (c.ap)]) (by simp [results, Try.results25, go_sem]) rfl ⟨by rw [E.out]; rfl, by first | exact HC1.out.bel | exact bdn HC1.out.bel _⟩
def sdB (s : FI) (c : CN) : Bool := (decide (0 ≤ hAt (s.hs.map (·.addr)) c.a) || decide (0 ≤ hAt (s.hs.map (·.addr)) c.b)) && (c.a != s.pub) && (c.b != s.pub) && ((c.outer == 0) == (decide (0 ≤ hAt (s.hs.map (·.addr)) c.a) && decide (0 ≤ hAt (s.hs.map (·.addr)) c.b)))
set_option maxRecDepth 100000 in
set_option maxHeartbeats 4000000 in
theorem sidesS_any {w : World} {s : FI} {a : FA} (h : FIRows w s a) (hl : s.hs.length ≤ 1048576) (c : CN) : Calls Try.prog 24 #[flA s a, cnA c] w fun e w' => e = .returned (.bool (sdB s c)) ∧ Below w.heap.size w w' := by
  have E : Hid (sdB s c = ((decide (0 ≤ hAt (s.hs.map (·.addr)) c.a) || decide (0 ≤ hAt (s.hs.map (·.addr)) c.b)) && (c.a != s.pub) && (c.b != s.pub) && ((c.outer == 0) == (decide (0 ≤ hAt (s.hs.map (·.addr)) c.a) && decide (0 ≤ hAt (s.hs.map (·.addr)) c.b))))) := rfl
  generalize sdB s c = R at *
  have HR : Hid (FIRows w s a) := h
  have HH0 : Hid (∀ x u, Aft w u → Calls Try.prog 22 #[flA s a, .int .i64 x] u fun e w' => e = .returned (.int .i64 (hAt (s.hs.map (·.addr)) x)) ∧ Below u.heap.size u w') := fun x u hu => hostS_any (HR.out.below hu.out) hl x
  have HC0 : Hid (FC2 w ((w.alloc (.cells (flC s a) 35)).alloc (.cells #[.int .i64 c.proto, .int .i64 c.a, .int .i64 c.ap, .int .i64 c.b, .int .i64 c.bp, .int .i64 c.outer, .int .i64 c.state, .bool c.fa, .bool c.fb, .int .i64 c.seen] 59)) w.heap.size (w.heap.size + 1) s a c) := FC2.new c h
  obtain ⟨ahs, khs, ags, kgs, afs, kfs, acs, kcs, e⟩ := h.sl
  generalize a.qhs = qhs at e
  generalize a.qgs = qgs at e
  subst e
  clear h HR
  unfold flA at HH0
  unfold flC at HC0 HH0
  unfold flA flC cnA
  simp only at HC0 HH0 ⊢
  have HA : Hid _ := HH0.out c.a
  have HB : Hid _ := HH0.out c.b
  clear HH0
  generalize hAt (s.hs.map (·.addr)) c.a = XA at *
  generalize hAt (s.hs.map (·.addr)) c.b = XB at *
  cases h1 : decide (0 ≤ XA)
  · rw [h1] at E
    cases h2 : decide (0 ≤ XB)
    · rw [h2] at E
      go_enter Try.func24, Try.ntmps24
      go_upto_region 1 with fail
      generalize ((w.alloc (.cells #[.slice ahs s.hs.length khs, .slice ags s.gs.length kgs, .slice afs s.fs.length kfs, .int .i64 s.pub, .int .i64 s.fst, .int .i64 s.lst, .slice acs s.cs.length kcs, .int .i64 s.time] 35)).alloc (.cells #[.int .i64 c.proto, .int .i64 c.a, .int .i64 c.ap, .int .i64 c.b, .int .i64 c.bp, .int .i64 c.outer, .int .i64 c.state, .bool c.fa, .bool c.fb, .int .i64 c.seen] 59)) = u0 at *
      generalize w.heap.size + 1 = b1 at *
      generalize e0 : w.heap.size = b0 at *
      have x0 := HC0.out.x.c0
      have x1 := HC0.out.x.c1
      have x2 := HC0.out.x.c2
      have x3 := HC0.out.x.c3
      have x4 := HC0.out.x.c4
      have x5 := HC0.out.x.c5
      have x6 := HC0.out.x.c6
      have x7 := HC0.out.x.c7
      simp only at x0 x1 x2 x6
      have xl := HC0.out.x.lt
      have y0 := celN HC0.out.c 0 _ rfl
      have y1 := celN HC0.out.c 1 _ rfl
      have y2 := celN HC0.out.c 2 _ rfl
      have y3 := celN HC0.out.c 3 _ rfl
      have y4 := celN HC0.out.c 4 _ rfl
      have y5 := celN HC0.out.c 5 _ rfl
      have y6 := celN HC0.out.c 6 _ rfl
      have y7 := celN HC0.out.c 7 _ rfl
      have y8 := celN HC0.out.c 8 _ rfl
      have y9 := celN HC0.out.c 9 _ rfl
      have yl := HC0.out.lt
      go_wp2_with fail
      refine Calls.mono (HA.out _ HC0.out.aft) ?_
      rintro e u1 ⟨rfl, hu⟩
      have HC1 : Hid (FC2 w u1 b0 b1 s ⟨.slice ahs s.hs.length khs, .slice ags s.gs.length kgs, .slice afs s.fs.length kfs, .slice acs s.cs.length kcs, qhs, qgs⟩ c) := HC0.out.step hu
      clear hu HC0
      clear x0 x1 x2 x3 x4 x5 x6 x7 xl y0 y1 y2 y3 y4 y5 y6 y7 y8 y9 yl
      have x0 := HC1.out.x.c0
      have x1 := HC1.out.x.c1
      have x2 := HC1.out.x.c2
      have x3 := HC1.out.x.c3
      have x4 := HC1.out.x.c4
      have x5 := HC1.out.x.c5
      have x6 := HC1.out.x.c6
      have x7 := HC1.out.x.c7
      simp only at x0 x1 x2 x6
      have xl := HC1.out.x.lt
      have y0 := celN HC1.out.c 0 _ rfl
      have y1 := celN HC1.out.c 1 _ rfl
      have y2 := celN HC1.out.c 2 _ rfl
      have y3 := celN HC1.out.c 3 _ rfl
      have y4 := celN HC1.out.c 4 _ rfl
      have y5 := celN HC1.out.c 5 _ rfl
      have y6 := celN HC1.out.c 6 _ rfl
      have y7 := celN HC1.out.c 7 _ rfl
      have y8 := celN HC1.out.c 8 _ rfl
      have y9 := celN HC1.out.c 9 _ rfl
      have yl := HC1.out.lt
      go_wp2_with fail
      refine Calls.mono (HB.out _ HC1.out.aft) ?_
      rintro e u2 ⟨rfl, hu⟩
      have HC2 : Hid (FC2 w u2 b0 b1 s ⟨.slice ahs s.hs.length khs, .slice ags s.gs.length kgs, .slice afs s.fs.length kfs, .slice acs s.cs.length kcs, qhs, qgs⟩ c) := HC1.out.step hu
      clear hu HC1
      clear x0 x1 x2 x3 x4 x5 x6 x7 xl y0 y1 y2 y3 y4 y5 y6 y7 y8 y9 yl
      have x0 := HC2.out.x.c0
      have x1 := HC2.out.x.c1
      have x2 := HC2.out.x.c2
      have x3 := HC2.out.x.c3
      have x4 := HC2.out.x.c4
      have x5 := HC2.out.x.c5
      have x6 := HC2.out.x.c6
      have x7 := HC2.out.x.c7
      simp only at x0 x1 x2 x6
      have xl := HC2.out.x.lt
      have y0 := celN HC2.out.c 0 _ rfl
      have y1 := celN HC2.out.c 1 _ rfl
      have y2 := celN HC2.out.c 2 _ rfl
      have y3 := celN HC2.out.c 3 _ rfl
      have y4 := celN HC2.out.c 4 _ rfl
      have y5 := celN HC2.out.c 5 _ rfl
      have y6 := celN HC2.out.c 6 _ rfl
      have y7 := celN HC2.out.c 7 _ rfl
      have y8 := celN HC2.out.c 8 _ rfl
      have y9 := celN HC2.out.c 9 _ rfl
      have yl := HC2.out.lt
      go_wp2
      go_ret
      exact ⟨ret_bool (by rw [E.out]; simp), HC2.out.bel⟩
    · rw [h2] at E
      cases hn0 : (c.a != s.pub)
      · rw [hn0] at E
        go_enter Try.func24, Try.ntmps24
        go_upto_region 1 with fail
        generalize ((w.alloc (.cells #[.slice ahs s.hs.length khs, .slice ags s.gs.length kgs, .slice afs s.fs.length kfs, .int .i64 s.pub, .int .i64 s.fst, .int .i64 s.lst, .slice acs s.cs.length kcs, .int .i64 s.time] 35)).alloc (.cells #[.int .i64 c.proto, .int .i64 c.a, .int .i64 c.ap, .int .i64 c.b, .int .i64 c.bp, .int .i64 c.outer, .int .i64 c.state, .bool c.fa, .bool c.fb, .int .i64 c.seen] 59)) = u0 at *
        generalize w.heap.size + 1 = b1 at *
        generalize e0 : w.heap.size = b0 at *
        have x0 := HC0.out.x.c0
        have x1 := HC0.out.x.c1
        have x2 := HC0.out.x.c2
        have x3 := HC0.out.x.c3
        have x4 := HC0.out.x.c4
        have x5 := HC0.out.x.c5
        have x6 := HC0.out.x.c6
        have x7 := HC0.out.x.c7
        simp only at x0 x1 x2 x6
        have xl := HC0.out.x.lt
        have y0 := celN HC0.out.c 0 _ rfl
        have y1 := celN HC0.out.c 1 _ rfl
        have y2 := celN HC0.out.c 2 _ rfl
        have y3 := celN HC0.out.c 3 _ rfl
        have y4 := celN HC0.out.c 4 _ rfl
        have y5 := celN HC0.out.c 5 _ rfl
        have y6 := celN HC0.out.c 6 _ rfl
        have y7 := celN HC0.out.c 7 _ rfl
        have y8 := celN HC0.out.c 8 _ rfl
        have y9 := celN HC0.out.c 9 _ rfl
        have yl := HC0.out.lt
        go_wp2_with fail
        refine Calls.mono (HA.out _ HC0.out.aft) ?_
        rintro e u1 ⟨rfl, hu⟩
        have HC1 : Hid (FC2 w u1 b0 b1 s ⟨.slice ahs s.hs.length khs, .slice ags s.gs.length kgs, .slice afs s.fs.length kfs, .slice acs s.cs.length kcs, qhs, qgs⟩ c) := HC0.out.step hu
        clear hu HC0
        clear x0 x1 x2 x3 x4 x5 x6 x7 xl y0 y1 y2 y3 y4 y5 y6 y7 y8 y9 yl
        have x0 := HC1.out.x.c0
        have x1 := HC1.out.x.c1
        have x2 := HC1.out.x.c2
        have x3 := HC1.out.x.c3
        have x4 := HC1.out.x.c4
        have x5 := HC1.out.x.c5
        have x6 := HC1.out.x.c6
        have x7 := HC1.out.x.c7
        simp only at x0 x1 x2 x6
        have xl := HC1.out.x.lt
        have y0 := celN HC1.out.c 0 _ rfl
        have y1 := celN HC1.out.c 1 _ rfl
        have y2 := celN HC1.out.c 2 _ rfl
        have y3 := celN HC1.out.c 3 _ rfl
        have y4 := celN HC1.out.c 4 _ rfl
        have y5 := celN HC1.out.c 5 _ rfl
        have y6 := celN HC1.out.c 6 _ rfl
        have y7 := celN HC1.out.c 7 _ rfl
        have y8 := celN HC1.out.c 8 _ rfl
        have y9 := celN HC1.out.c 9 _ rfl
        have yl := HC1.out.lt
        go_wp2_with fail
        refine Calls.mono (HB.out _ HC1.out.aft) ?_
        rintro e u2 ⟨rfl, hu⟩
        have HC2 : Hid (FC2 w u2 b0 b1 s ⟨.slice ahs s.hs.length khs, .slice ags s.gs.length kgs, .slice afs s.fs.length kfs, .slice acs s.cs.length kcs, qhs, qgs⟩ c) := HC1.out.step hu
        clear hu HC1
        clear x0 x1 x2 x3 x4 x5 x6 x7 xl y0 y1 y2 y3 y4 y5 y6 y7 y8 y9 yl
        have x0 := HC2.out.x.c0
        have x1 := HC2.out.x.c1
        have x2 := HC2.out.x.c2
        have x3 := HC2.out.x.c3
        have x4 := HC2.out.x.c4
        have x5 := HC2.out.x.c5
        have x6 := HC2.out.x.c6
        have x7 := HC2.out.x.c7
        simp only at x0 x1 x2 x6
        have xl := HC2.out.x.lt
        have y0 := celN HC2.out.c 0 _ rfl
        have y1 := celN HC2.out.c 1 _ rfl
        have y2 := celN HC2.out.c 2 _ rfl
        have y3 := celN HC2.out.c 3 _ rfl
        have y4 := celN HC2.out.c 4 _ rfl
        have y5 := celN HC2.out.c 5 _ rfl
        have y6 := celN HC2.out.c 6 _ rfl
        have y7 := celN HC2.out.c 7 _ rfl
        have y8 := celN HC2.out.c 8 _ rfl
        have y9 := celN HC2.out.c 9 _ rfl
        have yl := HC2.out.lt
        go_wp2
        go_ret
        exact ⟨ret_bool (by rw [E.out]; simp), HC2.out.bel⟩
      · rw [hn0] at E
        cases hn1 : (c.b != s.pub)
        · rw [hn1] at E
          go_enter Try.func24, Try.ntmps24
          go_upto_region 1 with fail
          generalize ((w.alloc (.cells #[.slice ahs s.hs.length khs, .slice ags s.gs.length kgs, .slice afs s.fs.length kfs, .int .i64 s.pub, .int .i64 s.fst, .int .i64 s.lst, .slice acs s.cs.length kcs, .int .i64 s.time] 35)).alloc (.cells #[.int .i64 c.proto, .int .i64 c.a, .int .i64 c.ap, .int .i64 c.b, .int .i64 c.bp, .int .i64 c.outer, .int .i64 c.state, .bool c.fa, .bool c.fb, .int .i64 c.seen] 59)) = u0 at *
          generalize w.heap.size + 1 = b1 at *
          generalize e0 : w.heap.size = b0 at *
          have x0 := HC0.out.x.c0
          have x1 := HC0.out.x.c1
          have x2 := HC0.out.x.c2
          have x3 := HC0.out.x.c3
          have x4 := HC0.out.x.c4
          have x5 := HC0.out.x.c5
          have x6 := HC0.out.x.c6
          have x7 := HC0.out.x.c7
          simp only at x0 x1 x2 x6
          have xl := HC0.out.x.lt
          have y0 := celN HC0.out.c 0 _ rfl
          have y1 := celN HC0.out.c 1 _ rfl
          have y2 := celN HC0.out.c 2 _ rfl
          have y3 := celN HC0.out.c 3 _ rfl
          have y4 := celN HC0.out.c 4 _ rfl
          have y5 := celN HC0.out.c 5 _ rfl
          have y6 := celN HC0.out.c 6 _ rfl
          have y7 := celN HC0.out.c 7 _ rfl
          have y8 := celN HC0.out.c 8 _ rfl
          have y9 := celN HC0.out.c 9 _ rfl
          have yl := HC0.out.lt
          go_wp2_with fail
          refine Calls.mono (HA.out _ HC0.out.aft) ?_
          rintro e u1 ⟨rfl, hu⟩
          have HC1 : Hid (FC2 w u1 b0 b1 s ⟨.slice ahs s.hs.length khs, .slice ags s.gs.length kgs, .slice afs s.fs.length kfs, .slice acs s.cs.length kcs, qhs, qgs⟩ c) := HC0.out.step hu
          clear hu HC0
          clear x0 x1 x2 x3 x4 x5 x6 x7 xl y0 y1 y2 y3 y4 y5 y6 y7 y8 y9 yl
          have x0 := HC1.out.x.c0
          have x1 := HC1.out.x.c1
          have x2 := HC1.out.x.c2
          have x3 := HC1.out.x.c3
          have x4 := HC1.out.x.c4
          have x5 := HC1.out.x.c5
          have x6 := HC1.out.x.c6
          have x7 := HC1.out.x.c7
          simp only at x0 x1 x2 x6
          have xl := HC1.out.x.lt
          have y0 := celN HC1.out.c 0 _ rfl
          have y1 := celN HC1.out.c 1 _ rfl
          have y2 := celN HC1.out.c 2 _ rfl
          have y3 := celN HC1.out.c 3 _ rfl
          have y4 := celN HC1.out.c 4 _ rfl
          have y5 := celN HC1.out.c 5 _ rfl
          have y6 := celN HC1.out.c 6 _ rfl
          have y7 := celN HC1.out.c 7 _ rfl
          have y8 := celN HC1.out.c 8 _ rfl
          have y9 := celN HC1.out.c 9 _ rfl
          have yl := HC1.out.lt
          go_wp2_with fail
          refine Calls.mono (HB.out _ HC1.out.aft) ?_
          rintro e u2 ⟨rfl, hu⟩
          have HC2 : Hid (FC2 w u2 b0 b1 s ⟨.slice ahs s.hs.length khs, .slice ags s.gs.length kgs, .slice afs s.fs.length kfs, .slice acs s.cs.length kcs, qhs, qgs⟩ c) := HC1.out.step hu
          clear hu HC1
          clear x0 x1 x2 x3 x4 x5 x6 x7 xl y0 y1 y2 y3 y4 y5 y6 y7 y8 y9 yl
          have x0 := HC2.out.x.c0
          have x1 := HC2.out.x.c1
          have x2 := HC2.out.x.c2
          have x3 := HC2.out.x.c3
          have x4 := HC2.out.x.c4
          have x5 := HC2.out.x.c5
          have x6 := HC2.out.x.c6
          have x7 := HC2.out.x.c7
          simp only at x0 x1 x2 x6
          have xl := HC2.out.x.lt
          have y0 := celN HC2.out.c 0 _ rfl
          have y1 := celN HC2.out.c 1 _ rfl
          have y2 := celN HC2.out.c 2 _ rfl
          have y3 := celN HC2.out.c 3 _ rfl
          have y4 := celN HC2.out.c 4 _ rfl
          have y5 := celN HC2.out.c 5 _ rfl
          have y6 := celN HC2.out.c 6 _ rfl
          have y7 := celN HC2.out.c 7 _ rfl
          have y8 := celN HC2.out.c 8 _ rfl
          have y9 := celN HC2.out.c 9 _ rfl
          have yl := HC2.out.lt
          go_wp2
          go_ret
          exact ⟨ret_bool (by rw [E.out]; simp), HC2.out.bel⟩
        · rw [hn1] at E
          go_enter Try.func24, Try.ntmps24
          go_upto_region 1 with fail
          generalize ((w.alloc (.cells #[.slice ahs s.hs.length khs, .slice ags s.gs.length kgs, .slice afs s.fs.length kfs, .int .i64 s.pub, .int .i64 s.fst, .int .i64 s.lst, .slice acs s.cs.length kcs, .int .i64 s.time] 35)).alloc (.cells #[.int .i64 c.proto, .int .i64 c.a, .int .i64 c.ap, .int .i64 c.b, .int .i64 c.bp, .int .i64 c.outer, .int .i64 c.state, .bool c.fa, .bool c.fb, .int .i64 c.seen] 59)) = u0 at *
          generalize w.heap.size + 1 = b1 at *
          generalize e0 : w.heap.size = b0 at *
          have x0 := HC0.out.x.c0
          have x1 := HC0.out.x.c1
          have x2 := HC0.out.x.c2
          have x3 := HC0.out.x.c3
          have x4 := HC0.out.x.c4
          have x5 := HC0.out.x.c5
          have x6 := HC0.out.x.c6
          have x7 := HC0.out.x.c7
          simp only at x0 x1 x2 x6
          have xl := HC0.out.x.lt
          have y0 := celN HC0.out.c 0 _ rfl
          have y1 := celN HC0.out.c 1 _ rfl
          have y2 := celN HC0.out.c 2 _ rfl
          have y3 := celN HC0.out.c 3 _ rfl
          have y4 := celN HC0.out.c 4 _ rfl
          have y5 := celN HC0.out.c 5 _ rfl
          have y6 := celN HC0.out.c 6 _ rfl
          have y7 := celN HC0.out.c 7 _ rfl
          have y8 := celN HC0.out.c 8 _ rfl
          have y9 := celN HC0.out.c 9 _ rfl
          have yl := HC0.out.lt
          go_wp2_with fail
          refine Calls.mono (HA.out _ HC0.out.aft) ?_
          rintro e u1 ⟨rfl, hu⟩
          have HC1 : Hid (FC2 w u1 b0 b1 s ⟨.slice ahs s.hs.length khs, .slice ags s.gs.length kgs, .slice afs s.fs.length kfs, .slice acs s.cs.length kcs, qhs, qgs⟩ c) := HC0.out.step hu
          clear hu HC0
          clear x0 x1 x2 x3 x4 x5 x6 x7 xl y0 y1 y2 y3 y4 y5 y6 y7 y8 y9 yl
          have x0 := HC1.out.x.c0
          have x1 := HC1.out.x.c1
          have x2 := HC1.out.x.c2
          have x3 := HC1.out.x.c3
          have x4 := HC1.out.x.c4
          have x5 := HC1.out.x.c5
          have x6 := HC1.out.x.c6
          have x7 := HC1.out.x.c7
          simp only at x0 x1 x2 x6
          have xl := HC1.out.x.lt
          have y0 := celN HC1.out.c 0 _ rfl
          have y1 := celN HC1.out.c 1 _ rfl
          have y2 := celN HC1.out.c 2 _ rfl
          have y3 := celN HC1.out.c 3 _ rfl
          have y4 := celN HC1.out.c 4 _ rfl
          have y5 := celN HC1.out.c 5 _ rfl
          have y6 := celN HC1.out.c 6 _ rfl
          have y7 := celN HC1.out.c 7 _ rfl
          have y8 := celN HC1.out.c 8 _ rfl
          have y9 := celN HC1.out.c 9 _ rfl
          have yl := HC1.out.lt
          go_wp2_with fail
          refine Calls.mono (HB.out _ HC1.out.aft) ?_
          rintro e u2 ⟨rfl, hu⟩
          have HC2 : Hid (FC2 w u2 b0 b1 s ⟨.slice ahs s.hs.length khs, .slice ags s.gs.length kgs, .slice afs s.fs.length kfs, .slice acs s.cs.length kcs, qhs, qgs⟩ c) := HC1.out.step hu
          clear hu HC1
          clear x0 x1 x2 x3 x4 x5 x6 x7 xl y0 y1 y2 y3 y4 y5 y6 y7 y8 y9 yl
          have x0 := HC2.out.x.c0
          have x1 := HC2.out.x.c1
          have x2 := HC2.out.x.c2
          have x3 := HC2.out.x.c3
          have x4 := HC2.out.x.c4
          have x5 := HC2.out.x.c5
          have x6 := HC2.out.x.c6
          have x7 := HC2.out.x.c7
          simp only at x0 x1 x2 x6
          have xl := HC2.out.x.lt
          have y0 := celN HC2.out.c 0 _ rfl
          have y1 := celN HC2.out.c 1 _ rfl
          have y2 := celN HC2.out.c 2 _ rfl
          have y3 := celN HC2.out.c 3 _ rfl
          have y4 := celN HC2.out.c 4 _ rfl
          have y5 := celN HC2.out.c 5 _ rfl
          have y6 := celN HC2.out.c 6 _ rfl
          have y7 := celN HC2.out.c 7 _ rfl
          have y8 := celN HC2.out.c 8 _ rfl
          have y9 := celN HC2.out.c 9 _ rfl
          have yl := HC2.out.lt
          go_wp2
          go_ret
          exact ⟨ret_bool (by rw [E.out]; simp), HC2.out.bel⟩
  · rw [h1] at E
    cases h2 : decide (0 ≤ XB)
    · rw [h2] at E
      cases hn0 : (c.a != s.pub)
      · rw [hn0] at E
        go_enter Try.func24, Try.ntmps24
        go_upto_region 1 with fail
        generalize ((w.alloc (.cells #[.slice ahs s.hs.length khs, .slice ags s.gs.length kgs, .slice afs s.fs.length kfs, .int .i64 s.pub, .int .i64 s.fst, .int .i64 s.lst, .slice acs s.cs.length kcs, .int .i64 s.time] 35)).alloc (.cells #[.int .i64 c.proto, .int .i64 c.a, .int .i64 c.ap, .int .i64 c.b, .int .i64 c.bp, .int .i64 c.outer, .int .i64 c.state, .bool c.fa, .bool c.fb, .int .i64 c.seen] 59)) = u0 at *
        generalize w.heap.size + 1 = b1 at *
        generalize e0 : w.heap.size = b0 at *
        have x0 := HC0.out.x.c0
        have x1 := HC0.out.x.c1
        have x2 := HC0.out.x.c2
        have x3 := HC0.out.x.c3
        have x4 := HC0.out.x.c4
        have x5 := HC0.out.x.c5
        have x6 := HC0.out.x.c6
        have x7 := HC0.out.x.c7
        simp only at x0 x1 x2 x6
        have xl := HC0.out.x.lt
        have y0 := celN HC0.out.c 0 _ rfl
        have y1 := celN HC0.out.c 1 _ rfl
        have y2 := celN HC0.out.c 2 _ rfl
        have y3 := celN HC0.out.c 3 _ rfl
        have y4 := celN HC0.out.c 4 _ rfl
        have y5 := celN HC0.out.c 5 _ rfl
        have y6 := celN HC0.out.c 6 _ rfl
        have y7 := celN HC0.out.c 7 _ rfl
        have y8 := celN HC0.out.c 8 _ rfl
        have y9 := celN HC0.out.c 9 _ rfl
        have yl := HC0.out.lt
        go_wp2_with fail
        refine Calls.mono (HA.out _ HC0.out.aft) ?_
        rintro e u1 ⟨rfl, hu⟩
        have HC1 : Hid (FC2 w u1 b0 b1 s ⟨.slice ahs s.hs.length khs, .slice ags s.gs.length kgs, .slice afs s.fs.length kfs, .slice acs s.cs.length kcs, qhs, qgs⟩ c) := HC0.out.step hu
        clear hu HC0
        clear x0 x1 x2 x3 x4 x5 x6 x7 xl y0 y1 y2 y3 y4 y5 y6 y7 y8 y9 yl
        have x0 := HC1.out.x.c0
        have x1 := HC1.out.x.c1
        have x2 := HC1.out.x.c2
        have x3 := HC1.out.x.c3
        have x4 := HC1.out.x.c4
        have x5 := HC1.out.x.c5
        have x6 := HC1.out.x.c6
        have x7 := HC1.out.x.c7
        simp only at x0 x1 x2 x6
        have xl := HC1.out.x.lt
        have y0 := celN HC1.out.c 0 _ rfl
        have y1 := celN HC1.out.c 1 _ rfl
        have y2 := celN HC1.out.c 2 _ rfl
        have y3 := celN HC1.out.c 3 _ rfl
        have y4 := celN HC1.out.c 4 _ rfl
        have y5 := celN HC1.out.c 5 _ rfl
        have y6 := celN HC1.out.c 6 _ rfl
        have y7 := celN HC1.out.c 7 _ rfl
        have y8 := celN HC1.out.c 8 _ rfl
        have y9 := celN HC1.out.c 9 _ rfl
        have yl := HC1.out.lt
        go_wp2_with fail
        refine Calls.mono (HB.out _ HC1.out.aft) ?_
        rintro e u2 ⟨rfl, hu⟩
        have HC2 : Hid (FC2 w u2 b0 b1 s ⟨.slice ahs s.hs.length khs, .slice ags s.gs.length kgs, .slice afs s.fs.length kfs, .slice acs s.cs.length kcs, qhs, qgs⟩ c) := HC1.out.step hu
        clear hu HC1
        clear x0 x1 x2 x3 x4 x5 x6 x7 xl y0 y1 y2 y3 y4 y5 y6 y7 y8 y9 yl
        have x0 := HC2.out.x.c0
        have x1 := HC2.out.x.c1
        have x2 := HC2.out.x.c2
        have x3 := HC2.out.x.c3
        have x4 := HC2.out.x.c4
        have x5 := HC2.out.x.c5
        have x6 := HC2.out.x.c6
        have x7 := HC2.out.x.c7
        simp only at x0 x1 x2 x6
        have xl := HC2.out.x.lt
        have y0 := celN HC2.out.c 0 _ rfl
        have y1 := celN HC2.out.c 1 _ rfl
        have y2 := celN HC2.out.c 2 _ rfl
        have y3 := celN HC2.out.c 3 _ rfl
        have y4 := celN HC2.out.c 4 _ rfl
        have y5 := celN HC2.out.c 5 _ rfl
        have y6 := celN HC2.out.c 6 _ rfl
        have y7 := celN HC2.out.c 7 _ rfl
        have y8 := celN HC2.out.c 8 _ rfl
        have y9 := celN HC2.out.c 9 _ rfl
        have yl := HC2.out.lt
        go_wp2
        go_ret
        exact ⟨ret_bool (by rw [E.out]; simp), HC2.out.bel⟩
      · rw [hn0] at E
        cases hn1 : (c.b != s.pub)
        · rw [hn1] at E
          go_enter Try.func24, Try.ntmps24
          go_upto_region 1 with fail
          generalize ((w.alloc (.cells #[.slice ahs s.hs.length khs, .slice ags s.gs.length kgs, .slice afs s.fs.length kfs, .int .i64 s.pub, .int .i64 s.fst, .int .i64 s.lst, .slice acs s.cs.length kcs, .int .i64 s.time] 35)).alloc (.cells #[.int .i64 c.proto, .int .i64 c.a, .int .i64 c.ap, .int .i64 c.b, .int .i64 c.bp, .int .i64 c.outer, .int .i64 c.state, .bool c.fa, .bool c.fb, .int .i64 c.seen] 59)) = u0 at *
          generalize w.heap.size + 1 = b1 at *
          generalize e0 : w.heap.size = b0 at *
          have x0 := HC0.out.x.c0
          have x1 := HC0.out.x.c1
          have x2 := HC0.out.x.c2
          have x3 := HC0.out.x.c3
          have x4 := HC0.out.x.c4
          have x5 := HC0.out.x.c5
          have x6 := HC0.out.x.c6
          have x7 := HC0.out.x.c7
          simp only at x0 x1 x2 x6
          have xl := HC0.out.x.lt
          have y0 := celN HC0.out.c 0 _ rfl
          have y1 := celN HC0.out.c 1 _ rfl
          have y2 := celN HC0.out.c 2 _ rfl
          have y3 := celN HC0.out.c 3 _ rfl
          have y4 := celN HC0.out.c 4 _ rfl
          have y5 := celN HC0.out.c 5 _ rfl
          have y6 := celN HC0.out.c 6 _ rfl
          have y7 := celN HC0.out.c 7 _ rfl
          have y8 := celN HC0.out.c 8 _ rfl
          have y9 := celN HC0.out.c 9 _ rfl
          have yl := HC0.out.lt
          go_wp2_with fail
          refine Calls.mono (HA.out _ HC0.out.aft) ?_
          rintro e u1 ⟨rfl, hu⟩
          have HC1 : Hid (FC2 w u1 b0 b1 s ⟨.slice ahs s.hs.length khs, .slice ags s.gs.length kgs, .slice afs s.fs.length kfs, .slice acs s.cs.length kcs, qhs, qgs⟩ c) := HC0.out.step hu
          clear hu HC0
          clear x0 x1 x2 x3 x4 x5 x6 x7 xl y0 y1 y2 y3 y4 y5 y6 y7 y8 y9 yl
          have x0 := HC1.out.x.c0
          have x1 := HC1.out.x.c1
          have x2 := HC1.out.x.c2
          have x3 := HC1.out.x.c3
          have x4 := HC1.out.x.c4
          have x5 := HC1.out.x.c5
          have x6 := HC1.out.x.c6
          have x7 := HC1.out.x.c7
          simp only at x0 x1 x2 x6
          have xl := HC1.out.x.lt
          have y0 := celN HC1.out.c 0 _ rfl
          have y1 := celN HC1.out.c 1 _ rfl
          have y2 := celN HC1.out.c 2 _ rfl
          have y3 := celN HC1.out.c 3 _ rfl
          have y4 := celN HC1.out.c 4 _ rfl
          have y5 := celN HC1.out.c 5 _ rfl
          have y6 := celN HC1.out.c 6 _ rfl
          have y7 := celN HC1.out.c 7 _ rfl
          have y8 := celN HC1.out.c 8 _ rfl
          have y9 := celN HC1.out.c 9 _ rfl
          have yl := HC1.out.lt
          go_wp2_with fail
          refine Calls.mono (HB.out _ HC1.out.aft) ?_
          rintro e u2 ⟨rfl, hu⟩
          have HC2 : Hid (FC2 w u2 b0 b1 s ⟨.slice ahs s.hs.length khs, .slice ags s.gs.length kgs, .slice afs s.fs.length kfs, .slice acs s.cs.length kcs, qhs, qgs⟩ c) := HC1.out.step hu
          clear hu HC1
          clear x0 x1 x2 x3 x4 x5 x6 x7 xl y0 y1 y2 y3 y4 y5 y6 y7 y8 y9 yl
          have x0 := HC2.out.x.c0
          have x1 := HC2.out.x.c1
          have x2 := HC2.out.x.c2
          have x3 := HC2.out.x.c3
          have x4 := HC2.out.x.c4
          have x5 := HC2.out.x.c5
          have x6 := HC2.out.x.c6
          have x7 := HC2.out.x.c7
          simp only at x0 x1 x2 x6
          have xl := HC2.out.x.lt
          have y0 := celN HC2.out.c 0 _ rfl
          have y1 := celN HC2.out.c 1 _ rfl
          have y2 := celN HC2.out.c 2 _ rfl
          have y3 := celN HC2.out.c 3 _ rfl
          have y4 := celN HC2.out.c 4 _ rfl
          have y5 := celN HC2.out.c 5 _ rfl
          have y6 := celN HC2.out.c 6 _ rfl
          have y7 := celN HC2.out.c 7 _ rfl
          have y8 := celN HC2.out.c 8 _ rfl
          have y9 := celN HC2.out.c 9 _ rfl
          have yl := HC2.out.lt
          go_wp2
          go_ret
          exact ⟨ret_bool (by rw [E.out]; simp), HC2.out.bel⟩
        · rw [hn1] at E
          go_enter Try.func24, Try.ntmps24
          go_upto_region 1 with fail
          generalize ((w.alloc (.cells #[.slice ahs s.hs.length khs, .slice ags s.gs.length kgs, .slice afs s.fs.length kfs, .int .i64 s.pub, .int .i64 s.fst, .int .i64 s.lst, .slice acs s.cs.length kcs, .int .i64 s.time] 35)).alloc (.cells #[.int .i64 c.proto, .int .i64 c.a, .int .i64 c.ap, .int .i64 c.b, .int .i64 c.bp, .int .i64 c.outer, .int .i64 c.state, .bool c.fa, .bool c.fb, .int .i64 c.seen] 59)) = u0 at *
          generalize w.heap.size + 1 = b1 at *
          generalize e0 : w.heap.size = b0 at *
          have x0 := HC0.out.x.c0
          have x1 := HC0.out.x.c1
          have x2 := HC0.out.x.c2
          have x3 := HC0.out.x.c3
          have x4 := HC0.out.x.c4
          have x5 := HC0.out.x.c5
          have x6 := HC0.out.x.c6
          have x7 := HC0.out.x.c7
          simp only at x0 x1 x2 x6
          have xl := HC0.out.x.lt
          have y0 := celN HC0.out.c 0 _ rfl
          have y1 := celN HC0.out.c 1 _ rfl
          have y2 := celN HC0.out.c 2 _ rfl
          have y3 := celN HC0.out.c 3 _ rfl
          have y4 := celN HC0.out.c 4 _ rfl
          have y5 := celN HC0.out.c 5 _ rfl
          have y6 := celN HC0.out.c 6 _ rfl
          have y7 := celN HC0.out.c 7 _ rfl
          have y8 := celN HC0.out.c 8 _ rfl
          have y9 := celN HC0.out.c 9 _ rfl
          have yl := HC0.out.lt
          go_wp2_with fail
          refine Calls.mono (HA.out _ HC0.out.aft) ?_
          rintro e u1 ⟨rfl, hu⟩
          have HC1 : Hid (FC2 w u1 b0 b1 s ⟨.slice ahs s.hs.length khs, .slice ags s.gs.length kgs, .slice afs s.fs.length kfs, .slice acs s.cs.length kcs, qhs, qgs⟩ c) := HC0.out.step hu
          clear hu HC0
          clear x0 x1 x2 x3 x4 x5 x6 x7 xl y0 y1 y2 y3 y4 y5 y6 y7 y8 y9 yl
          have x0 := HC1.out.x.c0
          have x1 := HC1.out.x.c1
          have x2 := HC1.out.x.c2
          have x3 := HC1.out.x.c3
          have x4 := HC1.out.x.c4
          have x5 := HC1.out.x.c5
          have x6 := HC1.out.x.c6
          have x7 := HC1.out.x.c7
          simp only at x0 x1 x2 x6
          have xl := HC1.out.x.lt
          have y0 := celN HC1.out.c 0 _ rfl
          have y1 := celN HC1.out.c 1 _ rfl
          have y2 := celN HC1.out.c 2 _ rfl
          have y3 := celN HC1.out.c 3 _ rfl
          have y4 := celN HC1.out.c 4 _ rfl
          have y5 := celN HC1.out.c 5 _ rfl
          have y6 := celN HC1.out.c 6 _ rfl
          have y7 := celN HC1.out.c 7 _ rfl
          have y8 := celN HC1.out.c 8 _ rfl
          have y9 := celN HC1.out.c 9 _ rfl
          have yl := HC1.out.lt
          go_wp2_with fail
          refine Calls.mono (HB.out _ HC1.out.aft) ?_
          rintro e u2 ⟨rfl, hu⟩
          have HC2 : Hid (FC2 w u2 b0 b1 s ⟨.slice ahs s.hs.length khs, .slice ags s.gs.length kgs, .slice afs s.fs.length kfs, .slice acs s.cs.length kcs, qhs, qgs⟩ c) := HC1.out.step hu
          clear hu HC1
          clear x0 x1 x2 x3 x4 x5 x6 x7 xl y0 y1 y2 y3 y4 y5 y6 y7 y8 y9 yl
          have x0 := HC2.out.x.c0
          have x1 := HC2.out.x.c1
          have x2 := HC2.out.x.c2
          have x3 := HC2.out.x.c3
          have x4 := HC2.out.x.c4
          have x5 := HC2.out.x.c5
          have x6 := HC2.out.x.c6
          have x7 := HC2.out.x.c7
          simp only at x0 x1 x2 x6
          have xl := HC2.out.x.lt
          have y0 := celN HC2.out.c 0 _ rfl
          have y1 := celN HC2.out.c 1 _ rfl
          have y2 := celN HC2.out.c 2 _ rfl
          have y3 := celN HC2.out.c 3 _ rfl
          have y4 := celN HC2.out.c 4 _ rfl
          have y5 := celN HC2.out.c 5 _ rfl
          have y6 := celN HC2.out.c 6 _ rfl
          have y7 := celN HC2.out.c 7 _ rfl
          have y8 := celN HC2.out.c 8 _ rfl
          have y9 := celN HC2.out.c 9 _ rfl
          have yl := HC2.out.lt
          go_wp2
          go_ret
          exact ⟨ret_bool (by rw [E.out]; simp), HC2.out.bel⟩
    · rw [h2] at E
      cases hn0 : (c.a != s.pub)
      · rw [hn0] at E
        go_enter Try.func24, Try.ntmps24
        go_upto_region 1 with fail
        generalize ((w.alloc (.cells #[.slice ahs s.hs.length khs, .slice ags s.gs.length kgs, .slice afs s.fs.length kfs, .int .i64 s.pub, .int .i64 s.fst, .int .i64 s.lst, .slice acs s.cs.length kcs, .int .i64 s.time] 35)).alloc (.cells #[.int .i64 c.proto, .int .i64 c.a, .int .i64 c.ap, .int .i64 c.b, .int .i64 c.bp, .int .i64 c.outer, .int .i64 c.state, .bool c.fa, .bool c.fb, .int .i64 c.seen] 59)) = u0 at *
        generalize w.heap.size + 1 = b1 at *
        generalize e0 : w.heap.size = b0 at *
        have x0 := HC0.out.x.c0
        have x1 := HC0.out.x.c1
        have x2 := HC0.out.x.c2
        have x3 := HC0.out.x.c3
        have x4 := HC0.out.x.c4
        have x5 := HC0.out.x.c5
        have x6 := HC0.out.x.c6
        have x7 := HC0.out.x.c7
        simp only at x0 x1 x2 x6
        have xl := HC0.out.x.lt
        have y0 := celN HC0.out.c 0 _ rfl
        have y1 := celN HC0.out.c 1 _ rfl
        have y2 := celN HC0.out.c 2 _ rfl
        have y3 := celN HC0.out.c 3 _ rfl
        have y4 := celN HC0.out.c 4 _ rfl
        have y5 := celN HC0.out.c 5 _ rfl
        have y6 := celN HC0.out.c 6 _ rfl
        have y7 := celN HC0.out.c 7 _ rfl
        have y8 := celN HC0.out.c 8 _ rfl
        have y9 := celN HC0.out.c 9 _ rfl
        have yl := HC0.out.lt
        go_wp2_with fail
        refine Calls.mono (HA.out _ HC0.out.aft) ?_
        rintro e u1 ⟨rfl, hu⟩
        have HC1 : Hid (FC2 w u1 b0 b1 s ⟨.slice ahs s.hs.length khs, .slice ags s.gs.length kgs, .slice afs s.fs.length kfs, .slice acs s.cs.length kcs, qhs, qgs⟩ c) := HC0.out.step hu
        clear hu HC0
        clear x0 x1 x2 x3 x4 x5 x6 x7 xl y0 y1 y2 y3 y4 y5 y6 y7 y8 y9 yl
        have x0 := HC1.out.x.c0
        have x1 := HC1.out.x.c1
        have x2 := HC1.out.x.c2
        have x3 := HC1.out.x.c3
        have x4 := HC1.out.x.c4
        have x5 := HC1.out.x.c5
        have x6 := HC1.out.x.c6
        have x7 := HC1.out.x.c7
        simp only at x0 x1 x2 x6
        have xl := HC1.out.x.lt
        have y0 := celN HC1.out.c 0 _ rfl
        have y1 := celN HC1.out.c 1 _ rfl
        have y2 := celN HC1.out.c 2 _ rfl
        have y3 := celN HC1.out.c 3 _ rfl
        have y4 := celN HC1.out.c 4 _ rfl
        have y5 := celN HC1.out.c 5 _ rfl
        have y6 := celN HC1.out.c 6 _ rfl
        have y7 := celN HC1.out.c 7 _ rfl
        have y8 := celN HC1.out.c 8 _ rfl
        have y9 := celN HC1.out.c 9 _ rfl
        have yl := HC1.out.lt
        go_wp2_with fail
        refine Calls.mono (HB.out _ HC1.out.aft) ?_
        rintro e u2 ⟨rfl, hu⟩
        have HC2 : Hid (FC2 w u2 b0 b1 s ⟨.slice ahs s.hs.length khs, .slice ags s.gs.length kgs, .slice afs s.fs.length kfs, .slice acs s.cs.length kcs, qhs, qgs⟩ c) := HC1.out.step hu
        clear hu HC1
        clear x0 x1 x2 x3 x4 x5 x6 x7 xl y0 y1 y2 y3 y4 y5 y6 y7 y8 y9 yl
        have x0 := HC2.out.x.c0
        have x1 := HC2.out.x.c1
        have x2 := HC2.out.x.c2
        have x3 := HC2.out.x.c3
        have x4 := HC2.out.x.c4
        have x5 := HC2.out.x.c5
        have x6 := HC2.out.x.c6
        have x7 := HC2.out.x.c7
        simp only at x0 x1 x2 x6
        have xl := HC2.out.x.lt
        have y0 := celN HC2.out.c 0 _ rfl
        have y1 := celN HC2.out.c 1 _ rfl
        have y2 := celN HC2.out.c 2 _ rfl
        have y3 := celN HC2.out.c 3 _ rfl
        have y4 := celN HC2.out.c 4 _ rfl
        have y5 := celN HC2.out.c 5 _ rfl
        have y6 := celN HC2.out.c 6 _ rfl
        have y7 := celN HC2.out.c 7 _ rfl
        have y8 := celN HC2.out.c 8 _ rfl
        have y9 := celN HC2.out.c 9 _ rfl
        have yl := HC2.out.lt
        go_wp2
        go_ret
        exact ⟨ret_bool (by rw [E.out]; simp), HC2.out.bel⟩
      · rw [hn0] at E
        cases hn1 : (c.b != s.pub)
        · rw [hn1] at E
          go_enter Try.func24, Try.ntmps24
          go_upto_region 1 with fail
          generalize ((w.alloc (.cells #[.slice ahs s.hs.length khs, .slice ags s.gs.length kgs, .slice afs s.fs.length kfs, .int .i64 s.pub, .int .i64 s.fst, .int .i64 s.lst, .slice acs s.cs.length kcs, .int .i64 s.time] 35)).alloc (.cells #[.int .i64 c.proto, .int .i64 c.a, .int .i64 c.ap, .int .i64 c.b, .int .i64 c.bp, .int .i64 c.outer, .int .i64 c.state, .bool c.fa, .bool c.fb, .int .i64 c.seen] 59)) = u0 at *
          generalize w.heap.size + 1 = b1 at *
          generalize e0 : w.heap.size = b0 at *
          have x0 := HC0.out.x.c0
          have x1 := HC0.out.x.c1
          have x2 := HC0.out.x.c2
          have x3 := HC0.out.x.c3
          have x4 := HC0.out.x.c4
          have x5 := HC0.out.x.c5
          have x6 := HC0.out.x.c6
          have x7 := HC0.out.x.c7
          simp only at x0 x1 x2 x6
          have xl := HC0.out.x.lt
          have y0 := celN HC0.out.c 0 _ rfl
          have y1 := celN HC0.out.c 1 _ rfl
          have y2 := celN HC0.out.c 2 _ rfl
          have y3 := celN HC0.out.c 3 _ rfl
          have y4 := celN HC0.out.c 4 _ rfl
          have y5 := celN HC0.out.c 5 _ rfl
          have y6 := celN HC0.out.c 6 _ rfl
          have y7 := celN HC0.out.c 7 _ rfl
          have y8 := celN HC0.out.c 8 _ rfl
          have y9 := celN HC0.out.c 9 _ rfl
          have yl := HC0.out.lt
          go_wp2_with fail
          refine Calls.mono (HA.out _ HC0.out.aft) ?_
          rintro e u1 ⟨rfl, hu⟩
          have HC1 : Hid (FC2 w u1 b0 b1 s ⟨.slice ahs s.hs.length khs, .slice ags s.gs.length kgs, .slice afs s.fs.length kfs, .slice acs s.cs.length kcs, qhs, qgs⟩ c) := HC0.out.step hu
          clear hu HC0
          clear x0 x1 x2 x3 x4 x5 x6 x7 xl y0 y1 y2 y3 y4 y5 y6 y7 y8 y9 yl
          have x0 := HC1.out.x.c0
          have x1 := HC1.out.x.c1
          have x2 := HC1.out.x.c2
          have x3 := HC1.out.x.c3
          have x4 := HC1.out.x.c4
          have x5 := HC1.out.x.c5
          have x6 := HC1.out.x.c6
          have x7 := HC1.out.x.c7
          simp only at x0 x1 x2 x6
          have xl := HC1.out.x.lt
          have y0 := celN HC1.out.c 0 _ rfl
          have y1 := celN HC1.out.c 1 _ rfl
          have y2 := celN HC1.out.c 2 _ rfl
          have y3 := celN HC1.out.c 3 _ rfl
          have y4 := celN HC1.out.c 4 _ rfl
          have y5 := celN HC1.out.c 5 _ rfl
          have y6 := celN HC1.out.c 6 _ rfl
          have y7 := celN HC1.out.c 7 _ rfl
          have y8 := celN HC1.out.c 8 _ rfl
          have y9 := celN HC1.out.c 9 _ rfl
          have yl := HC1.out.lt
          go_wp2_with fail
          refine Calls.mono (HB.out _ HC1.out.aft) ?_
          rintro e u2 ⟨rfl, hu⟩
          have HC2 : Hid (FC2 w u2 b0 b1 s ⟨.slice ahs s.hs.length khs, .slice ags s.gs.length kgs, .slice afs s.fs.length kfs, .slice acs s.cs.length kcs, qhs, qgs⟩ c) := HC1.out.step hu
          clear hu HC1
          clear x0 x1 x2 x3 x4 x5 x6 x7 xl y0 y1 y2 y3 y4 y5 y6 y7 y8 y9 yl
          have x0 := HC2.out.x.c0
          have x1 := HC2.out.x.c1
          have x2 := HC2.out.x.c2
          have x3 := HC2.out.x.c3
          have x4 := HC2.out.x.c4
          have x5 := HC2.out.x.c5
          have x6 := HC2.out.x.c6
          have x7 := HC2.out.x.c7
          simp only at x0 x1 x2 x6
          have xl := HC2.out.x.lt
          have y0 := celN HC2.out.c 0 _ rfl
          have y1 := celN HC2.out.c 1 _ rfl
          have y2 := celN HC2.out.c 2 _ rfl
          have y3 := celN HC2.out.c 3 _ rfl
          have y4 := celN HC2.out.c 4 _ rfl
          have y5 := celN HC2.out.c 5 _ rfl
          have y6 := celN HC2.out.c 6 _ rfl
          have y7 := celN HC2.out.c 7 _ rfl
          have y8 := celN HC2.out.c 8 _ rfl
          have y9 := celN HC2.out.c 9 _ rfl
          have yl := HC2.out.lt
          go_wp2
          go_ret
          exact ⟨ret_bool (by rw [E.out]; simp), HC2.out.bel⟩
        · rw [hn1] at E
          go_enter Try.func24, Try.ntmps24
          go_upto_region 1 with fail
          generalize ((w.alloc (.cells #[.slice ahs s.hs.length khs, .slice ags s.gs.length kgs, .slice afs s.fs.length kfs, .int .i64 s.pub, .int .i64 s.fst, .int .i64 s.lst, .slice acs s.cs.length kcs, .int .i64 s.time] 35)).alloc (.cells #[.int .i64 c.proto, .int .i64 c.a, .int .i64 c.ap, .int .i64 c.b, .int .i64 c.bp, .int .i64 c.outer, .int .i64 c.state, .bool c.fa, .bool c.fb, .int .i64 c.seen] 59)) = u0 at *
          generalize w.heap.size + 1 = b1 at *
          generalize e0 : w.heap.size = b0 at *
          have x0 := HC0.out.x.c0
          have x1 := HC0.out.x.c1
          have x2 := HC0.out.x.c2
          have x3 := HC0.out.x.c3
          have x4 := HC0.out.x.c4
          have x5 := HC0.out.x.c5
          have x6 := HC0.out.x.c6
          have x7 := HC0.out.x.c7
          simp only at x0 x1 x2 x6
          have xl := HC0.out.x.lt
          have y0 := celN HC0.out.c 0 _ rfl
          have y1 := celN HC0.out.c 1 _ rfl
          have y2 := celN HC0.out.c 2 _ rfl
          have y3 := celN HC0.out.c 3 _ rfl
          have y4 := celN HC0.out.c 4 _ rfl
          have y5 := celN HC0.out.c 5 _ rfl
          have y6 := celN HC0.out.c 6 _ rfl
          have y7 := celN HC0.out.c 7 _ rfl
          have y8 := celN HC0.out.c 8 _ rfl
          have y9 := celN HC0.out.c 9 _ rfl
          have yl := HC0.out.lt
          go_wp2_with fail
          refine Calls.mono (HA.out _ HC0.out.aft) ?_
          rintro e u1 ⟨rfl, hu⟩
          have HC1 : Hid (FC2 w u1 b0 b1 s ⟨.slice ahs s.hs.length khs, .slice ags s.gs.length kgs, .slice afs s.fs.length kfs, .slice acs s.cs.length kcs, qhs, qgs⟩ c) := HC0.out.step hu
          clear hu HC0
          clear x0 x1 x2 x3 x4 x5 x6 x7 xl y0 y1 y2 y3 y4 y5 y6 y7 y8 y9 yl
          have x0 := HC1.out.x.c0
          have x1 := HC1.out.x.c1
          have x2 := HC1.out.x.c2
          have x3 := HC1.out.x.c3
          have x4 := HC1.out.x.c4
          have x5 := HC1.out.x.c5
          have x6 := HC1.out.x.c6
          have x7 := HC1.out.x.c7
          simp only at x0 x1 x2 x6
          have xl := HC1.out.x.lt
          have y0 := celN HC1.out.c 0 _ rfl
          have y1 := celN HC1.out.c 1 _ rfl
          have y2 := celN HC1.out.c 2 _ rfl
          have y3 := celN HC1.out.c 3 _ rfl
          have y4 := celN HC1.out.c 4 _ rfl
          have y5 := celN HC1.out.c 5 _ rfl
          have y6 := celN HC1.out.c 6 _ rfl
          have y7 := celN HC1.out.c 7 _ rfl
          have y8 := celN HC1.out.c 8 _ rfl
          have y9 := celN HC1.out.c 9 _ rfl
          have yl := HC1.out.lt
          go_wp2_with fail
          refine Calls.mono (HB.out _ HC1.out.aft) ?_
          rintro e u2 ⟨rfl, hu⟩
          have HC2 : Hid (FC2 w u2 b0 b1 s ⟨.slice ahs s.hs.length khs, .slice ags s.gs.length kgs, .slice afs s.fs.length kfs, .slice acs s.cs.length kcs, qhs, qgs⟩ c) := HC1.out.step hu
          clear hu HC1
          clear x0 x1 x2 x3 x4 x5 x6 x7 xl y0 y1 y2 y3 y4 y5 y6 y7 y8 y9 yl
          have x0 := HC2.out.x.c0
          have x1 := HC2.out.x.c1
          have x2 := HC2.out.x.c2
          have x3 := HC2.out.x.c3
          have x4 := HC2.out.x.c4
          have x5 := HC2.out.x.c5
          have x6 := HC2.out.x.c6
          have x7 := HC2.out.x.c7
          simp only at x0 x1 x2 x6
          have xl := HC2.out.x.lt
          have y0 := celN HC2.out.c 0 _ rfl
          have y1 := celN HC2.out.c 1 _ rfl
          have y2 := celN HC2.out.c 2 _ rfl
          have y3 := celN HC2.out.c 3 _ rfl
          have y4 := celN HC2.out.c 4 _ rfl
          have y5 := celN HC2.out.c 5 _ rfl
          have y6 := celN HC2.out.c 6 _ rfl
          have y7 := celN HC2.out.c 7 _ rfl
          have y8 := celN HC2.out.c 8 _ rfl
          have y9 := celN HC2.out.c 9 _ rfl
          have yl := HC2.out.lt
          go_wp2
          go_ret
          exact ⟨ret_bool (by rw [E.out]; simp), HC2.out.bel⟩
end Go.Proofs.Ytpggbbdfbnocfaa
