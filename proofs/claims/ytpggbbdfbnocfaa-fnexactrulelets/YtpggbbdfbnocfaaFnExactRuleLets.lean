import Derived.Test.YtpggbbdfbnocfaaFq4ff
import Derived.Test.YtpggbbdfbnocfaaFtQ
import Derived.Test.YtpggbbdfbnocfaaFq4tt
import Derived.Test.YtpggbbdfbnocfaaFkZ
import Derived.Test.YtpggbbdfbnocfaaHO2
import Derived.Deep.Slices
import Derived.Test.YtpggbbdfbnocfaaGP2
import Derived.Test.YtpggbbdfbnocfaaFi1
import Derived.Test.YtpggbbdfbnocfaaRows
import Derived.WalkKit
import Derived.ProofKit
import Derived.OpenShut
import Derived.ShutString
import Derived.ChangeOld
import Derived.Carry
namespace Go.Proofs.Ytpggbbdfbnocfaa
open Go.ChangeShapes Go.WideShapes Go.ChangeAt Go.RowKit

theorem letsS_any {w : World} {s : FI} {a : FA} (h : FIRows w s a) (hl : FIlen s) (r : NR) (n : Nat) (hn : (32 : Int) - r.bits = (n : Int)) (hb0 : 0 ≤ r.bits) (p : PK) (inn : Bool) : Calls Try.prog 38 #[flA s a, nrA r, pkA p, .bool inn] w fun e w' => e = .returned (.bool (lsB s n r p inn)) ∧ Below w.heap.size w w' := by
  cases inn <;> cases hr : r.inn
  · exact letsS_false_false h hl r hr n hn hb0 p
  · exact letsS_false_true h hl r hr n hn hb0 p
  · exact letsS_true_false h hl r hr n hn hb0 p
  · exact letsS_true_true h hl r hr n hn hb0 p
theorem rlB_bits {n : Nat} {r : NR} (h : rlB n r = true) : 0 ≤ r.bits ∧ r.bits ≤ 32 := by
  unfold rlB at h
  simp at h
  omega
def rsB (s : FI) (r : NR) (p : PK) (inn : Bool) : Bool := (ssV s == 0) && rlB s.gs.length r && pS p && lsB s (bn r) r p inn
set_option maxRecDepth 100000 in
set_option maxHeartbeats 32000000 in
theorem specRL_any {w : World} {s : FI} {a : FA} (h : FIRows w s a) (hl : FIlen s) (r : NR) (p : PK) (inn : Bool) : Calls Try.prog 10 #[flA s a, nrA r, pkA p, .bool inn] w fun e w' => e = .returned (.bool (rsB s r p inn)) ∧ Below w.heap.size w w' := by
  have HR0 : Hid (R3 w (((w.alloc (.cells (flC s a) 35)).alloc (.cells #[.bool r.inn, .int .i64 r.proto, .int .i64 r.addr, .int .i64 r.bits, .int .i64 r.low, .int .i64 r.high, .int .i64 r.group] 44)).alloc (.cells #[.int .i64 p.proto, .int .i64 p.src, .int .i64 p.sp, .int .i64 p.dst, .int .i64 p.dp, .int .i64 p.flags] 46)) w.heap.size (w.heap.size + 1) (w.heap.size + 1 + 1) s a r p) := R3.new r p h
  obtain ⟨ahs, khs, ags, kgs, afs, kfs, acs, kcs, e⟩ := h.sl
  generalize a.qhs = qhs at e
  generalize a.qgs = qgs at e
  subst e
  have HRR : Hid (FIRows w s ⟨.slice ahs s.hs.length khs, .slice ags s.gs.length kgs, .slice afs s.fs.length kfs, .slice acs s.cs.length kcs, qhs, qgs⟩) := h
  clear h
  unfold flC at HR0
  unfold flA flC nrA pkA pkC
  simp only at HR0 ⊢
  have HFF : Hid (∀ u, Aft w u → Calls Try.prog 6 #[.agg #[.slice ahs s.hs.length khs, .slice ags s.gs.length kgs, .slice afs s.fs.length kfs, .int .i64 s.pub, .int .i64 s.fst, .int .i64 s.lst, .slice acs s.cs.length kcs, .int .i64 s.time]] u fun e w' => e = .returned (.int .i64 (ssV s)) ∧ Below u.heap.size u w') := (fun u hu => by have h9 := specFF_any (HRR.out.below hu.out) hl; unfold flA flC at h9; simp only at h9; exact h9)
  have HRU : Hid (∀ u, Aft w u → Calls Try.prog 36 #[.agg #[.bool r.inn, .int .i64 r.proto, .int .i64 r.addr, .int .i64 r.bits, .int .i64 r.low, .int .i64 r.high, .int .i64 r.group], .int .i64 (s.gs.length : Nat)] u fun e w' => e = .returned (.bool (rlB s.gs.length r)) ∧ Below u.heap.size u w') := (fun u _ => by have h9 := ruleS_any r s.gs.length u; unfold nrA at h9; exact h9)
  have HPK : Hid (∀ u, Aft w u → Calls Try.prog 37 #[.agg #[.int .i64 p.proto, .int .i64 p.src, .int .i64 p.sp, .int .i64 p.dst, .int .i64 p.dp, .int .i64 p.flags]] u fun e w' => e = .returned (.bool (pS p)) ∧ Below u.heap.size u w') := (fun u _ => by have h9 := packetS_any p u; unfold pkA pkC at h9; exact h9)
  have E : Hid (rsB s r p inn = ((ssV s == 0) && rlB s.gs.length r && pS p && lsB s (bn r) r p inn)) := rfl
  generalize ssV s = V at *
  cases h1 : (V == 0)
  · rw [h1] at E
    go_enter Try.func10, Try.ntmps10
    go_upto_region 1 with fail
    generalize (((w.alloc (.cells #[.slice ahs s.hs.length khs, .slice ags s.gs.length kgs, .slice afs s.fs.length kfs, .int .i64 s.pub, .int .i64 s.fst, .int .i64 s.lst, .slice acs s.cs.length kcs, .int .i64 s.time] 35)).alloc (.cells #[.bool r.inn, .int .i64 r.proto, .int .i64 r.addr, .int .i64 r.bits, .int .i64 r.low, .int .i64 r.high, .int .i64 r.group] 44)).alloc (.cells #[.int .i64 p.proto, .int .i64 p.src, .int .i64 p.sp, .int .i64 p.dst, .int .i64 p.dp, .int .i64 p.flags] 46)) = u0 at *
    generalize w.heap.size + 1 + 1 = b2 at *
    generalize w.heap.size + 1 = b1 at *
    generalize w.heap.size = b0 at *
    have x0 := HR0.out.x.c0
    have x1 := HR0.out.x.c1
    have x2 := HR0.out.x.c2
    have x3 := HR0.out.x.c3
    have x4 := HR0.out.x.c4
    have x5 := HR0.out.x.c5
    have x6 := HR0.out.x.c6
    have x7 := HR0.out.x.c7
    have xl := HR0.out.x.lt
    simp only at x0 x1 x2 x6
    go_wp2_with fail
    refine Calls.mono (HFF.out _ HR0.out.aft) ?_
    rintro e u1 ⟨rfl, hu⟩
    have HR1 : Hid (R3 w u1 b0 b1 b2 s ⟨.slice ahs s.hs.length khs, .slice ags s.gs.length kgs, .slice afs s.fs.length kfs, .slice acs s.cs.length kcs, qhs, qgs⟩ r p) := HR0.out.step hu
    clear hu
    clear x0 x1 x2 x3 x4 x5 x6 x7 xl
    go_wp2
    go_ret
    exact ⟨ret_bool (by rw [E.out]; simp), HR1.out.bel⟩
  · rw [h1] at E
    cases h2 : rlB s.gs.length r
    · rw [h2] at E HRU
      go_enter Try.func10, Try.ntmps10
      go_upto_region 1 with fail
      generalize (((w.alloc (.cells #[.slice ahs s.hs.length khs, .slice ags s.gs.length kgs, .slice afs s.fs.length kfs, .int .i64 s.pub, .int .i64 s.fst, .int .i64 s.lst, .slice acs s.cs.length kcs, .int .i64 s.time] 35)).alloc (.cells #[.bool r.inn, .int .i64 r.proto, .int .i64 r.addr, .int .i64 r.bits, .int .i64 r.low, .int .i64 r.high, .int .i64 r.group] 44)).alloc (.cells #[.int .i64 p.proto, .int .i64 p.src, .int .i64 p.sp, .int .i64 p.dst, .int .i64 p.dp, .int .i64 p.flags] 46)) = u0 at *
      generalize w.heap.size + 1 + 1 = b2 at *
      generalize w.heap.size + 1 = b1 at *
      generalize w.heap.size = b0 at *
      have x0 := HR0.out.x.c0
      have x1 := HR0.out.x.c1
      have x2 := HR0.out.x.c2
      have x3 := HR0.out.x.c3
      have x4 := HR0.out.x.c4
      have x5 := HR0.out.x.c5
      have x6 := HR0.out.x.c6
      have x7 := HR0.out.x.c7
      have xl := HR0.out.x.lt
      simp only at x0 x1 x2 x6
      go_wp2_with fail
      refine Calls.mono (HFF.out _ HR0.out.aft) ?_
      rintro e u1 ⟨rfl, hu⟩
      have HR1 : Hid (R3 w u1 b0 b1 b2 s ⟨.slice ahs s.hs.length khs, .slice ags s.gs.length kgs, .slice afs s.fs.length kfs, .slice acs s.cs.length kcs, qhs, qgs⟩ r p) := HR0.out.step hu
      clear hu
      clear x0 x1 x2 x3 x4 x5 x6 x7 xl
      have k0 := celN HR1.out.r 0 _ rfl
      have k1 := celN HR1.out.r 1 _ rfl
      have k2 := celN HR1.out.r 2 _ rfl
      have k3 := celN HR1.out.r 3 _ rfl
      have k4 := celN HR1.out.r 4 _ rfl
      have k5 := celN HR1.out.r 5 _ rfl
      have k6 := celN HR1.out.r 6 _ rfl
      have kl := HR1.out.lr
      have x1 := HR1.out.x.c1
      have xl := HR1.out.x.lt
      simp only at x1
      go_wp2_with fail
      refine Calls.mono (HRU.out _ HR1.out.aft) ?_
      rintro e u2 ⟨rfl, hu⟩
      have HR2 : Hid (R3 w u2 b0 b1 b2 s ⟨.slice ahs s.hs.length khs, .slice ags s.gs.length kgs, .slice afs s.fs.length kfs, .slice acs s.cs.length kcs, qhs, qgs⟩ r p) := HR1.out.step hu
      clear hu
      clear k0 k1 k2 k3 k4 k5 k6 kl x1 xl
      go_wp2
      go_ret
      exact ⟨ret_bool (by rw [E.out]; simp), HR2.out.bel⟩
    · rw [h2] at E HRU
      cases h3 : pS p
      · rw [h3] at E HPK
        go_enter Try.func10, Try.ntmps10
        go_upto_region 1 with fail
        generalize (((w.alloc (.cells #[.slice ahs s.hs.length khs, .slice ags s.gs.length kgs, .slice afs s.fs.length kfs, .int .i64 s.pub, .int .i64 s.fst, .int .i64 s.lst, .slice acs s.cs.length kcs, .int .i64 s.time] 35)).alloc (.cells #[.bool r.inn, .int .i64 r.proto, .int .i64 r.addr, .int .i64 r.bits, .int .i64 r.low, .int .i64 r.high, .int .i64 r.group] 44)).alloc (.cells #[.int .i64 p.proto, .int .i64 p.src, .int .i64 p.sp, .int .i64 p.dst, .int .i64 p.dp, .int .i64 p.flags] 46)) = u0 at *
        generalize w.heap.size + 1 + 1 = b2 at *
        generalize w.heap.size + 1 = b1 at *
        generalize w.heap.size = b0 at *
        have x0 := HR0.out.x.c0
        have x1 := HR0.out.x.c1
        have x2 := HR0.out.x.c2
        have x3 := HR0.out.x.c3
        have x4 := HR0.out.x.c4
        have x5 := HR0.out.x.c5
        have x6 := HR0.out.x.c6
        have x7 := HR0.out.x.c7
        have xl := HR0.out.x.lt
        simp only at x0 x1 x2 x6
        go_wp2_with fail
        refine Calls.mono (HFF.out _ HR0.out.aft) ?_
        rintro e u1 ⟨rfl, hu⟩
        have HR1 : Hid (R3 w u1 b0 b1 b2 s ⟨.slice ahs s.hs.length khs, .slice ags s.gs.length kgs, .slice afs s.fs.length kfs, .slice acs s.cs.length kcs, qhs, qgs⟩ r p) := HR0.out.step hu
        clear hu
        clear x0 x1 x2 x3 x4 x5 x6 x7 xl
        have k0 := celN HR1.out.r 0 _ rfl
        have k1 := celN HR1.out.r 1 _ rfl
        have k2 := celN HR1.out.r 2 _ rfl
        have k3 := celN HR1.out.r 3 _ rfl
        have k4 := celN HR1.out.r 4 _ rfl
        have k5 := celN HR1.out.r 5 _ rfl
        have k6 := celN HR1.out.r 6 _ rfl
        have kl := HR1.out.lr
        have x1 := HR1.out.x.c1
        have xl := HR1.out.x.lt
        simp only at x1
        go_wp2_with fail
        refine Calls.mono (HRU.out _ HR1.out.aft) ?_
        rintro e u2 ⟨rfl, hu⟩
        have HR2 : Hid (R3 w u2 b0 b1 b2 s ⟨.slice ahs s.hs.length khs, .slice ags s.gs.length kgs, .slice afs s.fs.length kfs, .slice acs s.cs.length kcs, qhs, qgs⟩ r p) := HR1.out.step hu
        clear hu
        clear k0 k1 k2 k3 k4 k5 k6 kl x1 xl
        have j0 := celN HR2.out.p 0 _ rfl
        have j1 := celN HR2.out.p 1 _ rfl
        have j2 := celN HR2.out.p 2 _ rfl
        have j3 := celN HR2.out.p 3 _ rfl
        have j4 := celN HR2.out.p 4 _ rfl
        have j5 := celN HR2.out.p 5 _ rfl
        have jl := HR2.out.lp
        go_wp2_with fail
        refine Calls.mono (HPK.out _ HR2.out.aft) ?_
        rintro e u3 ⟨rfl, hu⟩
        have HR3 : Hid (R3 w u3 b0 b1 b2 s ⟨.slice ahs s.hs.length khs, .slice ags s.gs.length kgs, .slice afs s.fs.length kfs, .slice acs s.cs.length kcs, qhs, qgs⟩ r p) := HR2.out.step hu
        clear hu
        clear j0 j1 j2 j3 j4 j5 jl
        go_wp2
        go_ret
        exact ⟨ret_bool (by rw [E.out]; simp), HR3.out.bel⟩
      · rw [h3] at E HPK
        obtain ⟨hb0, hb1⟩ := rlB_bits h2
        have HRL : Hid (∀ u, Aft w u → Calls Try.prog 38 #[.agg #[.slice ahs s.hs.length khs, .slice ags s.gs.length kgs, .slice afs s.fs.length kfs, .int .i64 s.pub, .int .i64 s.fst, .int .i64 s.lst, .slice acs s.cs.length kcs, .int .i64 s.time], .agg #[.bool r.inn, .int .i64 r.proto, .int .i64 r.addr, .int .i64 r.bits, .int .i64 r.low, .int .i64 r.high, .int .i64 r.group], .agg #[.int .i64 p.proto, .int .i64 p.src, .int .i64 p.sp, .int .i64 p.dst, .int .i64 p.dp, .int .i64 p.flags], .bool inn] u fun e w' => e = .returned (.bool (lsB s (bn r) r p inn)) ∧ Below u.heap.size u w') := (fun u hu => by have h9 := letsS_any (HRR.out.below hu.out) hl r (bn r) (by unfold bn; omega) hb0 p inn; unfold flA flC nrA pkA pkC at h9; simp only at h9; exact h9)
        clear hb0 hb1 h2
        generalize lsB s (bn r) r p inn = RL at *
        go_enter Try.func10, Try.ntmps10
        go_upto_region 1 with fail
        generalize (((w.alloc (.cells #[.slice ahs s.hs.length khs, .slice ags s.gs.length kgs, .slice afs s.fs.length kfs, .int .i64 s.pub, .int .i64 s.fst, .int .i64 s.lst, .slice acs s.cs.length kcs, .int .i64 s.time] 35)).alloc (.cells #[.bool r.inn, .int .i64 r.proto, .int .i64 r.addr, .int .i64 r.bits, .int .i64 r.low, .int .i64 r.high, .int .i64 r.group] 44)).alloc (.cells #[.int .i64 p.proto, .int .i64 p.src, .int .i64 p.sp, .int .i64 p.dst, .int .i64 p.dp, .int .i64 p.flags] 46)) = u0 at *
        generalize w.heap.size + 1 + 1 = b2 at *
        generalize w.heap.size + 1 = b1 at *
        generalize w.heap.size = b0 at *
        have x0 := HR0.out.x.c0
        have x1 := HR0.out.x.c1
        have x2 := HR0.out.x.c2
        have x3 := HR0.out.x.c3
        have x4 := HR0.out.x.c4
        have x5 := HR0.out.x.c5
        have x6 := HR0.out.x.c6
        have x7 := HR0.out.x.c7
        have xl := HR0.out.x.lt
        simp only at x0 x1 x2 x6
        go_wp2_with fail
        refine Calls.mono (HFF.out _ HR0.out.aft) ?_
        rintro e u1 ⟨rfl, hu⟩
        have HR1 : Hid (R3 w u1 b0 b1 b2 s ⟨.slice ahs s.hs.length khs, .slice ags s.gs.length kgs, .slice afs s.fs.length kfs, .slice acs s.cs.length kcs, qhs, qgs⟩ r p) := HR0.out.step hu
        clear hu
        clear x0 x1 x2 x3 x4 x5 x6 x7 xl
        have k0 := celN HR1.out.r 0 _ rfl
        have k1 := celN HR1.out.r 1 _ rfl
        have k2 := celN HR1.out.r 2 _ rfl
        have k3 := celN HR1.out.r 3 _ rfl
        have k4 := celN HR1.out.r 4 _ rfl
        have k5 := celN HR1.out.r 5 _ rfl
        have k6 := celN HR1.out.r 6 _ rfl
        have kl := HR1.out.lr
        have x1 := HR1.out.x.c1
        have xl := HR1.out.x.lt
        simp only at x1
        go_wp2_with fail
        refine Calls.mono (HRU.out _ HR1.out.aft) ?_
        rintro e u2 ⟨rfl, hu⟩
        have HR2 : Hid (R3 w u2 b0 b1 b2 s ⟨.slice ahs s.hs.length khs, .slice ags s.gs.length kgs, .slice afs s.fs.length kfs, .slice acs s.cs.length kcs, qhs, qgs⟩ r p) := HR1.out.step hu
        clear hu
        clear k0 k1 k2 k3 k4 k5 k6 kl x1 xl
        have j0 := celN HR2.out.p 0 _ rfl
        have j1 := celN HR2.out.p 1 _ rfl
        have j2 := celN HR2.out.p 2 _ rfl
        have j3 := celN HR2.out.p 3 _ rfl
        have j4 := celN HR2.out.p 4 _ rfl
        have j5 := celN HR2.out.p 5 _ rfl
        have jl := HR2.out.lp
        go_wp2_with fail
        refine Calls.mono (HPK.out _ HR2.out.aft) ?_
        rintro e u3 ⟨rfl, hu⟩
        have HR3 : Hid (R3 w u3 b0 b1 b2 s ⟨.slice ahs s.hs.length khs, .slice ags s.gs.length kgs, .slice afs s.fs.length kfs, .slice acs s.cs.length kcs, qhs, qgs⟩ r p) := HR2.out.step hu
        clear hu
        clear j0 j1 j2 j3 j4 j5 jl
        have k0 := celN HR3.out.r 0 _ rfl
        have k1 := celN HR3.out.r 1 _ rfl
        have k2 := celN HR3.out.r 2 _ rfl
        have k3 := celN HR3.out.r 3 _ rfl
        have k4 := celN HR3.out.r 4 _ rfl
        have k5 := celN HR3.out.r 5 _ rfl
        have k6 := celN HR3.out.r 6 _ rfl
        have kl := HR3.out.lr
        have j0 := celN HR3.out.p 0 _ rfl
        have j1 := celN HR3.out.p 1 _ rfl
        have j2 := celN HR3.out.p 2 _ rfl
        have j3 := celN HR3.out.p 3 _ rfl
        have j4 := celN HR3.out.p 4 _ rfl
        have j5 := celN HR3.out.p 5 _ rfl
        have jl := HR3.out.lp
        have x0 := HR3.out.x.c0
        have x1 := HR3.out.x.c1
        have x2 := HR3.out.x.c2
        have x3 := HR3.out.x.c3
        have x4 := HR3.out.x.c4
        have x5 := HR3.out.x.c5
        have x6 := HR3.out.x.c6
        have x7 := HR3.out.x.c7
        have xl := HR3.out.x.lt
        simp only at x0 x1 x2 x6
        go_wp2_with fail
        refine Calls.mono (HRL.out _ HR3.out.aft) ?_
        rintro e u4 ⟨rfl, hu⟩
        have HR4 : Hid (R3 w u4 b0 b1 b2 s ⟨.slice ahs s.hs.length khs, .slice ags s.gs.length kgs, .slice afs s.fs.length kfs, .slice acs s.cs.length kcs, qhs, qgs⟩ r p) := HR3.out.step hu
        clear hu
        clear k0 k1 k2 k3 k4 k5 k6 kl j0 j1 j2 j3 j4 j5 jl x0 x1 x2 x3 x4 x5 x6 x7 xl
        go_wp2
        go_ret
        exact ⟨ret_bool (by rw [E.out]; simp), HR4.out.bel⟩
theorem pS_eq (p : PK) : pkB p = pS p := by
  rw [Bool.eq_iff_iff]
  unfold pkB pS flB
  generalize prB p.proto = a
  generalize isW p.src = b
  generalize isW p.dst = c
  generalize poB p.sp = d
  generalize poB p.dp = e
  by_cases h : p.proto = 6
  · cases a <;> cases b <;> cases c <;> cases d <;> cases e <;> simp [h] <;> omega
  · cases a <;> cases b <;> cases c <;> cases d <;> cases e <;> simp [h] <;> omega
theorem rt_eq {s : FI} {r : NR} {p : PK} {inn : Bool} (hr : ruB s.gs.length r = true) (hp : pkB p = true) : rtB s (bn r) r p inn = lsB s (bn r) r p inn := by
  obtain ⟨b0, b1⟩ := ruB_bits hr
  have hra : isW r.addr = true := by
    unfold ruB at hr
    simp at hr
    exact hr.2.1.1.1.1
  have hrg : -1 ≤ r.group := by
    rw [ru_eq] at hr
    unfold rlB at hr
    simp at hr
    omega
  have hpa : isW p.src = true ∧ isW p.dst = true := by
    unfold pkB at hp
    simp at hp
    exact ⟨hp.1.1.1.2, hp.1.2⟩
  unfold rtB lsB ifB haB
  have hX : isW (if inn = true then p.src else p.dst) = true := by
    cases inn
    · exact hpa.2
    · exact hpa.1
  generalize (if inn = true then p.src else p.dst) = X at *
  have hz : r.bits = 0 → X / 2 ^ (bn r) = r.addr / 2 ^ (bn r) := by
    intro e
    have : bn r = 32 := by unfold bn; omega
    rw [this]
    unfold isW at hX hra
    simp at hX hra
    omega
  generalize X / 2 ^ (bn r) = x at *
  generalize r.addr / 2 ^ (bn r) = y at *
  generalize igB s X r.group = G
  rw [Bool.eq_iff_iff]
  simp
  by_cases e : r.bits = 0
  · have := hz e
    cases r.inn <;> cases inn <;> cases G <;> simp [e, this] <;> omega
  · cases r.inn <;> cases inn <;> cases G <;> simp <;> omega
theorem ri_eq (s : FI) (r : NR) (p : PK) (inn : Bool) : riB s r p inn = rsB s r p inn := by
  unfold riB rsB
  have hv : (ssV s == 0) = ssB s := by
    unfold ssV
    cases ssB s <;> rfl
  rw [hv, fr_eq, ← ru_eq, ← pS_eq]
  cases h1 : ssB s
  · rfl
  · cases h2 : ruB s.gs.length r
    · rfl
    · cases h3 : pkB p
      · rfl
      · rw [rt_eq h2 h3]

structure L3 (w u : World) (b0 b1 b2 : Nat) (C : Array Value) (r : NR) (p : PK) : Prop where
  f : LG w u b0 C 27
  r : LG w u b1 #[.bool r.inn, .int .i64 r.proto, .int .i64 r.addr, .int .i64 r.bits, .int .i64 r.low, .int .i64 r.high, .int .i64 r.group] 40
  p : LG w u b2 #[.int .i64 p.proto, .int .i64 p.src, .int .i64 p.sp, .int .i64 p.dst, .int .i64 p.dp, .int .i64 p.flags] 42
theorem L3.step {w u u' : World} {b0 b1 b2 : Nat} {C : Array Value} {r : NR} {p : PK} (h : L3 w u b0 b1 b2 C r p) (hb : Below u.heap.size u u') : L3 w u' b0 b1 b2 C r p := ⟨h.f.step hb, h.r.step hb, h.p.step hb⟩
theorem L3.drew {w u : World} {b0 b1 b2 : Nat} {C : Array Value} {r : NR} {p : PK} (h : L3 w u b0 b1 b2 C r p) : L3 w u.drew b0 b1 b2 C r p := ⟨h.f.drew, h.r.drew, h.p.drew⟩
theorem L3.new (w : World) (C : Array Value) (r : NR) (p : PK) : L3 w (((w.alloc (.cells C 27)).alloc (.cells #[.bool r.inn, .int .i64 r.proto, .int .i64 r.addr, .int .i64 r.bits, .int .i64 r.low, .int .i64 r.high, .int .i64 r.group] 40)).alloc (.cells #[.int .i64 p.proto, .int .i64 p.src, .int .i64 p.sp, .int .i64 p.dst, .int .i64 p.dp, .int .i64 p.flags] 42)) w.heap.size (w.heap.size + 1) (w.heap.size + 1 + 1) C r p := by
  have e1 : (w.alloc (.cells C 27)).heap.size = w.heap.size + 1 := by simp
  have e2 : ((w.alloc (.cells C 27)).alloc (.cells #[.bool r.inn, .int .i64 r.proto, .int .i64 r.addr, .int .i64 r.bits, .int .i64 r.low, .int .i64 r.high, .int .i64 r.group] 40)).heap.size = w.heap.size + 1 + 1 := by simp
  have f1 := LG.new w C 27
  have f2 := f1.step (bx1 _ (.cells #[.bool r.inn, .int .i64 r.proto, .int .i64 r.addr, .int .i64 r.bits, .int .i64 r.low, .int .i64 r.high, .int .i64 r.group] 40))
  have f3 := f2.step (bx1 _ (.cells #[.int .i64 p.proto, .int .i64 p.src, .int .i64 p.sp, .int .i64 p.dst, .int .i64 p.dp, .int .i64 p.flags] 42))
  have g := heap_new (w.alloc (.cells C 27)) (.cells #[.bool r.inn, .int .i64 r.proto, .int .i64 r.addr, .int .i64 r.bits, .int .i64 r.low, .int .i64 r.high, .int .i64 r.group] 40)
  rw [e1] at g
  have g2 : LG w _ (w.heap.size + 1) #[.bool r.inn, .int .i64 r.proto, .int .i64 r.addr, .int .i64 r.bits, .int .i64 r.low, .int .i64 r.high, .int .i64 r.group] 40 := ⟨f2.bel, g, by omega⟩
  have k := heap_new ((w.alloc (.cells C 27)).alloc (.cells #[.bool r.inn, .int .i64 r.proto, .int .i64 r.addr, .int .i64 r.bits, .int .i64 r.low, .int .i64 r.high, .int .i64 r.group] 40)) (.cells #[.int .i64 p.proto, .int .i64 p.src, .int .i64 p.sp, .int .i64 p.dst, .int .i64 p.dp, .int .i64 p.flags] 42)
  rw [e2] at k
  exact ⟨f3, g2.step (bx1 _ _), ⟨f3.bel, k, by omega⟩⟩

set_option maxRecDepth 100000 in
set_option maxHeartbeats 4000000 in
theorem toPK_any (p : PK) (w : World) : Calls Try.prog 12 #[pkA p] w fun e w' => e = .returned (pkA p) ∧ Below w.heap.size w w' := by
  unfold pkA pkC
  go_enter Try.func12, Try.ntmps12
  go_wp2
  refine bodyPost_ret (v := pkA p) (by simp [results, Try.results12, go_sem, pkA, pkC]) rfl ⟨rfl, ?_⟩
  exact (((Below.refl _ _).alloc (Nat.le_refl _) _).alloc (by simp) _).alloc (by simp; omega) _

set_option maxRecDepth 100000 in
set_option maxHeartbeats 8000000 in
theorem walkRL {w : World} {s : FI} {a : FA} (h : FIRows w s a) (hm : FImax s) (r : NR) (p : PK) (inn : Bool) : Calls Try.prog 4 #[flA s a, nrA r, pkA p, .bool inn] w fun e w' => e = .returned (.bool true) ∧ Below w.heap.size w w' := by
  have HR : Hid (FIRows w s a) := h
  have HSZ : Hid (∀ u, Aft w u → Calls Try.prog 5 #[flA s a, .int .i64 1048576] u fun e w' => ∃ q, e = .returned (.int .i64 q) ∧ -1 ≤ q ∧ q ≤ 1048576 ∧ (0 ≤ q → FIlen s) ∧ Below u.heap.size u w') := fun u hu => szFI_w (HR.out.below hu.out) hm
  have HTO0 : Hid (FIlen s → ∀ u, Aft w u → Calls Try.prog 7 #[flA s a] u fun e w' => ∃ a2 : FA, e = .returned (flA s a2) ∧ FIRows w' s a2 ∧ Below u.heap.size u w') := fun hl u hu => toFI_any (HR.out.below hu.out) hl
  have HTR : Hid (∀ u, Calls Try.prog 11 #[.agg #[.bool r.inn, .int .i64 r.proto, .int .i64 r.addr, .int .i64 r.bits, .int .i64 r.low, .int .i64 r.high, .int .i64 r.group]] u fun e w' => e = .returned (.agg #[.bool r.inn, .int .i64 r.proto, .int .i64 r.addr, .int .i64 r.bits, .int .i64 r.low, .int .i64 r.high, .int .i64 r.group]) ∧ Below u.heap.size u w') := fun u => toNR_any r u
  have HTP : Hid (∀ u, Calls Try.prog 12 #[.agg #[.int .i64 p.proto, .int .i64 p.src, .int .i64 p.sp, .int .i64 p.dst, .int .i64 p.dp, .int .i64 p.flags]] u fun e w' => e = .returned (.agg #[.int .i64 p.proto, .int .i64 p.src, .int .i64 p.sp, .int .i64 p.dst, .int .i64 p.dp, .int .i64 p.flags]) ∧ Below u.heap.size u w') := fun u => toPK_any p u
  obtain ⟨ahs, khs, ags, kgs, afs, kfs, acs, kcs, e⟩ := h.sl
  generalize a.qhs = qh at e
  generalize a.qgs = qg at e
  subst e
  have HL0 : Hid (L3 w (((w.alloc (.cells #[.slice ahs s.hs.length khs, .slice ags s.gs.length kgs, .slice afs s.fs.length kfs, .int .i64 s.pub, .int .i64 s.fst, .int .i64 s.lst, .slice acs s.cs.length kcs, .int .i64 s.time] 27)).alloc (.cells #[.bool r.inn, .int .i64 r.proto, .int .i64 r.addr, .int .i64 r.bits, .int .i64 r.low, .int .i64 r.high, .int .i64 r.group] 40)).alloc (.cells #[.int .i64 p.proto, .int .i64 p.src, .int .i64 p.sp, .int .i64 p.dst, .int .i64 p.dp, .int .i64 p.flags] 42)) w.heap.size (w.heap.size + 1) (w.heap.size + 1 + 1) #[.slice ahs s.hs.length khs, .slice ags s.gs.length kgs, .slice afs s.fs.length kfs, .int .i64 s.pub, .int .i64 s.fst, .int .i64 s.lst, .slice acs s.cs.length kcs, .int .i64 s.time] r p) := L3.new w _ r p
  clear h hm
  unfold flA flC at HSZ HTO0
  unfold flA flC nrA pkA pkC
  simp only at HSZ HTO0 ⊢
  go_enter Try.func4, Try.ntmps4
  go_wp2_with fail
  generalize (((w.alloc (.cells #[.slice ahs s.hs.length khs, .slice ags s.gs.length kgs, .slice afs s.fs.length kfs, .int .i64 s.pub, .int .i64 s.fst, .int .i64 s.lst, .slice acs s.cs.length kcs, .int .i64 s.time] 27)).alloc (.cells #[.bool r.inn, .int .i64 r.proto, .int .i64 r.addr, .int .i64 r.bits, .int .i64 r.low, .int .i64 r.high, .int .i64 r.group] 40)).alloc (.cells #[.int .i64 p.proto, .int .i64 p.src, .int .i64 p.sp, .int .i64 p.dst, .int .i64 p.dp, .int .i64 p.flags] 42)) = u0 at *
  generalize w.heap.size + 1 + 1 = b2 at *
  generalize w.heap.size + 1 = b1 at *
  generalize w.heap.size = b0 at *
  refine Calls.mono (HSZ.out _ HL0.out.f.aft) ?_
  rintro e u1 ⟨q, rfl, q0, _, hq, hu⟩
  have HL1 : Hid (L3 w u1 b0 b1 b2 #[.slice ahs s.hs.length khs, .slice ags s.gs.length kgs, .slice afs s.fs.length kfs, .int .i64 s.pub, .int .i64 s.fst, .int .i64 s.lst, .slice acs s.cs.length kcs, .int .i64 s.time] r p) := HL0.out.step hu
  have HQ : Hid (0 ≤ q → FIlen s) := hq
  clear hu hq HL0 HSZ
  cases h3 : decide (q < 0)
  · have hl : FIlen s := HQ.out (by have := of_decide_eq_false h3; omega)
    have HTO : Hid (∀ u, Aft w u → Calls Try.prog 7 #[.agg #[.slice ahs s.hs.length khs, .slice ags s.gs.length kgs, .slice afs s.fs.length kfs, .int .i64 s.pub, .int .i64 s.fst, .int .i64 s.lst, .slice acs s.cs.length kcs, .int .i64 s.time]] u fun e w' => ∃ ahsx khsx agsx kgsx afsx kfsx acsx kcsx qhx qgx, e = .returned (.agg #[.slice ahsx s.hs.length khsx, .slice agsx s.gs.length kgsx, .slice afsx s.fs.length kfsx, .int .i64 s.pub, .int .i64 s.fst, .int .i64 s.lst, .slice acsx s.cs.length kcsx, .int .i64 s.time]) ∧ FIRows w' s ⟨.slice ahsx s.hs.length khsx, .slice agsx s.gs.length kgsx, .slice afsx s.fs.length kfsx, .slice acsx s.cs.length kcsx, qhx, qgx⟩ ∧ Below u.heap.size u w') := (fun u hu => (HTO0.out hl u hu).mono (by rintro e w' ⟨a2, rfl, hx, hb⟩; obtain ⟨ahsx, khsx, agsx, kgsx, afsx, kfsx, acsx, kcsx, ee⟩ := hx.sl; rw [ee] at hx ⊢; exact ⟨ahsx, khsx, agsx, kgsx, afsx, kfsx, acsx, kcsx, _, _, rfl, hx, hb⟩))
    have HSP : Hid (∀ u ahsx khsx agsx kgsx afsx kfsx acsx kcsx qhx qgx, FIRows u s ⟨.slice ahsx s.hs.length khsx, .slice agsx s.gs.length kgsx, .slice afsx s.fs.length kfsx, .slice acsx s.cs.length kcsx, qhx, qgx⟩ → Calls Try.prog 10 #[.agg #[.slice ahsx s.hs.length khsx, .slice agsx s.gs.length kgsx, .slice afsx s.fs.length kfsx, .int .i64 s.pub, .int .i64 s.fst, .int .i64 s.lst, .slice acsx s.cs.length kcsx, .int .i64 s.time], .agg #[.bool r.inn, .int .i64 r.proto, .int .i64 r.addr, .int .i64 r.bits, .int .i64 r.low, .int .i64 r.high, .int .i64 r.group], .agg #[.int .i64 p.proto, .int .i64 p.src, .int .i64 p.sp, .int .i64 p.dst, .int .i64 p.dp, .int .i64 p.flags], .bool inn] u fun e w' => e = .returned (.bool (rsB s r p inn)) ∧ Below u.heap.size u w') := (fun u ahsx khsx agsx kgsx afsx kfsx acsx kcsx qhx qgx hx => by have h9 := specRL_any hx hl r p inn; unfold flA flC nrA pkA pkC at h9; simp only at h9; exact h9)
    have HIM : Hid (∀ u ahsx khsx agsx kgsx afsx kfsx acsx kcsx qhx qgx, FIRows u s ⟨.slice ahsx s.hs.length khsx, .slice agsx s.gs.length kgsx, .slice afsx s.fs.length kfsx, .slice acsx s.cs.length kcsx, qhx, qgx⟩ → Calls Try.prog 13 #[.agg #[.slice ahsx s.hs.length khsx, .slice agsx s.gs.length kgsx, .slice afsx s.fs.length kfsx, .int .i64 s.pub, .int .i64 s.fst, .int .i64 s.lst, .slice acsx s.cs.length kcsx, .int .i64 s.time], .agg #[.bool r.inn, .int .i64 r.proto, .int .i64 r.addr, .int .i64 r.bits, .int .i64 r.low, .int .i64 r.high, .int .i64 r.group], .agg #[.int .i64 p.proto, .int .i64 p.src, .int .i64 p.sp, .int .i64 p.dst, .int .i64 p.dp, .int .i64 p.flags], .bool inn] u fun e w' => e = .returned (.bool (rsB s r p inn)) ∧ Below u.heap.size u w') := (fun u ahsx khsx agsx kgsx afsx kfsx acsx kcsx qhx qgx hx => by have h9 := implRL_any hx hl r p inn; rw [ri_eq] at h9; unfold flA flC nrA pkA pkC at h9; simp only at h9; exact h9)
    have HEQ : Hid (∀ u ahsx khsx agsx kgsx afsx kfsx acsx kcsx qhx qgx ahsy khsy agsy kgsy afsy kfsy acsy kcsy qhy qgy, FIRows u s ⟨.slice ahsx s.hs.length khsx, .slice agsx s.gs.length kgsx, .slice afsx s.fs.length kfsx, .slice acsx s.cs.length kcsx, qhx, qgx⟩ → FIRows u s ⟨.slice ahsy s.hs.length khsy, .slice agsy s.gs.length kgsy, .slice afsy s.fs.length kfsy, .slice acsy s.cs.length kcsy, qhy, qgy⟩ → Calls Try.prog 9 #[.agg #[.slice ahsx s.hs.length khsx, .slice agsx s.gs.length kgsx, .slice afsx s.fs.length kfsx, .int .i64 s.pub, .int .i64 s.fst, .int .i64 s.lst, .slice acsx s.cs.length kcsx, .int .i64 s.time], .agg #[.slice ahsy s.hs.length khsy, .slice agsy s.gs.length kgsy, .slice afsy s.fs.length kfsy, .int .i64 s.pub, .int .i64 s.fst, .int .i64 s.lst, .slice acsy s.cs.length kcsy, .int .i64 s.time]] u fun e w' => e = .returned (.bool true) ∧ Below u.heap.size u w') := (fun u ahsx khsx agsx kgsx afsx kfsx acsx kcsx qhx qgx ahsy khsy agsy kgsy afsy kfsy acsy kcsy qhy qgy hx hy => by have h9 := eqFI_ok hx hy hl; unfold flA flC at h9; simp only at h9; exact h9)
    generalize rsB s r p inn = V at HSP HIM
    have hV : (V != V) = false := by simp
    clear HQ hl HTO0 HR
    go_upto_region 5 with fail
    refine wp_region_held (S := fun w9 => L3 w w9 b0 b1 b2 #[.slice ahs s.hs.length khs, .slice ags s.gs.length kgs, .slice afs s.fs.length kfs, .int .i64 s.pub, .int .i64 s.fst, .int .i64 s.lst, .slice acs s.cs.length kcs, .int .i64 s.time] r p) (by kernel_rfl) ?_
    change wpAnyH _ _ _ _ _ _ _ _ (World.drew _)
    have HS0 : Hid (L3 w u1.drew b0 b1 b2 #[.slice ahs s.hs.length khs, .slice ags s.gs.length kgs, .slice afs s.fs.length kfs, .int .i64 s.pub, .int .i64 s.fst, .int .i64 s.lst, .slice acs s.cs.length kcs, .int .i64 s.time] r p) := HL1.out.drew
    generalize u1.drew = v0 at *
    clear HL1
    refine wpAnyH_take (i := 0) (v := .agg #[.slice ahs s.hs.length khs, .slice ags s.gs.length kgs, .slice afs s.fs.length kfs, .int .i64 s.pub, .int .i64 s.fst, .int .i64 s.lst, .slice acs s.cs.length kcs, .int .i64 s.time]) rfl (by kernel_rfl) (by kernel_rfl) (by kernel_rfl) (fun _ _ _ h => h) (Or.inl ⟨by kernel_rfl, fun w9 h9 => ?_⟩) HS0.out ?_
    · have y0 := h9.f.cel 0 _ rfl; have y1 := h9.f.cel 1 _ rfl; have y2 := h9.f.cel 2 _ rfl; have y3 := h9.f.cel 3 _ rfl; have y4 := h9.f.cel 4 _ rfl; have y5 := h9.f.cel 5 _ rfl; have y6 := h9.f.cel 6 _ rfl; have y7 := h9.f.cel 7 _ rfl; have yl := h9.f.lt; clear h9; go_simp
    refine wpAnyH_take (i := 2) (v := .agg #[.bool r.inn, .int .i64 r.proto, .int .i64 r.addr, .int .i64 r.bits, .int .i64 r.low, .int .i64 r.high, .int .i64 r.group]) rfl (by kernel_rfl) (by kernel_rfl) (by kernel_rfl) (fun _ _ _ h => h) (Or.inl ⟨by kernel_rfl, fun w9 h9 => ?_⟩) HS0.out ?_
    · have y0 := h9.r.cel 0 _ rfl; have y1 := h9.r.cel 1 _ rfl; have y2 := h9.r.cel 2 _ rfl; have y3 := h9.r.cel 3 _ rfl; have y4 := h9.r.cel 4 _ rfl; have y5 := h9.r.cel 5 _ rfl; have y6 := h9.r.cel 6 _ rfl; have yl := h9.r.lt; clear h9; go_simp
    refine wpAnyH_take (i := 4) (v := .agg #[.int .i64 p.proto, .int .i64 p.src, .int .i64 p.sp, .int .i64 p.dst, .int .i64 p.dp, .int .i64 p.flags]) rfl (by kernel_rfl) (by kernel_rfl) (by kernel_rfl) (fun _ _ _ h => h) (Or.inl ⟨by kernel_rfl, fun w9 h9 => ?_⟩) HS0.out ?_
    · have y0 := h9.p.cel 0 _ rfl; have y1 := h9.p.cel 1 _ rfl; have y2 := h9.p.cel 2 _ rfl; have y3 := h9.p.cel 3 _ rfl; have y4 := h9.p.cel 4 _ rfl; have y5 := h9.p.cel 5 _ rfl; have yl := h9.p.lt; clear h9; go_simp
    refine wpAnyH_take (i := 6) (v := .bool inn) rfl (by kernel_rfl) (by kernel_rfl) (by kernel_rfl) (fun _ _ _ h => h) (Or.inl ⟨by kernel_rfl, fun w9 h9 => ?_⟩) HS0.out ?_
    · clear h9; go_simp
    refine held_one 1 (by kernel_rfl) rfl (by kernel_rfl) fun K hK => ?_
    go_simp
    go_wp2_with fail
    refine Calls.mono (HTO.out _ HS0.out.f.aft) ?_
    rintro e v1 ⟨ahs2, khs2, ags2, kgs2, afs2, kfs2, acs2, kcs2, qh2, qg2, rfl, hx, hb⟩
    have HX1 : Hid (FIRows v1 s ⟨.slice ahs2 s.hs.length khs2, .slice ags2 s.gs.length kgs2, .slice afs2 s.fs.length kfs2, .slice acs2 s.cs.length kcs2, qh2, qg2⟩) := hx
    have HS1 : Hid (L3 w v1 b0 b1 b2 #[.slice ahs s.hs.length khs, .slice ags s.gs.length kgs, .slice afs s.fs.length kfs, .int .i64 s.pub, .int .i64 s.fst, .int .i64 s.lst, .slice acs s.cs.length kcs, .int .i64 s.time] r p) := HS0.out.step hb
    clear hb hx HS0
    refine hK _ _ HS1.out ?_
    clear hK K
    refine held_one 3 (by kernel_rfl) rfl (by kernel_rfl) fun K hK => ?_
    go_simp
    go_wp2_with fail
    refine Calls.mono (HTR.out _) ?_
    rintro e v2 ⟨rfl, hb⟩
    have HX2 : Hid (FIRows v2 s ⟨.slice ahs2 s.hs.length khs2, .slice ags2 s.gs.length kgs2, .slice afs2 s.fs.length kfs2, .slice acs2 s.cs.length kcs2, qh2, qg2⟩) := HX1.out.below hb
    have HS2 : Hid (L3 w v2 b0 b1 b2 #[.slice ahs s.hs.length khs, .slice ags s.gs.length kgs, .slice afs s.fs.length kfs, .int .i64 s.pub, .int .i64 s.fst, .int .i64 s.lst, .slice acs s.cs.length kcs, .int .i64 s.time] r p) := HS1.out.step hb
    clear hb HS1 HX1
    refine hK _ _ HS2.out ?_
    clear hK K
    refine held_one 5 (by kernel_rfl) rfl (by kernel_rfl) fun K hK => ?_
    go_simp
    go_wp2_with fail
    refine Calls.mono (HTP.out _) ?_
    rintro e v3 ⟨rfl, hb⟩
    have HX3 : Hid (FIRows v3 s ⟨.slice ahs2 s.hs.length khs2, .slice ags2 s.gs.length kgs2, .slice afs2 s.fs.length kfs2, .slice acs2 s.cs.length kcs2, qh2, qg2⟩) := HX2.out.below hb
    have HS3 : Hid (L3 w v3 b0 b1 b2 #[.slice ahs s.hs.length khs, .slice ags s.gs.length kgs, .slice afs s.fs.length kfs, .int .i64 s.pub, .int .i64 s.fst, .int .i64 s.lst, .slice acs s.cs.length kcs, .int .i64 s.time] r p) := HS2.out.step hb
    clear hb HS2 HX2
    refine hK _ _ HS3.out ?_
    clear hK K
    refine held_one 7 (by kernel_rfl) rfl (by kernel_rfl) fun K hK => ?_
    go_simp
    go_wp2_with fail
    refine Calls.mono (HSP.out _ _ _ _ _ _ _ _ _ _ _ HX3.out) ?_
    rintro e v4 ⟨rfl, hb⟩
    have HS4 : Hid (L3 w v4 b0 b1 b2 #[.slice ahs s.hs.length khs, .slice ags s.gs.length kgs, .slice afs s.fs.length kfs, .int .i64 s.pub, .int .i64 s.fst, .int .i64 s.lst, .slice acs s.cs.length kcs, .int .i64 s.time] r p) := HS3.out.step hb
    clear hb HS3 HX3
    refine hK _ _ HS4.out ?_
    clear hK K
    refine wpAnyH_take (i := 8) (v := .bool V) rfl (by kernel_rfl) (by kernel_rfl) (by kernel_rfl) (fun _ _ _ h => h) (Or.inl ⟨by kernel_rfl, fun w9 h9 => ?_⟩) HS4.out ?_
    · clear h9; go_simp
    refine wpAnyH_done (by kernel_rfl) ?_ _
    go_simp
    have r0 := HS4.out.f.cel 0 _ rfl
    have r1 := HS4.out.f.cel 1 _ rfl
    have r2 := HS4.out.f.cel 2 _ rfl
    have r3 := HS4.out.f.cel 3 _ rfl
    have r4 := HS4.out.f.cel 4 _ rfl
    have r5 := HS4.out.f.cel 5 _ rfl
    have r6 := HS4.out.f.cel 6 _ rfl
    have r7 := HS4.out.f.cel 7 _ rfl
    have rl := HS4.out.f.lt
    go_wp2_with fail
    refine Calls.mono (HTO.out _ HS4.out.f.aft) ?_
    rintro e u4 ⟨ahs4, khs4, ags4, kgs4, afs4, kfs4, acs4, kcs4, qh4, qg4, rfl, hx4, hb⟩
    have HL4 : Hid (L3 w u4 b0 b1 b2 #[.slice ahs s.hs.length khs, .slice ags s.gs.length kgs, .slice afs s.fs.length kfs, .int .i64 s.pub, .int .i64 s.fst, .int .i64 s.lst, .slice acs s.cs.length kcs, .int .i64 s.time] r p) := HS4.out.step hb
    have HX4 : Hid (FIRows u4 s ⟨.slice ahs4 s.hs.length khs4, .slice ags4 s.gs.length kgs4, .slice afs4 s.fs.length kfs4, .slice acs4 s.cs.length kcs4, qh4, qg4⟩) := hx4
    clear hx4 hb HS4 r0 r1 r2 r3 r4 r5 r6 r7 rl
    have HX5 : Hid (FIRows (u4.alloc (.cells #[.slice ahs4 s.hs.length khs4, .slice ags4 s.gs.length kgs4, .slice afs4 s.fs.length kfs4, .int .i64 s.pub, .int .i64 s.fst, .int .i64 s.lst, .slice acs4 s.cs.length kcs4, .int .i64 s.time] 35)) s ⟨.slice ahs4 s.hs.length khs4, .slice ags4 s.gs.length kgs4, .slice afs4 s.fs.length kfs4, .slice acs4 s.cs.length kcs4, qh4, qg4⟩) := HX4.out.below (bx1 _ _)
    have HL5 : Hid (L3 w (u4.alloc (.cells #[.slice ahs4 s.hs.length khs4, .slice ags4 s.gs.length kgs4, .slice afs4 s.fs.length kfs4, .int .i64 s.pub, .int .i64 s.fst, .int .i64 s.lst, .slice acs4 s.cs.length kcs4, .int .i64 s.time] 35)) b0 b1 b2 #[.slice ahs s.hs.length khs, .slice ags s.gs.length kgs, .slice afs s.fs.length kfs, .int .i64 s.pub, .int .i64 s.fst, .int .i64 s.lst, .slice acs s.cs.length kcs, .int .i64 s.time] r p) := HL4.out.step (bx1 _ _)
    have HW5 : Hid (LG w (u4.alloc (.cells #[.slice ahs4 s.hs.length khs4, .slice ags4 s.gs.length kgs4, .slice afs4 s.fs.length kfs4, .int .i64 s.pub, .int .i64 s.fst, .int .i64 s.lst, .slice acs4 s.cs.length kcs4, .int .i64 s.time] 35)) u4.heap.size #[.slice ahs4 s.hs.length khs4, .slice ags4 s.gs.length kgs4, .slice afs4 s.fs.length kfs4, .int .i64 s.pub, .int .i64 s.fst, .int .i64 s.lst, .slice acs4 s.cs.length kcs4, .int .i64 s.time] 35) := ⟨HL5.out.f.bel, heap_new _ _, HL4.out.f.bel.size⟩
    clear HX4 HL4
    go_upto_region 7 with fail
    generalize (u4.alloc (.cells #[.slice ahs4 s.hs.length khs4, .slice ags4 s.gs.length kgs4, .slice afs4 s.fs.length kfs4, .int .i64 s.pub, .int .i64 s.fst, .int .i64 s.lst, .slice acs4 s.cs.length kcs4, .int .i64 s.time] 35)) = u5 at *
    generalize u4.heap.size = b5 at *
    refine wp_region_held (S := fun w9 => L3 w w9 b0 b1 b2 #[.slice ahs s.hs.length khs, .slice ags s.gs.length kgs, .slice afs s.fs.length kfs, .int .i64 s.pub, .int .i64 s.fst, .int .i64 s.lst, .slice acs s.cs.length kcs, .int .i64 s.time] r p ∧ LG w w9 b5 #[.slice ahs4 s.hs.length khs4, .slice ags4 s.gs.length kgs4, .slice afs4 s.fs.length kfs4, .int .i64 s.pub, .int .i64 s.fst, .int .i64 s.lst, .slice acs4 s.cs.length kcs4, .int .i64 s.time] 35) (by kernel_rfl) ?_
    change wpAnyH _ _ _ _ _ _ _ _ (World.drew _)
    have HS0 : Hid (L3 w u5.drew b0 b1 b2 #[.slice ahs s.hs.length khs, .slice ags s.gs.length kgs, .slice afs s.fs.length kfs, .int .i64 s.pub, .int .i64 s.fst, .int .i64 s.lst, .slice acs s.cs.length kcs, .int .i64 s.time] r p ∧ LG w u5.drew b5 #[.slice ahs4 s.hs.length khs4, .slice ags4 s.gs.length kgs4, .slice afs4 s.fs.length kfs4, .int .i64 s.pub, .int .i64 s.fst, .int .i64 s.lst, .slice acs4 s.cs.length kcs4, .int .i64 s.time] 35) := ⟨HL5.out.drew, HW5.out.drew⟩
    have HX0 : Hid (FIRows u5.drew s ⟨.slice ahs4 s.hs.length khs4, .slice ags4 s.gs.length kgs4, .slice afs4 s.fs.length kfs4, .slice acs4 s.cs.length kcs4, qh4, qg4⟩) := HX5.out.below (Below.refl _ _).drew
    generalize u5.drew = v0 at *
    clear HX5 HL5 HW5
    refine wpAnyH_take (i := 0) (v := .agg #[.slice ahs4 s.hs.length khs4, .slice ags4 s.gs.length kgs4, .slice afs4 s.fs.length kfs4, .int .i64 s.pub, .int .i64 s.fst, .int .i64 s.lst, .slice acs4 s.cs.length kcs4, .int .i64 s.time]) rfl (by kernel_rfl) (by kernel_rfl) (by kernel_rfl) (fun _ _ _ h => h) (Or.inl ⟨by kernel_rfl, fun w9 h9 => ?_⟩) HS0.out ?_
    · have y0 := h9.2.cel 0 _ rfl; have y1 := h9.2.cel 1 _ rfl; have y2 := h9.2.cel 2 _ rfl; have y3 := h9.2.cel 3 _ rfl; have y4 := h9.2.cel 4 _ rfl; have y5 := h9.2.cel 5 _ rfl; have y6 := h9.2.cel 6 _ rfl; have y7 := h9.2.cel 7 _ rfl; have yl := h9.2.lt; clear h9; go_simp
    refine wpAnyH_take (i := 1) (v := .agg #[.bool r.inn, .int .i64 r.proto, .int .i64 r.addr, .int .i64 r.bits, .int .i64 r.low, .int .i64 r.high, .int .i64 r.group]) rfl (by kernel_rfl) (by kernel_rfl) (by kernel_rfl) (fun _ _ _ h => h) (Or.inl ⟨by kernel_rfl, fun w9 h9 => ?_⟩) HS0.out ?_
    · have y0 := h9.1.r.cel 0 _ rfl; have y1 := h9.1.r.cel 1 _ rfl; have y2 := h9.1.r.cel 2 _ rfl; have y3 := h9.1.r.cel 3 _ rfl; have y4 := h9.1.r.cel 4 _ rfl; have y5 := h9.1.r.cel 5 _ rfl; have y6 := h9.1.r.cel 6 _ rfl; have yl := h9.1.r.lt; clear h9; go_simp
    refine wpAnyH_take (i := 3) (v := .agg #[.int .i64 p.proto, .int .i64 p.src, .int .i64 p.sp, .int .i64 p.dst, .int .i64 p.dp, .int .i64 p.flags]) rfl (by kernel_rfl) (by kernel_rfl) (by kernel_rfl) (fun _ _ _ h => h) (Or.inl ⟨by kernel_rfl, fun w9 h9 => ?_⟩) HS0.out ?_
    · have y0 := h9.1.p.cel 0 _ rfl; have y1 := h9.1.p.cel 1 _ rfl; have y2 := h9.1.p.cel 2 _ rfl; have y3 := h9.1.p.cel 3 _ rfl; have y4 := h9.1.p.cel 4 _ rfl; have y5 := h9.1.p.cel 5 _ rfl; have yl := h9.1.p.lt; clear h9; go_simp
    refine wpAnyH_take (i := 5) (v := .bool inn) rfl (by kernel_rfl) (by kernel_rfl) (by kernel_rfl) (fun _ _ _ h => h) (Or.inl ⟨by kernel_rfl, fun w9 h9 => ?_⟩) HS0.out ?_
    · clear h9; go_simp
    refine held_one 2 (by kernel_rfl) rfl (by kernel_rfl) fun K hK => ?_
    go_simp
    go_wp2_with fail
    refine Calls.mono (HTR.out _) ?_
    rintro e v1 ⟨rfl, hb⟩
    have HX1 : Hid (FIRows v1 s ⟨.slice ahs4 s.hs.length khs4, .slice ags4 s.gs.length kgs4, .slice afs4 s.fs.length kfs4, .slice acs4 s.cs.length kcs4, qh4, qg4⟩) := HX0.out.below hb
    have HS1 : Hid (L3 w v1 b0 b1 b2 #[.slice ahs s.hs.length khs, .slice ags s.gs.length kgs, .slice afs s.fs.length kfs, .int .i64 s.pub, .int .i64 s.fst, .int .i64 s.lst, .slice acs s.cs.length kcs, .int .i64 s.time] r p ∧ LG w v1 b5 #[.slice ahs4 s.hs.length khs4, .slice ags4 s.gs.length kgs4, .slice afs4 s.fs.length kfs4, .int .i64 s.pub, .int .i64 s.fst, .int .i64 s.lst, .slice acs4 s.cs.length kcs4, .int .i64 s.time] 35) := ⟨HS0.out.1.step hb, HS0.out.2.step hb⟩
    clear hb HS0 HX0
    refine hK _ _ HS1.out ?_
    clear hK K
    refine held_one 4 (by kernel_rfl) rfl (by kernel_rfl) fun K hK => ?_
    go_simp
    go_wp2_with fail
    refine Calls.mono (HTP.out _) ?_
    rintro e v2 ⟨rfl, hb⟩
    have HX2 : Hid (FIRows v2 s ⟨.slice ahs4 s.hs.length khs4, .slice ags4 s.gs.length kgs4, .slice afs4 s.fs.length kfs4, .slice acs4 s.cs.length kcs4, qh4, qg4⟩) := HX1.out.below hb
    have HS2 : Hid (L3 w v2 b0 b1 b2 #[.slice ahs s.hs.length khs, .slice ags s.gs.length kgs, .slice afs s.fs.length kfs, .int .i64 s.pub, .int .i64 s.fst, .int .i64 s.lst, .slice acs s.cs.length kcs, .int .i64 s.time] r p ∧ LG w v2 b5 #[.slice ahs4 s.hs.length khs4, .slice ags4 s.gs.length kgs4, .slice afs4 s.fs.length kfs4, .int .i64 s.pub, .int .i64 s.fst, .int .i64 s.lst, .slice acs4 s.cs.length kcs4, .int .i64 s.time] 35) := ⟨HS1.out.1.step hb, HS1.out.2.step hb⟩
    clear hb HS1 HX1
    refine hK _ _ HS2.out ?_
    clear hK K
    refine held_one 6 (by kernel_rfl) rfl (by kernel_rfl) fun K hK => ?_
    go_simp
    go_wp2_with fail
    refine Calls.mono (HIM.out _ _ _ _ _ _ _ _ _ _ _ HX2.out) ?_
    rintro e v3 ⟨rfl, hb⟩
    have HX3 : Hid (FIRows v3 s ⟨.slice ahs4 s.hs.length khs4, .slice ags4 s.gs.length kgs4, .slice afs4 s.fs.length kfs4, .slice acs4 s.cs.length kcs4, qh4, qg4⟩) := HX2.out.below hb
    have HS3 : Hid (L3 w v3 b0 b1 b2 #[.slice ahs s.hs.length khs, .slice ags s.gs.length kgs, .slice afs s.fs.length kfs, .int .i64 s.pub, .int .i64 s.fst, .int .i64 s.lst, .slice acs s.cs.length kcs, .int .i64 s.time] r p ∧ LG w v3 b5 #[.slice ahs4 s.hs.length khs4, .slice ags4 s.gs.length kgs4, .slice afs4 s.fs.length kfs4, .int .i64 s.pub, .int .i64 s.fst, .int .i64 s.lst, .slice acs4 s.cs.length kcs4, .int .i64 s.time] 35) := ⟨HS2.out.1.step hb, HS2.out.2.step hb⟩
    clear hb HS2 HX2
    refine hK _ _ HS3.out ?_
    clear hK K
    refine wpAnyH_take (i := 7) (v := .bool V) rfl (by kernel_rfl) (by kernel_rfl) (by kernel_rfl) (fun _ _ _ h => h) (Or.inl ⟨by kernel_rfl, fun w9 h9 => ?_⟩) HS3.out ?_
    · clear h9; go_simp
    refine wpAnyH_done (by kernel_rfl) ?_ _
    go_simp
    go_upto_region 10 with fail
    refine wp_region_held (S := fun w9 => L3 w w9 b0 b1 b2 #[.slice ahs s.hs.length khs, .slice ags s.gs.length kgs, .slice afs s.fs.length kfs, .int .i64 s.pub, .int .i64 s.fst, .int .i64 s.lst, .slice acs s.cs.length kcs, .int .i64 s.time] r p ∧ LG w w9 b5 #[.slice ahs4 s.hs.length khs4, .slice ags4 s.gs.length kgs4, .slice afs4 s.fs.length kfs4, .int .i64 s.pub, .int .i64 s.fst, .int .i64 s.lst, .slice acs4 s.cs.length kcs4, .int .i64 s.time] 35) (by kernel_rfl) ?_
    change wpAnyH _ _ _ _ _ _ _ _ (World.drew _)
    have HT0 : Hid (L3 w v3.drew b0 b1 b2 #[.slice ahs s.hs.length khs, .slice ags s.gs.length kgs, .slice afs s.fs.length kfs, .int .i64 s.pub, .int .i64 s.fst, .int .i64 s.lst, .slice acs s.cs.length kcs, .int .i64 s.time] r p ∧ LG w v3.drew b5 #[.slice ahs4 s.hs.length khs4, .slice ags4 s.gs.length kgs4, .slice afs4 s.fs.length kfs4, .int .i64 s.pub, .int .i64 s.fst, .int .i64 s.lst, .slice acs4 s.cs.length kcs4, .int .i64 s.time] 35) := ⟨HS3.out.1.drew, HS3.out.2.drew⟩
    have HX7 : Hid (FIRows v3.drew s ⟨.slice ahs4 s.hs.length khs4, .slice ags4 s.gs.length kgs4, .slice afs4 s.fs.length kfs4, .slice acs4 s.cs.length kcs4, qh4, qg4⟩) := HX3.out.below (Below.refl _ _).drew
    generalize v3.drew = u7 at *
    clear HX3 HS3
    refine wpAnyH_take (i := 0) (v := .agg #[.slice ahs4 s.hs.length khs4, .slice ags4 s.gs.length kgs4, .slice afs4 s.fs.length kfs4, .int .i64 s.pub, .int .i64 s.fst, .int .i64 s.lst, .slice acs4 s.cs.length kcs4, .int .i64 s.time]) rfl (by kernel_rfl) (by kernel_rfl) (by kernel_rfl) (fun _ _ _ h => h) (Or.inl ⟨by kernel_rfl, fun w9 h9 => ?_⟩) HT0.out ?_
    · have y0 := h9.2.cel 0 _ rfl; have y1 := h9.2.cel 1 _ rfl; have y2 := h9.2.cel 2 _ rfl; have y3 := h9.2.cel 3 _ rfl; have y4 := h9.2.cel 4 _ rfl; have y5 := h9.2.cel 5 _ rfl; have y6 := h9.2.cel 6 _ rfl; have y7 := h9.2.cel 7 _ rfl; have yl := h9.2.lt; clear h9; go_simp
    refine wpAnyH_take (i := 1) (v := .agg #[.slice ahs s.hs.length khs, .slice ags s.gs.length kgs, .slice afs s.fs.length kfs, .int .i64 s.pub, .int .i64 s.fst, .int .i64 s.lst, .slice acs s.cs.length kcs, .int .i64 s.time]) rfl (by kernel_rfl) (by kernel_rfl) (by kernel_rfl) (fun _ _ _ h => h) (Or.inl ⟨by kernel_rfl, fun w9 h9 => ?_⟩) HT0.out ?_
    · have y0 := h9.1.f.cel 0 _ rfl; have y1 := h9.1.f.cel 1 _ rfl; have y2 := h9.1.f.cel 2 _ rfl; have y3 := h9.1.f.cel 3 _ rfl; have y4 := h9.1.f.cel 4 _ rfl; have y5 := h9.1.f.cel 5 _ rfl; have y6 := h9.1.f.cel 6 _ rfl; have y7 := h9.1.f.cel 7 _ rfl; have yl := h9.1.f.lt; clear h9; go_simp
    refine held_one 2 (by kernel_rfl) rfl (by kernel_rfl) fun K hK => ?_
    go_simp
    go_wp2_with fail
    refine Calls.mono (HTO.out _ HT0.out.1.f.aft) ?_
    rintro e u8 ⟨ahs8, khs8, ags8, kgs8, afs8, kfs8, acs8, kcs8, qh8, qg8, rfl, hx8, hb⟩
    have HX8 : Hid (FIRows u8 s ⟨.slice ahs8 s.hs.length khs8, .slice ags8 s.gs.length kgs8, .slice afs8 s.fs.length kfs8, .slice acs8 s.cs.length kcs8, qh8, qg8⟩) := hx8
    have HX9 : Hid (FIRows u8 s ⟨.slice ahs4 s.hs.length khs4, .slice ags4 s.gs.length kgs4, .slice afs4 s.fs.length kfs4, .slice acs4 s.cs.length kcs4, qh4, qg4⟩) := HX7.out.below hb
    have HT8 : Hid (L3 w u8 b0 b1 b2 #[.slice ahs s.hs.length khs, .slice ags s.gs.length kgs, .slice afs s.fs.length kfs, .int .i64 s.pub, .int .i64 s.fst, .int .i64 s.lst, .slice acs s.cs.length kcs, .int .i64 s.time] r p ∧ LG w u8 b5 #[.slice ahs4 s.hs.length khs4, .slice ags4 s.gs.length kgs4, .slice afs4 s.fs.length kfs4, .int .i64 s.pub, .int .i64 s.fst, .int .i64 s.lst, .slice acs4 s.cs.length kcs4, .int .i64 s.time] 35) := ⟨HT0.out.1.step hb, HT0.out.2.step hb⟩
    clear hb hx8 HT0 HX7
    refine hK _ _ HT8.out ?_
    clear hK K
    refine held_one 3 (by kernel_rfl) rfl (by kernel_rfl) fun K hK => ?_
    go_simp
    go_wp2_with fail
    refine Calls.mono (HEQ.out _ _ _ _ _ _ _ _ _ _ _ _ _ _ _ _ _ _ _ _ _ HX9.out HX8.out) ?_
    rintro e u9 ⟨rfl, hb⟩
    have HT9 : Hid (L3 w u9 b0 b1 b2 #[.slice ahs s.hs.length khs, .slice ags s.gs.length kgs, .slice afs s.fs.length kfs, .int .i64 s.pub, .int .i64 s.fst, .int .i64 s.lst, .slice acs s.cs.length kcs, .int .i64 s.time] r p ∧ LG w u9 b5 #[.slice ahs4 s.hs.length khs4, .slice ags4 s.gs.length kgs4, .slice afs4 s.fs.length kfs4, .int .i64 s.pub, .int .i64 s.fst, .int .i64 s.lst, .slice acs4 s.cs.length kcs4, .int .i64 s.time] 35) := ⟨HT8.out.1.step hb, HT8.out.2.step hb⟩
    clear hb HT8
    refine hK _ _ HT9.out ?_
    clear hK K
    refine wpAnyH_take (i := 4) (v := .bool false) rfl (by kernel_rfl) (by kernel_rfl) (by kernel_rfl) (fun _ _ _ h => h) (Or.inl ⟨by kernel_rfl, fun w9 h9 => ?_⟩) HT9.out ?_
    · clear h9; go_simp
    refine wpAnyH_done (by kernel_rfl) ?_ _
    go_simp
    go_wp2
    go_ret
    exact ⟨rfl, HT9.out.1.f.bel⟩
  · go_wp2
    go_ret
    exact ⟨rfl, HL1.out.f.bel⟩

theorem cNRT : Try.prog.cellsOf 40 = 7 := by kernel_rfl
theorem cPKT : Try.prog.cellsOf 42 = 6 := by kernel_rfl
theorem cIT : Try.prog.cellsOf 2 = 1 := by kernel_rfl
theorem cBT : Try.prog.cellsOf 4 = 1 := by kernel_rfl
theorem arrayRL6 {α : Type} {cs : Array α} (h : cs.size = 6) : ∃ c0 c1 c2 c3 c4 c5, cs = #[c0, c1, c2, c3, c4, c5] := by
  obtain ⟨l⟩ := cs
  match l, h with
  | [c0, c1, c2, c3, c4, c5], _ => exact ⟨c0, c1, c2, c3, c4, c5, rfl⟩
theorem arrayRL7 {α : Type} {cs : Array α} (h : cs.size = 7) : ∃ c0 c1 c2 c3 c4 c5 c6, cs = #[c0, c1, c2, c3, c4, c5, c6] := by
  obtain ⟨l⟩ := cs
  match l, h with
  | [c0, c1, c2, c3, c4, c5, c6], _ => exact ⟨c0, c1, c2, c3, c4, c5, c6, rfl⟩
set_option maxRecDepth 100000 in
theorem open_NR {H : Type} {enc : TypeId × Value → H} {W : World} {base : Nat} {v : Value} {d : DataW H} {q : List MemPlace} (hv : Value.okWide Try.prog W .any base 40 v)
    (h : DataW.Trod enc Try.prog W 0 (fun _ => true) true 40 v d q) : ∃ x : NR, v = nrA x := by
  obtain ⟨cs, rfl, hsz⟩ := okWide_struct Try.underlying40 hv
  obtain ⟨x0, x1, x2, x3, x4, x5, x6, rfl⟩ := arrayRL7 (hsz.trans cNRT)
  obtain ⟨fuel, hf⟩ := h
  obtain ⟨xs, n, _, hx, _, hlen, hel⟩ := DataW.trod_struct Try.underlying40 hf
  match xs, hlen, hel with
  | [y0, y1, y2, y3, y4, y5, y6], _, hel =>
    have g0 := hel 0 _ rfl
    have g1 := hel 1 _ rfl
    have g2 := hel 2 _ rfl
    have g3 := hel 3 _ rfl
    have g4 := hel 4 _ rfl
    have g5 := hel 5 _ rfl
    have g6 := hel 6 _ rfl
    simp only [Value.cells] at g0 g1 g2 g3 g4 g5 g6
    obtain ⟨a0, e0, _⟩ := DataW.trod_bool Try.underlying4 g0
    obtain ⟨a1, e1, _⟩ := DataW.trod_int Try.underlying2 g1
    obtain ⟨a2, e2, _⟩ := DataW.trod_int Try.underlying2 g2
    obtain ⟨a3, e3, _⟩ := DataW.trod_int Try.underlying2 g3
    obtain ⟨a4, e4, _⟩ := DataW.trod_int Try.underlying2 g4
    obtain ⟨a5, e5, _⟩ := DataW.trod_int Try.underlying2 g5
    obtain ⟨a6, e6, _⟩ := DataW.trod_int Try.underlying2 g6
    simp [cIT, cBT] at e0 e1 e2 e3 e4 e5 e6
    subst e0 e1 e2 e3 e4 e5 e6
    exact ⟨⟨a0, a1, a2, a3, a4, a5, a6⟩, rfl⟩
set_option maxRecDepth 100000 in
theorem open_PK {H : Type} {enc : TypeId × Value → H} {W : World} {base : Nat} {v : Value} {d : DataW H} {q : List MemPlace} (hv : Value.okWide Try.prog W .any base 42 v)
    (h : DataW.Trod enc Try.prog W 0 (fun _ => true) true 42 v d q) : ∃ x : PK, v = pkA x := by
  obtain ⟨cs, rfl, hsz⟩ := okWide_struct Try.underlying42 hv
  obtain ⟨x0, x1, x2, x3, x4, x5, rfl⟩ := arrayRL6 (hsz.trans cPKT)
  obtain ⟨fuel, hf⟩ := h
  obtain ⟨xs, n, _, hx, _, hlen, hel⟩ := DataW.trod_struct Try.underlying42 hf
  match xs, hlen, hel with
  | [y0, y1, y2, y3, y4, y5], _, hel =>
    have g0 := hel 0 _ rfl
    have g1 := hel 1 _ rfl
    have g2 := hel 2 _ rfl
    have g3 := hel 3 _ rfl
    have g4 := hel 4 _ rfl
    have g5 := hel 5 _ rfl
    simp only [Value.cells] at g0 g1 g2 g3 g4 g5
    obtain ⟨a0, e0, _⟩ := DataW.trod_int Try.underlying2 g0
    obtain ⟨a1, e1, _⟩ := DataW.trod_int Try.underlying2 g1
    obtain ⟨a2, e2, _⟩ := DataW.trod_int Try.underlying2 g2
    obtain ⟨a3, e3, _⟩ := DataW.trod_int Try.underlying2 g3
    obtain ⟨a4, e4, _⟩ := DataW.trod_int Try.underlying2 g4
    obtain ⟨a5, e5, _⟩ := DataW.trod_int Try.underlying2 g5
    simp [cIT] at e0 e1 e2 e3 e4 e5
    subst e0 e1 e2 e3 e4 e5
    exact ⟨⟨a0, a1, a2, a3, a4, a5⟩, rfl⟩

theorem cNH : Try.prog.cellsOf 81 = 2 := by kernel_rfl
theorem cNHv : Try.prog.cellsOf 79 = 1 := by kernel_rfl
theorem cNHi : Try.prog.cellsOf 2 = 1 := by kernel_rfl
theorem cNHb : Try.prog.cellsOf 4 = 1 := by kernel_rfl
theorem listNH {α : Type} {cs : List α} (h : cs.length = 2) : ∃ x0 x1, cs = [x0, x1] := by
  match cs, h with
  | [x0, x1], _ => exact ⟨x0, x1, rfl⟩
set_option maxRecDepth 100000 in
theorem nh_one {H : Type} {enc : TypeId × Value → H} {W : World} {fuel : Nat} {cs : List Value} {x : DataW H × List MemPlace} (h : DataW.trod enc Try.prog W 0 (fun _ => true) true fuel 81 cs = some x) : ∃ z : NH × HO, cs = nhC z.1 ∧ z.1 = hoQ z.2 z.1.groups ∧ Irow W z.1.groups z.2.gs ∧ z.2.gs.length ≤ maxLen := by
  obtain ⟨xs, m, _, hx, hl, hlen, hel⟩ := DataW.trod_struct Try.underlying81 h
  obtain ⟨x0, x1, rfl⟩ := listNH (hl.trans cNH)
  match xs, hlen, hel, hx with
  | [y0, y1], _, hel, hx =>
    have g0 := hel 0 _ rfl
    have g1 := hel 1 _ rfl
    obtain ⟨a0, e0, _, _⟩ := DataW.trod_int Try.underlying2 g0
    simp [cNHi] at e0
    subst e0
    have kk : DataW.trod enc Try.prog W 0 (fun _ => true) true m 79 [x1] = some y1 := by simpa [cNHi, cNHv] using g1
    obtain ⟨l1, r1, w1⟩ := open_iS kk
    exact ⟨⟨⟨a0, x1⟩, ⟨a0, l1⟩⟩, rfl, rfl, r1, w1⟩
def ho0 : HO := ⟨0, []⟩
instance : Inhabited (NH × HO) := ⟨⟨nh0, ho0⟩⟩
set_option maxRecDepth 100000 in
theorem open_nhS {H : Type} {enc : TypeId × Value → H} {W : World} {fuel : Nat} {c : Value} {x : DataW H × List MemPlace} (h : DataW.trod enc Try.prog W 0 (fun _ => true) true fuel 22 [c] = some x) : ∃ (qs : List NH) (cs : List HO), NHrow W c qs ∧ HOin W qs cs ∧ cs.length ≤ maxLen ∧ ∀ k (hk : k < cs.length), cs[k].gs.length ≤ maxLen := by
  rcases Go.Deep.open_slice Try.underlying22 h with ⟨hcs, _⟩ | ⟨a, len, cap, m, k, D, Pl, hcs, _, hl, hm, hmm, _, hel⟩
  · obtain rfl : c = .slice none 0 0 := by simpa using hcs
    exact ⟨[], [], .inl ⟨rfl, none, 0, rfl⟩, ⟨rfl, fun k hk => absurd hk (by simp)⟩, Nat.zero_le _, fun k hk => absurd hk (by simp)⟩
  · obtain rfl : c = .slice (some a) len cap := by simpa using hcs
    rw [if_pos rfl] at hmm
    subst hmm
    rw [cNH] at hel
    cases len with
    | zero => exact ⟨[], [], .inl ⟨rfl, _, _, rfl⟩, ⟨rfl, fun k hk => absurd hk (by simp)⟩, Nat.zero_le _, fun k hk => absurd hk (by simp)⟩
    | succ len =>
      have each : ∀ i, i < len + 1 → ∃ z : NH × HO, (∀ j, j < 2 → W.cell? (a.add (i * 2 + j)) = (nhC z.1)[j]?) ∧ z.1 = hoQ z.2 z.1.groups ∧ Irow W z.1.groups z.2.gs ∧ z.2.gs.length ≤ maxLen := by
        intro i hi
        obtain ⟨cs', h1, h2⟩ := hel i (by omega)
        obtain ⟨z, rfl, hz⟩ := nh_one h2
        obtain ⟨_, _, h3⟩ := World.cells?_some h1
        refine ⟨z, fun j hj => ?_, hz⟩
        rw [← Go.Deep.add_add]
        exact h3 j hj
      obtain ⟨f, hf⟩ := Go.Deep.choose_lt each
      have h0 := (hf 0 (by omega)).1 0 (by omega)
      have hsp : a.spot = none := by
        cases hs : a.spot with
        | none => rfl
        | some q =>
          simp [Addr.add, World.cell?, hs, nhC] at h0
          cases hq : W.heap[a.block]? with
          | none => simp [hq] at h0
          | some ob => cases ob <;> simp [hq] at h0
      have hlt : a.block < W.heap.size := by
        simp [Addr.add, World.cell?, nhC] at h0
        cases hq : W.heap[a.block]? with
        | none => simp [hq] at h0
        | some ob => exact (Array.getElem?_eq_some_iff.1 hq).1
      obtain ⟨b, o, sp⟩ := a
      simp only at hsp hlt
      subst hsp
      have hadd : ∀ q, Addr.add ⟨b, o, none⟩ q = ⟨b, o + q, none⟩ := fun q => by
        unfold Addr.add
        split
        · subst_vars; rfl
        · rfl
      refine ⟨(List.range (len + 1)).map (fun i => (f i).1), (List.range (len + 1)).map (fun i => (f i).2), .inr ⟨b, o, m, by simp, by simpa using hl, hlt, fun i hi => ?_⟩, ⟨by simp, fun i hi hi3 => ?_⟩, by simp; omega, fun i hi => ?_⟩
      · have hi2 : i < len + 1 := by simpa using hi
        have hfi : ((List.range (len + 1)).map (fun i => (f i).1))[i] = (f i).1 := by simp
        rw [hfi]
        have q := fun j hj => (hf i hi2).1 j hj
        simp only [hadd] at q
        exact ⟨(q 0 (by omega)), (by rw [Nat.add_assoc]; exact q 1 (by omega))⟩
      · have hi2 : i < len + 1 := by simpa using hi
        simp only [List.getElem_map, List.getElem_range]
        obtain ⟨_, q1, q2, _⟩ := hf i hi2
        exact ⟨q1, q2⟩
      · have hi2 : i < len + 1 := by simpa using hi
        simp only [List.getElem_map, List.getElem_range]
        obtain ⟨_, _, _, q4⟩ := hf i hi2
        exact q4

theorem cNG : Try.prog.cellsOf 85 = 1 := by kernel_rfl
theorem cNGv : Try.prog.cellsOf 83 = 1 := by kernel_rfl
theorem cNGi : Try.prog.cellsOf 2 = 1 := by kernel_rfl
theorem cNGb : Try.prog.cellsOf 4 = 1 := by kernel_rfl
theorem listNG {α : Type} {cs : List α} (h : cs.length = 1) : ∃ x0, cs = [x0] := by
  match cs, h with
  | [x0], _ => exact ⟨x0, rfl⟩
set_option maxRecDepth 100000 in
theorem ng_one {H : Type} {enc : TypeId × Value → H} {W : World} {fuel : Nat} {cs : List Value} {x : DataW H × List MemPlace} (h : DataW.trod enc Try.prog W 0 (fun _ => true) true fuel 85 cs = some x) : ∃ z : NG × GP, cs = ngC z.1 ∧ z.1 = gpQ z.2 z.1.rules ∧ NRrow W z.1.rules z.2.rs ∧ z.2.rs.length ≤ maxLen := by
  obtain ⟨xs, m, _, hx, hl, hlen, hel⟩ := DataW.trod_struct Try.underlying85 h
  obtain ⟨x0, rfl⟩ := listNG (hl.trans cNG)
  match xs, hlen, hel, hx with
  | [y0], _, hel, hx =>
    have g0 := hel 0 _ rfl
    have kk : DataW.trod enc Try.prog W 0 (fun _ => true) true m 83 [x0] = some y0 := by simpa [cNGi, cNGv] using g0
    obtain ⟨l1, r1, w1⟩ := open_nrS kk
    exact ⟨⟨⟨x0⟩, ⟨l1⟩⟩, rfl, rfl, r1, w1⟩
def gp0 : GP := ⟨[]⟩
instance : Inhabited (NG × GP) := ⟨⟨ng0, gp0⟩⟩
set_option maxRecDepth 100000 in
theorem open_ngS {H : Type} {enc : TypeId × Value → H} {W : World} {fuel : Nat} {c : Value} {x : DataW H × List MemPlace} (h : DataW.trod enc Try.prog W 0 (fun _ => true) true fuel 23 [c] = some x) : ∃ (qs : List NG) (cs : List GP), NGrow W c qs ∧ GPin W qs cs ∧ cs.length ≤ maxLen ∧ ∀ k (hk : k < cs.length), cs[k].rs.length ≤ maxLen := by
  rcases Go.Deep.open_slice Try.underlying23 h with ⟨hcs, _⟩ | ⟨a, len, cap, m, k, D, Pl, hcs, _, hl, hm, hmm, _, hel⟩
  · obtain rfl : c = .slice none 0 0 := by simpa using hcs
    exact ⟨[], [], .inl ⟨rfl, none, 0, rfl⟩, ⟨rfl, fun k hk => absurd hk (by simp)⟩, Nat.zero_le _, fun k hk => absurd hk (by simp)⟩
  · obtain rfl : c = .slice (some a) len cap := by simpa using hcs
    rw [if_pos rfl] at hmm
    subst hmm
    rw [cNG] at hel
    cases len with
    | zero => exact ⟨[], [], .inl ⟨rfl, _, _, rfl⟩, ⟨rfl, fun k hk => absurd hk (by simp)⟩, Nat.zero_le _, fun k hk => absurd hk (by simp)⟩
    | succ len =>
      have each : ∀ i, i < len + 1 → ∃ z : NG × GP, (∀ j, j < 1 → W.cell? (a.add (i * 1 + j)) = (ngC z.1)[j]?) ∧ z.1 = gpQ z.2 z.1.rules ∧ NRrow W z.1.rules z.2.rs ∧ z.2.rs.length ≤ maxLen := by
        intro i hi
        obtain ⟨cs', h1, h2⟩ := hel i (by omega)
        obtain ⟨z, rfl, hz⟩ := ng_one h2
        obtain ⟨_, _, h3⟩ := World.cells?_some h1
        refine ⟨z, fun j hj => ?_, hz⟩
        rw [← Go.Deep.add_add]
        exact h3 j hj
      obtain ⟨f, hf⟩ := Go.Deep.choose_lt each
      have h0 := (hf 0 (by omega)).1 0 (by omega)
      have hsp : a.spot = none := by
        cases hs : a.spot with
        | none => rfl
        | some q =>
          simp [Addr.add, World.cell?, hs, ngC] at h0
          cases hq : W.heap[a.block]? with
          | none => simp [hq] at h0
          | some ob => cases ob <;> simp [hq] at h0
      have hlt : a.block < W.heap.size := by
        simp [Addr.add, World.cell?, ngC] at h0
        cases hq : W.heap[a.block]? with
        | none => simp [hq] at h0
        | some ob => exact (Array.getElem?_eq_some_iff.1 hq).1
      obtain ⟨b, o, sp⟩ := a
      simp only at hsp hlt
      subst hsp
      have hadd : ∀ q, Addr.add ⟨b, o, none⟩ q = ⟨b, o + q, none⟩ := fun q => by
        unfold Addr.add
        split
        · subst_vars; rfl
        · rfl
      refine ⟨(List.range (len + 1)).map (fun i => (f i).1), (List.range (len + 1)).map (fun i => (f i).2), .inr ⟨b, o, m, by simp, by simpa using hl, hlt, fun i hi => ?_⟩, ⟨by simp, fun i hi hi3 => ?_⟩, by simp; omega, fun i hi => ?_⟩
      · have hi2 : i < len + 1 := by simpa using hi
        have hfi : ((List.range (len + 1)).map (fun i => (f i).1))[i] = (f i).1 := by simp
        rw [hfi]
        have q := fun j hj => (hf i hi2).1 j hj
        simp only [hadd] at q
        simpa [ngC] using q 0 (by omega)
      · have hi2 : i < len + 1 := by simpa using hi
        simp only [List.getElem_map, List.getElem_range]
        obtain ⟨_, q1, q2, _⟩ := hf i hi2
        exact ⟨q1, q2⟩
      · have hi2 : i < len + 1 := by simpa using hi
        simp only [List.getElem_map, List.getElem_range]
        obtain ⟨_, _, _, q4⟩ := hf i hi2
        exact q4

theorem cFIT : Try.prog.cellsOf 27 = 8 := by kernel_rfl
theorem cFII : Try.prog.cellsOf 2 = 1 := by kernel_rfl
theorem cFIB : Try.prog.cellsOf 4 = 1 := by kernel_rfl
theorem cFIhs : Try.prog.cellsOf 22 = 1 := by kernel_rfl
theorem cFIgs : Try.prog.cellsOf 23 = 1 := by kernel_rfl
theorem cFIfs : Try.prog.cellsOf 24 = 1 := by kernel_rfl
theorem cFIcs : Try.prog.cellsOf 25 = 1 := by kernel_rfl
theorem arrayFI {α : Type} {cs : Array α} (h : cs.size = 8) : ∃ x0 x1 x2 x3 x4 x5 x6 x7, cs = #[x0, x1, x2, x3, x4, x5, x6, x7] := by
  obtain ⟨l⟩ := cs
  match l, h with
  | [x0, x1, x2, x3, x4, x5, x6, x7], _ => exact ⟨x0, x1, x2, x3, x4, x5, x6, x7, rfl⟩
set_option maxRecDepth 100000 in
theorem open_FI {H : Type} {enc : TypeId × Value → H} {W : World} {base : Nat} {v : Value} {d : DataW H} {p : List MemPlace} (hv : Value.okWide Try.prog W .any base 27 v)
    (h : DataW.Trod enc Try.prog W 0 (fun _ => true) true 27 v d p) : ∃ (s : FI) (a : FA), v = flA s a ∧ FIRows W s a ∧ FImax s := by
  obtain ⟨cs, rfl, hsz⟩ := okWide_struct Try.underlying27 hv
  obtain ⟨x0, x1, x2, x3, x4, x5, x6, x7, rfl⟩ := arrayFI (hsz.trans cFIT)
  obtain ⟨fuel, hf⟩ := h
  obtain ⟨xs, n, _, hx, _, hlen, hel⟩ := DataW.trod_struct Try.underlying27 hf
  match xs, hlen, hel, hx with
  | [y0, y1, y2, y3, y4, y5, y6, y7], _, hel, hx =>
    have g0 := hel 0 _ rfl
    have g1 := hel 1 _ rfl
    have g2 := hel 2 _ rfl
    have g3 := hel 3 _ rfl
    have g4 := hel 4 _ rfl
    have g5 := hel 5 _ rfl
    have g6 := hel 6 _ rfl
    have g7 := hel 7 _ rfl
    simp only [Value.cells] at g0 g1 g2 g3 g4 g5 g6 g7
    have j0 : DataW.trod enc Try.prog W 0 (fun _ => true) true n 22 [x0] = some y0 := by simpa [cFIhs, cFIgs, cFIfs, cFIcs, cFII] using g0
    obtain ⟨z0, l0, r0, p0, w0, m0⟩ := open_nhS j0
    have j1 : DataW.trod enc Try.prog W 0 (fun _ => true) true n 23 [x1] = some y1 := by simpa [cFIhs, cFIgs, cFIfs, cFIcs, cFII] using g1
    obtain ⟨z1, l1, r1, p1, w1, m1⟩ := open_ngS j1
    have j2 : DataW.trod enc Try.prog W 0 (fun _ => true) true n 24 [x2] = some y2 := by simpa [cFIhs, cFIgs, cFIfs, cFIcs, cFII] using g2
    obtain ⟨l2, r2, w2⟩ := open_fwS j2
    obtain ⟨a3, e3, _, _⟩ := DataW.trod_int Try.underlying2 g3
    obtain ⟨a4, e4, _, _⟩ := DataW.trod_int Try.underlying2 g4
    obtain ⟨a5, e5, _, _⟩ := DataW.trod_int Try.underlying2 g5
    have j6 : DataW.trod enc Try.prog W 0 (fun _ => true) true n 25 [x6] = some y6 := by simpa [cFIhs, cFIgs, cFIfs, cFIcs, cFII] using g6
    obtain ⟨l6, r6, w6⟩ := open_cnS j6
    obtain ⟨a7, e7, _, _⟩ := DataW.trod_int Try.underlying2 g7
    simp [cFII] at e3 e4 e5 e7
    subst e3 e4 e5 e7
    exact ⟨⟨l0, l1, l2, a3, a4, a5, l6, a7⟩, ⟨x0, x1, x2, x6, z0, z1⟩, rfl, ⟨r0, p0, r1, p1, r2, r6⟩, ⟨⟨w0, m0⟩, ⟨w1, m1⟩, w2, w6⟩⟩
end Go.Proofs.Ytpggbbdfbnocfaa
namespace Go.Proofs.Ytpggbbdfbnocfaa.fnExactRuleLets
open Go.ChangeShapes Go.WideShapes Go.ChangeAt Go.RowKit
open Go.ChangeMaps (open_string shut_string)
set_option linter.unusedVariables false

theorem own : ownKnob Try.prog.godebug = none := by kernel_rfl
theorem laidOut : laidOutB Try.prog = true := by kernel_rfl
set_option maxRecDepth 100000 in
theorem lifted (os : Os) (started : os.Started) (H : Type) (enc : TypeId × Value → H) :
    ReturnsInHanded {} Try.checked os 4 .any (Rows.fnExactRuleLetsSpec.pre6 enc Try.prog Try.f4 Rows.fnExactRuleLetsRow.domain false) (Rows.fnExactRuleLetsSpec.post enc Try.prog Try.f4 false true false false) := by
  refine returnsInHanded_of_change (C := Try.checked) own started (by kernel_rfl) Try.func4
    (ChangeSpec.witness6 (enc := enc) (C := Try.checked) false ⟨#[], #[.agg #[.slice none 0 0, .slice none 0 0, .slice none 0 0, .int .i64 0, .int .i64 0, .int .i64 0, .slice none 0 0, .int .i64 0], .agg #[.bool false, .int .i64 0, .int .i64 0, .int .i64 0, .int .i64 0, .int .i64 0, .int .i64 0], .agg #[.int .i64 0, .int .i64 0, .int .i64 0, .int .i64 0, .int .i64 0, .int .i64 0], .bool false], []⟩ 8 (by kernel_rfl) (by kernel_rfl) (by kernel_rfl) (by kernel_rfl)) ?_
  intro W base args ds gs before hval0 hW hcnd _
  have hval : ∀ (j : Nat) t v, Try.f4.params[j]? = some t → args[j]? = some v → Value.okWide Try.prog W .any base t v := hval0
  have hW' := hW
  obtain ⟨p, q, hA0, hV, rfl, hfz, hnd⟩ := hW
  have hA : DataW.TrodAll enc Try.prog W 0 (fun _ => true) true Try.f4.params.toList args.toList ds p := hA0
  rw [Try.params4] at hA hval
  obtain ⟨v0, vs0, d0, ds0, p0, q0, hargs, rfl, rfl, h0, r0⟩ := trodAll_cons hA
  obtain ⟨v1, vs1, d1, ds1, p1, q1, rfl, rfl, rfl, h1, r1⟩ := trodAll_cons r0
  obtain ⟨v2, vs2, d2, ds2, p2, q2, rfl, rfl, rfl, h2, r2⟩ := trodAll_cons r1
  obtain ⟨v3, vs3, d3, ds3, p3, q3, rfl, rfl, rfl, h3, r3⟩ := trodAll_cons r2
  obtain ⟨rfl, rfl, rfl⟩ := trodAll_nil r3
  obtain rfl : args = #[v0, v1, v2, v3] := by cases args; simp_all
  obtain ⟨rfl, rfl⟩ := trodVars_none hV
  have k0 := h0
  have k1 := h1
  have k2 := h2
  have lt0 : ∀ x ∈ p0, x.block < W.heap.size := by obtain ⟨m, hm⟩ := k0; exact DataW.trod_lt m _ _ _ hm
  have lt1 : ∀ x ∈ p1, x.block < W.heap.size := by obtain ⟨m, hm⟩ := k1; exact DataW.trod_lt m _ _ _ hm
  have lt2 : ∀ x ∈ p2, x.block < W.heap.size := by obtain ⟨m, hm⟩ := k2; exact DataW.trod_lt m _ _ _ hm
  obtain ⟨s0, a0, rfl, hr0, hm0⟩ := open_FI (hval 0 27 v0 rfl rfl) h0
  obtain ⟨x1, rfl⟩ := open_NR (hval 1 40 v1 rfl rfl) h1
  obtain ⟨x2, rfl⟩ := open_PK (hval 2 42 v2 rfl rfl) h2
  obtain ⟨x3, rfl, rfl, rfl⟩ := open_bool Try.underlying4 (hval 3 4 v3 rfl rfl) h3
  clear hA0 hval0
  refine (walkRL hr0 hm0 x1 x2 x3).mono fun e W' ⟨he, bel⟩ => ?_
  subst he
  exact ⟨_, rfl, _, _, _, [], _, [], hW', trodAll_mk1 (shut_bool Try.underlying4 _), (trodAll_cons_mk (Below.trod laidOut (by kernel_rfl) (of_decide_eq_true (by kernel_rfl)) k0 bel lt0) (trodAll_cons_mk (Below.trod laidOut (by kernel_rfl) (of_decide_eq_true (by kernel_rfl)) k1 bel lt1) (trodAll_cons_mk (Below.trod laidOut (by kernel_rfl) (of_decide_eq_true (by kernel_rfl)) k2 bel lt2) (trodAll_cons_mk (shut_bool Try.underlying4 _) trodAll_mk0)))), rfl, bel.frame _, fun h => by cases h⟩

theorem over : Rows.fnExactRuleLetsRow.holds Try.pinned (OpenSpec.ofChange Rows.fnExactRuleLetsSpec) :=
  OpenClaim.holds_of_wide 4 Try.f4 rfl rfl rfl rfl rfl rfl rfl ⟨rfl, rfl, rfl, rfl, rfl⟩ rfl rfl rfl rfl rfl (by kernel_rfl) Try.func4 (by kernel_rfl)
    (of_decide_eq_true (by kernel_rfl)) (by unfold Func.isWrapper; first | (rw [if_pos (by decide +kernel)]; kernel_rfl) | (rw [if_neg (by decide +kernel)]; exact ⟨rfl, rfl⟩))
    (fun os started H enc _ => lifted os started H enc)

end Go.Proofs.Ytpggbbdfbnocfaa.fnExactRuleLets
namespace Go.Proofs.Ytpggbbdfbnocfaa
theorem fnExactRuleLets_holds : Rows.FnExactRuleLetsSaid :=
  fnExactRuleLets.over
#print axioms fnExactRuleLets_holds
end Go.Proofs.Ytpggbbdfbnocfaa
