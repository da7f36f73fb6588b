import Derived.Test.YtomfbiiegcmmlaaCh2
namespace Go.Proofs.Ytomfbiiegcmmlaa
open Go.ChangeShapes Go.WideShapes Go.ChangeAt Go.RowKit

set_option maxRecDepth 100000
/-- What is asked of each image of a list. -/
structure C1 (ms : List IM) (k : Nat) (hk : k < ms.length) : Prop where
  r : imB ms[k] = true
  f : fdI ms ms[k].n = k
  e : ceI ms ms.length k = true
def c1B (ms : List IM) (k : Nat) (hk : k < ms.length) : Bool := imB ms[k] && decide (fdI ms ms[k].n = k) && ceI ms ms.length k
def chB (ms : List IM) : Bool := decide (ms.length ≤ 12 ∧ ∀ k (hk : k < ms.length), c1B ms k hk = true)
theorem chB_no {ms : List IM} {k : Nat} (hk : k < ms.length) (h : c1B ms k hk = false) : chB ms = false := decide_eq_false (fun h2 => by rw [h2.2 k hk] at h; cases h)
theorem fd_self {ms : List IM} {k : Nat} (hk : k < ms.length) : ∃ j : Nat, fdI ms ms[k].n = j ∧ j ≤ k := by
  cases hq : fdN ms ms[k].n with
  | none =>
    have := List.findIdx?_eq_none_iff.1 hq ms[k].n (List.mem_map.2 ⟨ms[k], List.getElem_mem hk, rfl⟩)
    simp at this
  | some j =>
    refine ⟨j, by unfold fdI; rw [hq], ?_⟩
    obtain ⟨hj, _, hb⟩ := List.findIdx?_eq_some_iff_getElem.1 hq
    rcases Nat.lt_or_ge k j with h | h
    · have := hb k h
      simp at this
    · exact h
theorem PBnew {u : World} {m : IM} {a : IA} (x : IRows u m a) : PB (u.alloc (.cells #[.string m.n, .string m.b, a.vt, a.vd, a.vs] 57)) u.heap.size m a := by
  obtain ⟨c0, c1, c2, c3, c4, _⟩ := cel5 (heap_new u (.cells #[.string m.n, .string m.b, a.vt, a.vd, a.vs] 57))
  exact ⟨by simp, c0, c1, c2, c3, c4, x.below ((Below.refl _ _).alloc (Nat.le_refl _) _)⟩
set_option maxHeartbeats 4000000 in
theorem implChain_any {w : World} {v : Value} {gs : List IG} {ms : List IM} (h : IGrow w v gs) (hi : IGin w gs ms) (hl : ms.length ≤ 1048576) (hL : ∀ k (hk : k < ms.length), ILen ms[k]) : Calls Try.prog 47 #[v] w fun e w' => e = .returned (.int .i64 (if chB ms then 0 else 1)) ∧ Below w.heap.size w w' := by
  obtain ⟨ao, cap, rfl⟩ := h.sl
  have hlq := hi.len
  have HR : Hid (IGrow w (.slice ao ms.length cap) gs) := (show IGrow w (.slice ao ms.length cap) gs by rw [← hlq]; exact h)
  have HC : Hid (IGin w gs ms) := hi
  have HLQ : Hid (gs.length = ms.length) := hlq
  have HLL : Hid (∀ k (hk : k < ms.length), ILen ms[k]) := hL
  rw [hlq]
  clear h hi hlq hL
  by_cases h12 : 12 < ms.length
  · have hno : chB ms = false := decide_eq_false (fun h => by omega)
    rw [hno]
    have hi : (12 : Int) < (ms.length : Int) := by omega
    clear hno
    go_enter Try.func47, Try.ntmps47
    go_wp2
    go_ret
    exact ⟨rfl, Below.refl _ _⟩
  have hi : ¬ (12 : Int) < (ms.length : Int) := by omega
  have HNO : Hid (∀ k (hk : k < ms.length), c1B ms k hk = false → chB ms = false) := fun k hk h => chB_no hk h
  have HYS : Hid ((∀ k (hk : k < ms.length), c1B ms k hk = true) → chB ms = true) := fun h => decide_eq_true ⟨by omega, h⟩
  generalize chB ms = G at *
  generalize hres : (if G then (0 : Int) else 1) = res
  have HRES : Hid ((if G then (0 : Int) else 1) = res) := hres
  clear hres
  go_enter Try.func47, Try.ntmps47
  go_wp2
  go_loopw [10] (fun i wr => ∃ k : Nat, k ≤ ms.length ∧ i = .int .i64 k ∧ (∀ j (hj : j < ms.length), j < k → c1B ms j hj = true) ∧ Below w.heap.size w wr) (fun i _ => ms.length - (intOf i).toNat)
  case atStart => exact ⟨0, Nat.zero_le _, rfl, fun j _ hj => absurd hj (Nat.not_lt_zero _), Below.refl _ _⟩
  case round =>
    obtain ⟨k, hk, rfl, hal, hb⟩ := hrel
    have HA : Hid (∀ j (hj : j < ms.length), j < k → c1B ms j hj = true) := hal
    have HB : Hid (Below w.heap.size w wr) := hb
    clear hal
    by_cases hlt : k < ms.length
    · have hkq : k < gs.length := by rw [HLQ.out]; exact hlt
      obtain ⟨g, o, cap2, hv, _, hg, hc⟩ := HR.out.resolve_left (fun h => by rw [h.1] at hkq; simp at hkq)
      injection hv with hv1 hv2 hv3
      subst hv1 hv3
      obtain ⟨e0, e1, q, e2⟩ := HC.out.el k hkq hlt
      obtain ⟨p1, r1, s1⟩ := e2.t.sl
      obtain ⟨p2, r2, s2⟩ := e2.d.sl
      obtain ⟨p3, r3, s3⟩ := e2.sn.sl
      simp only at s1 s2 s3
      obtain ⟨d0, d1, d2, d3, d4⟩ := hc.below hb hg k hkq
      rw [e0] at d0
      rw [e1, ← bkO_at ms k hlt] at d1
      rw [s1] at d2
      rw [s2] at d3
      rw [s3] at d4
      have e3 := e2.below hb
      rw [s1, s2, s3] at e3
      have hb2 : Below w.heap.size w (wr.alloc (.cells #[.string ms[k].n, .string (bkO ms k), .slice p1 ms[k].t.length r1, .slice p2 ms[k].d.length r2, .slice p3 q.length r3] 57)) := hb.alloc hb.size _
      have HIR : Hid _ := isRight_any (PBnew e3) (HLL.out k hlt)
      simp only at HIR
      rw [← bkO_at ms k hlt] at HIR
      obtain ⟨j, hj, hjk⟩ := fd_self hlt
      have HIA : Hid (∀ u, Below w.heap.size w u → Calls Try.prog 73 #[.slice (some ⟨g, o, none⟩) ms.length cap, .string ms[k].n] u fun e w' => e = .returned (.int .i64 j) ∧ Below u.heap.size u w') := fun u hu => by
        have := imageAt_any (HR.out.below hu) (HC.out.below hu) hl ms[k].n
        rw [hj] at this
        exact this
      have HCE : Hid (∀ u, Below w.heap.size w u → Calls Try.prog 74 #[.slice (some ⟨g, o, none⟩) ms.length cap, .agg (#[.string ms[k].n, .string (bkO ms k), .slice p1 ms[k].t.length r1, .slice p2 ms[k].d.length r2, .slice p3 q.length r3])] u fun e w' => e = .returned (.bool (ceI ms ms.length k)) ∧ Below u.heap.size u w') := fun u hu => comesToEnd_any (HR.out.below hu) (HC.out.below hu) hl k ms[k].n _ _ _ p1 p2 p3 r1 r2 r3
      have HCB : Hid (c1B ms k hlt = (imB ms[k] && decide (fdI ms ms[k].n = k) && ceI ms ms.length k)) := (show c1B ms k hlt = _ from rfl)
      rw [hj] at HCB
      have HX : Hid (c1B ms k hlt = false → G = false) := fun h => HNO.out k hlt h
      have HX2 : Hid (c1B ms k hlt = true → ∀ j (hj : j < ms.length), j < k + 1 → c1B ms j hj = true) := fun h j hl hj => by
        rcases Nat.lt_succ_iff_lt_or_eq.1 hj with h2 | h2
        · exact HA.out j hl h2
        · subst h2; exact h
      have hk0 : (0 : Int) ≤ (k : Int) := by omega
      have hk1 : (k : Int) < (ms.length : Int) := by omega
      have hgw : g < wr.heap.size := Nat.lt_of_lt_of_le hg hb.size
      generalize c1B ms k hlt = cb at *
      generalize ceI ms ms.length k = ce at *
      generalize imB ms[k] = ib at *
      clear hc e0 e1 e2 e3 s1 s2 s3 hv2 hb hj
      generalize ms[k] = m at *
      have HB2 : Hid (Below w.heap.size w (wr.alloc (.cells #[.string m.n, .string (bkO ms k), .slice p1 m.t.length r1, .slice p2 m.d.length r2, .slice p3 q.length r3] 57))) := hb2
      have hcl := cel5 (heap_new wr (.cells #[.string m.n, .string (bkO ms k), .slice p1 m.t.length r1, .slice p2 m.d.length r2, .slice p3 q.length r3] 57))
      have HCL : Hid _ := hcl
      have hlt2 : wr.heap.size < (wr.alloc (.cells #[.string m.n, .string (bkO ms k), .slice p1 m.t.length r1, .slice p2 m.d.length r2, .slice p3 q.length r3] 57)).heap.size := by simp
      have HLT2 : Hid (wr.heap.size < (wr.alloc (.cells #[.string m.n, .string (bkO ms k), .slice p1 m.t.length r1, .slice p2 m.d.length r2, .slice p3 q.length r3] 57)).heap.size) := hlt2
      clear hb2 hcl hlt2
      cases ib
      · have hg0 := HX.out HCB.out
        subst hg0
        go_wp2_with (go_at_call 72; refine Calls.mono HIR.out ?_; rintro e u1 ⟨rfl, hu⟩; have HU : Hid (Below w.heap.size w u1) := HB2.out.trans (hu.mono HB2.out.size); clear hu)
        go_ret
        exact ⟨ret_int HRES.out, HU.out⟩
      go_wp2_with fail
      generalize (wr.alloc (.cells #[.string m.n, .string (bkO ms k), .slice p1 m.t.length r1, .slice p2 m.d.length r2, .slice p3 q.length r3] 57)) = V at *
      refine Calls.mono HIR.out ?_
      rintro e u1 ⟨rfl, hu⟩
      have HU : Hid (Below w.heap.size w u1) := HB2.out.trans (hu.mono HB2.out.size)
      obtain ⟨c0, c1, c2, c3, c4, _⟩ := HCL.out
      have z0 := ((bcell hu).1 wr.heap.size 0 HLT2.out).trans c0
      have z1 := ((bcell hu).1 wr.heap.size 1 HLT2.out).trans c1
      have z2 := ((bcell hu).1 wr.heap.size 2 HLT2.out).trans c2
      have z3 := ((bcell hu).1 wr.heap.size 3 HLT2.out).trans c3
      have z4 := ((bcell hu).1 wr.heap.size 4 HLT2.out).trans c4
      have HW1 : Hid (wr.heap.size < u1.heap.size) := Nat.lt_of_lt_of_le HLT2.out hu.size
      clear hu HIR c0 c1 c2 c3 c4
      by_cases hjq : j < k
      · have hg0 := HX.out (by rw [HCB.out, decide_eq_false (by omega)]; simp)
        subst hg0
        have hji : (j : Int) < (k : Int) := by omega
        go_wp2_with (go_at_call 73; refine Calls.mono (HIA.out _ HU.out) ?_; rintro e u2 ⟨rfl, hu⟩; have HU2 : Hid (Below w.heap.size w u2) := HU.out.trans (hu.mono HU.out.size); clear hu)
        go_ret
        exact ⟨ret_int HRES.out, HU2.out⟩
      have hji : ¬ (j : Int) < (k : Int) := by omega
      obtain rfl : j = k := by omega
      go_wp2_with fail
      refine Calls.mono (HIA.out _ HU.out) ?_
      rintro e u2 ⟨rfl, hu⟩
      have HU2 : Hid (Below w.heap.size w u2) := HU.out.trans (hu.mono HU.out.size)
      have y0 := ((bcell hu).1 wr.heap.size 0 HW1.out).trans z0
      have y1 := ((bcell hu).1 wr.heap.size 1 HW1.out).trans z1
      have y2 := ((bcell hu).1 wr.heap.size 2 HW1.out).trans z2
      have y3 := ((bcell hu).1 wr.heap.size 3 HW1.out).trans z3
      have y4 := ((bcell hu).1 wr.heap.size 4 HW1.out).trans z4
      clear hu z0 z1 z2 z3 z4 HIA
      have HCB2 : Hid (cb = ce) := (show cb = ce by rw [HCB.out]; simp)
      clear HCB
      cases ce
      · have hg0 := HX.out HCB2.out
        subst hg0
        go_wp2_with (go_at_call 74; refine Calls.mono (HCE.out _ HU2.out) ?_; rintro e u3 ⟨rfl, hu⟩; have HU3 : Hid (Below w.heap.size w u3) := HU2.out.trans (hu.mono HU2.out.size); clear hu)
        go_ret
        exact ⟨ret_int HRES.out, HU3.out⟩
      · have hyy := HX2.out HCB2.out
        have HYY : Hid _ := hyy
        clear hyy
        go_wp2_with (go_at_call 74; refine Calls.mono (HCE.out _ HU2.out) ?_; rintro e u3 ⟨rfl, hu⟩; have HU3 : Hid (Below w.heap.size w u3) := HU2.out.trans (hu.mono HU2.out.size); clear hu)
        exact ⟨⟨j + 1, hlt, by simp, HYY.out, HU3.out⟩, by simp [intOf]; omega⟩
    · obtain rfl : k = ms.length := by omega
      have hg := HYS.out (fun j hj => HA.out j hj hj)
      subst hg
      go_wp2
      go_ret
      exact ⟨ret_int HRES.out, hb⟩
end Go.Proofs.Ytomfbiiegcmmlaa
