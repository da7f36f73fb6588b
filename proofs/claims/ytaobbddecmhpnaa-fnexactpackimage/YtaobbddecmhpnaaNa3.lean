import Derived.Test.YtaobbddecmhpnaaNa2
namespace Go.Proofs.Ytaobbddecmhpnaa
open Go.ChangeShapes Go.WideShapes Go.ChangeAt Go.RowKit

set_option maxRecDepth 100000
set_option maxHeartbeats 2000000 in
theorem indexZ_any {w : World} {v : Value} {zs : List Int} (h : Irow w v zs) (hl : zs.length ≤ 1048576) (x : Int) : Calls Try.prog 56 #[v, .int .i64 x] w fun r w' => ∃ q, r = .returned (.int .i64 q) ∧ decide (0 ≤ q) = zs.any (fun z => x == z) ∧ w' = w := by
  obtain ⟨ao, cap, rfl⟩ := h.sl
  have HR : Hid (Irow w (.slice ao zs.length cap) zs) := h
  have HY : Hid (∀ k (hk : k < zs.length), (x == zs[k]) = true → zs.any (fun z => x == z) = true) := fun k hk h => List.any_eq_true.2 ⟨zs[k], List.getElem_mem hk, h⟩
  have HN : Hid ((∀ k (hk : k < zs.length), (x == zs[k]) = false) → zs.any (fun z => x == z) = false) := fun h => List.any_eq_false.2 fun z hz => by
    obtain ⟨k, hk, rfl⟩ := List.getElem_of_mem hz
    rw [h k hk]
    decide
  generalize zs.any (fun z => x == z) = g at *
  clear h
  go_enter Try.func56, Try.ntmps56
  go_wp2
  go_loopw [8] (fun i wr => ∃ k : Nat, k ≤ zs.length ∧ i = .int .i64 k ∧ (∀ j (hj : j < zs.length), j < k → (x == zs[j]) = false) ∧ wr = w) (fun i _ => zs.length - (intOf i).toNat)
  case atStart => exact ⟨0, Nat.zero_le _, rfl, fun j _ hj => absurd hj (Nat.not_lt_zero _), rfl⟩
  case round =>
    obtain ⟨k, hk, rfl, hal, rfl⟩ := hrel
    have HA : Hid (∀ j (hj : j < zs.length), j < k → (x == zs[j]) = false) := hal
    clear hal
    by_cases hlt : k < zs.length
    · obtain ⟨g', o, cap2, hv, _, hg, hc⟩ := HR.out.resolve_left (fun h => by rw [h.1] at hlt; simp at hlt)
      injection hv with hv1 hv2 hv3
      subst hv1 hv3
      have d0 := hc k hlt
      have HX : Hid ((x == zs[k]) = true → g = true) := fun h => HY.out k hlt h
      have HX2 : Hid ((x == zs[k]) = false → ∀ j (hj : j < zs.length), j < k + 1 → (x == zs[j]) = false) := fun h j hl hj => by
        rcases Nat.lt_succ_iff_lt_or_eq.1 hj with h2 | h2
        · exact HA.out j hl h2
        · subst h2; exact h
      generalize zs[k] = y at *
      have hk0 : (0 : Int) ≤ (k : Int) := by omega
      have hk1 : (k : Int) < (zs.length : Int) := by omega
      clear hc hv2
      cases hq : (x == y)
      · have HG2 : Hid _ := HX2.out hq
        go_wp2
        exact ⟨⟨k + 1, hlt, by simp, HG2.out, trivial⟩, by simp [intOf]; omega⟩
      · have hg2 := HX.out hq
        subst hg2
        go_wp2
        go_ret
        exact ⟨_, rfl, by first | omega | simp, rfl⟩
    · obtain rfl : k = zs.length := by omega
      have hg := HN.out (fun j hj => HA.out j hj hj)
      subst hg
      go_wp2
      go_ret
      exact ⟨_, rfl, by first | omega | simp, rfl⟩
set_option maxHeartbeats 2000000 in
theorem containsZ_any {w : World} {v : Value} {zs : List Int} (h : Irow w v zs) (hl : zs.length ≤ 1048576) (x : Int) : Calls Try.prog 40 #[v, .int .i64 x] w fun r w' => r = .returned (.bool (zs.any (fun z => x == z))) ∧ w' = w := by
  have HI : Hid _ := indexZ_any h hl x
  obtain ⟨ao, cap, rfl⟩ := h.sl
  clear h
  generalize zs.any (fun z => x == z) = g at *
  go_enter Try.func40, Try.ntmps40
  go_wp2_with (go_at_call 56; refine Calls.mono HI.out ?_; rintro e u1 ⟨q, rfl, hq, hu⟩; rw [hu]; clear hu; have HQ : Hid _ := hq; clear hq)
  go_ret
  exact ⟨ret_bool HQ.out, rfl⟩
/-- Each text of Data is told of. -/
def usB (m : IM) : Bool := decide (∀ k, k < m.d.length → 0 < (allE m).count (k : Int))
theorem usB_any (m : IM) : (cR m.d.length (allE m)).any (fun z => (0 : Int) == z) = !usB m := by
  cases hq : (cR m.d.length (allE m)).any (fun z => (0 : Int) == z) with
  | false =>
    have h2 := List.any_eq_false.1 hq
    have : usB m = true := decide_eq_true (fun k hk => by
      have h3 := h2 ((cR m.d.length (allE m))[k]'(by rw [cR_len]; exact hk)) (List.getElem_mem _)
      rw [cR_at _ _ _ hk] at h3
      simp at h3
      omega)
    rw [this]; rfl
  | true =>
    obtain ⟨e, he, h2⟩ := List.any_eq_true.1 hq
    obtain ⟨k, hk, rfl⟩ := List.getElem_of_mem he
    rw [cR_len] at hk
    rw [cR_at _ _ _ hk] at h2
    have : usB m = false := decide_eq_false (fun h3 => by have := h3 k hk; simp at h2; omega)
    rw [this]; rfl
/-- An image is right. -/
def imB (m : IM) : Bool := bdB m && naB m && daB m && tsB m && usB m
theorem tl_len {m : IM} (h : ILen m) (j : Nat) (hj : j < m.s.length + 1) : (tlV m j).length ≤ 1048576 := by
  cases j with
  | zero => exact h.t
  | succ k =>
    have hk : k < m.s.length := by omega
    simp only [tlV, List.getD_eq_getElem?_getD, List.getElem?_eq_getElem hk, Option.getD_some]
    exact h.e k hk
set_option maxHeartbeats 4000000 in
theorem isRight_any {w : World} {B : Nat} {m : IM} {a : IA} (h : PB w B m a) (hl : ILen m) : Calls Try.prog 20 #[.pointer (some ⟨B, 0, none⟩)] w fun r w' => r = .returned (.bool (imB m)) ∧ Below w.heap.size w w' := by
  have H1 : Hid _ := bounded_any h
  have H2 : Hid _ := namesRight_any h hl.s
  have H3 : Hid _ := fun u (hb : Below w.heap.size w u) => dataRight_any (h.below hb) hl.d
  have H4 : Hid _ := fun u (hb : Below w.heap.size w u) => tablesRight_any (h.below hb) hl.d hl.s (tl_len hl)
  have H5 : Hid (bdB m = true → tsB m = true → ∀ u (hb : Below w.heap.size w u), Calls Try.prog 41 #[.pointer (some ⟨B, 0, none⟩)] u fun r w' => r = .returned (.slice (some ⟨u.heap.size, 0, none⟩) m.d.length m.d.length) ∧ w'.ownsRow u.heap.size 2 1 (.slice (some ⟨u.heap.size, 0, none⟩) m.d.length m.d.length) m.d.length (iR (cR m.d.length (allE m))) ∧ Below u.heap.size u w') := fun e1 e2 u hb => by
    have h4 := of_decide_eq_true e1
    exact tellers_any (h.below hb) hl.d (by omega) (by omega) e2
  have H6 : Hid _ := usB_any m
  have HD : Hid (m.d.length ≤ 1048576) := hl.d
  have HG : Hid (imB m = (bdB m && naB m && daB m && tsB m && usB m)) := (show imB m = _ from rfl)
  clear h hl
  generalize bdB m = q1 at *
  generalize naB m = q2 at *
  generalize daB m = q3 at *
  generalize tsB m = q4 at *
  generalize usB m = q5 at *
  generalize imB m = G at *
  go_enter Try.func20, Try.ntmps20
  go_wp2_with fail
  refine Calls.mono H1.out ?_
  rintro e u1 ⟨rfl, hu⟩
  rw [hu]
  clear hu H1
  cases q1
  · obtain rfl : G = false := HG.out
    go_wp2_with fail
    go_ret
    exact ⟨rfl, Below.refl _ _⟩
  go_wp2_with fail
  refine Calls.mono H2.out ?_
  rintro e u2 ⟨rfl, hu2⟩
  have HU2 : Hid (Below w.heap.size w u2) := hu2
  clear hu2 H2
  cases q2
  · obtain rfl : G = false := HG.out
    go_wp2_with fail
    go_ret
    exact ⟨rfl, HU2.out⟩
  go_wp2_with fail
  refine Calls.mono (H3.out _ HU2.out) ?_
  rintro e u3 ⟨rfl, hu3⟩
  have HU3 : Hid (Below w.heap.size w u3) := HU2.out.trans (hu3.mono HU2.out.size)
  clear hu3 H3
  cases q3
  · obtain rfl : G = false := HG.out
    go_wp2_with fail
    go_ret
    exact ⟨rfl, HU3.out⟩
  go_wp2_with fail
  refine Calls.mono (H4.out _ HU3.out) ?_
  rintro e u4 ⟨rfl, hu4⟩
  have HU4 : Hid (Below w.heap.size w u4) := HU3.out.trans (hu4.mono HU3.out.size)
  clear hu4 H4
  cases q4
  · obtain rfl : G = false := HG.out
    go_wp2_with fail
    go_ret
    exact ⟨rfl, HU4.out⟩
  go_wp2_with fail
  refine Calls.mono (H5.out (by trivial) (by trivial) _ HU4.out) ?_
  rintro e u5 ⟨rfl, ho, hu5⟩
  have HU5 : Hid (Below w.heap.size w u5) := HU4.out.trans (hu5.mono HU4.out.size)
  have HR : Hid (Irow u5 (.slice (some ⟨u4.heap.size, 0, none⟩) m.d.length m.d.length) (cR m.d.length (allE m))) := Irow.of (by rw [cR_len]; exact ho)
  clear hu5 ho H5
  go_wp2_with fail
  refine Calls.mono (containsZ_any HR.out (by rw [cR_len]; exact HD.out) 0) ?_
  rintro e u6 ⟨rfl, hu⟩
  rw [hu, H6.out]
  clear hu
  have HG2 : Hid (G = q5) := (show G = q5 by rw [HG.out]; rfl)
  go_wp2_with fail
  go_ret
  exact ⟨ret_bool (by simp [HG2.out]), HU5.out⟩
end Go.Proofs.Ytaobbddecmhpnaa
