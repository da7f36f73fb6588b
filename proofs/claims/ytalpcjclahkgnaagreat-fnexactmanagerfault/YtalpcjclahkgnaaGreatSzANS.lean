import Derived.Test.YtalpcjclahkgnaaGreatAnsZ
import Derived.Test.YtalpcjclahkgnaaGreatLG
import Derived.Deep.DeepCutAuto
import Derived.WalkKit
import Derived.ProofKit
import Derived.OpenShut
namespace Go.Proofs.YtalpcjclahkgnaaGreat
open Go.ChangeShapes Go.WideShapes Go.ChangeAt Go.RowKit

set_option maxRecDepth 100000 in
set_option maxHeartbeats 4000000 in
theorem szANS_w (z : ANS) (l : Int) (w : World) (h0 : 0 ≤ l) (h1 : l ≤ 1048576) (m0 : z.ask.size ≤ maxLen) (m1 : z.reply.size ≤ maxLen) :
    Calls Tryz.prog 24 #[.agg #[.int .i64 z.id, .string z.ask, .string z.reply], .int .i64 l] w fun e w' => ∃ q, e = .returned (.int .i64 q) ∧ -1 ≤ q ∧ q ≤ 1048576 ∧ (0 ≤ q → z.ask.size ≤ 1048576 ∧ z.reply.size ≤ 1048576) ∧ Below w.heap.size w w' := by
  have q0 : z.ask.size ≤ 9223372036854775807 := by unfold maxLen at m0; omega
  have q1 : z.reply.size ≤ 9223372036854775807 := by unfold maxLen at m1; omega
  clear m0 m1
  have HB : Hid (Below w.heap.size w (w.alloc (.cells #[.int .i64 z.id, .string z.ask, .string z.reply] 66))) := (Below.refl _ _).alloc (Nat.le_refl _) _
  cases h3 : decide (l - (z.ask.size : Int) < 0)
  · have g3 := of_decide_eq_false h3
    cases h4 : decide (l - (z.ask.size : Int) - (z.reply.size : Int) < 0)
    · have g4 := of_decide_eq_false h4
      go_enter Tryz.func24, Tryz.ntmps24
      go_wp2
      go_ret
      exact ⟨_, rfl, by omega, by omega, fun hh => by omega, HB.out⟩
    · skip
      go_enter Tryz.func24, Tryz.ntmps24
      go_wp2
      go_ret
      exact ⟨_, rfl, by omega, by omega, fun hh => by omega, HB.out⟩
  · skip
    go_enter Tryz.func24, Tryz.ntmps24
    go_wp2
    go_ret
    exact ⟨_, rfl, by omega, by omega, fun hh => by omega, HB.out⟩
set_option maxRecDepth 100000 in
set_option maxHeartbeats 4000000 in
theorem szANSS_w {w : World} {v : Value} {zs : List ANS} (h : ANSrow w v zs) (hm : zs.length ≤ maxLen) (L : Int) (L0 : 0 ≤ L) (L1 : L ≤ 1048576) (hz : ∀ z ∈ zs, z.ask.size ≤ maxLen ∧ z.reply.size ≤ maxLen) :
    Calls Tryz.prog 10 #[v, .int .i64 L] w fun e w' => ∃ q, e = .returned (.int .i64 q) ∧ -1 ≤ q ∧ q ≤ 1048576 ∧ (0 ≤ q → zs.length ≤ 1048576 ∧ ∀ z ∈ zs, z.ask.size ≤ 1048576 ∧ z.reply.size ≤ 1048576) ∧ Below w.heap.size w w' := by
  obtain ⟨ao, cap, rfl⟩ := h.sl
  have HR : Hid (ANSrow w (.slice ao zs.length cap) zs) := h
  have hm2 : zs.length ≤ 9223372036854775807 := by unfold maxLen at hm; omega
  have HZ : Hid (∀ z ∈ zs, z.ask.size ≤ maxLen ∧ z.reply.size ≤ maxLen) := hz
  clear h hm hz
  cases h3 : decide (L - (zs.length : Int) < 0)
  · have g3 := of_decide_eq_false h3
    have HL : Hid (zs.length ≤ 1048576) := (show zs.length ≤ 1048576 by omega)
    go_enter Tryz.func10, Tryz.ntmps10
    go_wp2
    go_loopw [1, 5] (fun y i wr => ∃ (k : Nat) (l : Int), k ≤ zs.length ∧ y = .int .i64 l ∧ 0 ≤ l ∧ l ≤ 1048576 ∧ i = .int .i64 k ∧ (∀ z ∈ zs.take k, z.ask.size ≤ 1048576 ∧ z.reply.size ≤ 1048576) ∧ Below w.heap.size w wr) (fun _ i _ => zs.length - (intOf i).toNat)
    case atStart => exact ⟨0, _, Nat.zero_le _, rfl, by omega, by omega, rfl, fun z hz => by simp at hz, Below.refl _ _⟩
    case round =>
      obtain ⟨k, l, hk, rfl, l0, l1, rfl, hsz, hb⟩ := hrel
      have HSZ : Hid (∀ z ∈ zs.take k, z.ask.size ≤ 1048576 ∧ z.reply.size ≤ 1048576) := hsz
      clear hsz
      have HB : Hid (Below w.heap.size w wr) := hb
      by_cases hlt : k < zs.length
      · obtain ⟨g, o, cap2, hv, _, hg, hc⟩ := HR.out.resolve_left (fun h => by rw [h.1] at hlt; simp at hlt)
        injection hv with hv1 hv2 hv3
        subst hv1 hv3
        obtain ⟨d0, d1, d2⟩ := hc.below hb hg k hlt
        have hgw : g < wr.heap.size := Nat.lt_of_lt_of_le hg hb.size
        obtain ⟨m0, m1⟩ := HZ.out _ (List.getElem_mem hlt)
        have HS : Hid _ := szANS_w zs[k] l wr l0 l1 m0 m1
        have HTK : Hid (∀ z ∈ zs.take (k + 1), z ∈ zs.take k ∨ z = zs[k]) := (fun z hz => by rw [List.take_succ_eq_append_getElem hlt] at hz; exact (List.mem_append.1 hz).imp id (fun h => List.mem_singleton.1 h))
        generalize zs[k] = z at *
        have hk0 : (0 : Int) ≤ (k : Int) := by omega
        have hk1 : (k : Int) < (zs.length : Int) := by omega
        clear hc hb m0 m1 h3 g3
        go_wp2_with fail
        refine Calls.mono HS.out ?_
        rintro e u1 ⟨q, rfl, q0, q1, hqs, hu⟩
        have HQS : Hid (0 ≤ q → z.ask.size ≤ 1048576 ∧ z.reply.size ≤ 1048576) := hqs
        clear hqs
        have HU : Hid (Below w.heap.size w u1) := HB.out.trans (hu.mono HB.out.size)
        clear hu HS
        cases h5 : decide (q < 0)
        · have g5 := of_decide_eq_false h5
          go_wp2
          exact ⟨⟨k + 1, q, hlt, rfl, by omega, q1, by go_num, fun y hy => (HTK.out y hy).elim (fun h => HSZ.out y h) (fun h => by rw [h]; exact HQS.out (by omega)), HU.out⟩, by simp [intOf]; omega⟩
        · go_wp2
          go_ret
          exact ⟨-1, rfl, by omega, by omega, fun hh => absurd hh (by omega), HU.out⟩
      · obtain rfl : k = zs.length := by omega
        clear h3 g3
        go_wp2
        go_ret
        exact ⟨l, rfl, by omega, l1, fun _ => ⟨HL.out, by have := HSZ.out; rwa [List.take_length] at this⟩, HB.out⟩
  · have g3 := of_decide_eq_true h3
    go_enter Tryz.func10, Tryz.ntmps10
    go_wp2
    go_ret
    exact ⟨-1, rfl, by omega, by omega, fun hh => absurd hh (by omega), Below.refl _ _⟩
set_option maxRecDepth 100000 in
theorem open_rowANS {H : Type} {enc : TypeId × Value → H} {W : World} {base : Nat} {v : Value} {d : DataW H} {p : List MemPlace} (hv : Value.okWide Tryz.prog W .any base 27 v)
    (h : DataW.Trod enc Tryz.prog W 0 (fun _ => true) true 27 v d p) : ∃ zs : List ANS, ANSrow W v zs ∧ zs.length ≤ maxLen ∧ ∀ z ∈ zs, z.ask.size ≤ maxLen ∧ z.reply.size ≤ maxLen := by
  obtain ⟨a, len, cap, rfl⟩ := okWide_slice Tryz.underlying27 hv
  obtain ⟨fuel, hf⟩ := h
  exact open_ansS hf
end Go.Proofs.YtalpcjclahkgnaaGreat
