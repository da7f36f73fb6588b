import Derived.Test.YtefeahilamiiaaaRowPQ1
import Derived.Test.YtefeahilamiiaaaRt1
import Derived.Deep.RegionWith
namespace Go.Proofs.Ytefeahilamiiaaa
open Go.ChangeShapes Go.WideShapes Go.ChangeAt Go.RowKit

set_option maxRecDepth 100000 in
set_option maxHeartbeats 4000000 in
/-- slices.IndexFunc over ports: a number that is not below 0 just if one of them is not so. -/
theorem indexPQ_any {w : World} {v : Value} {zs : List PQ} (h : PQrow w v zs) (hl : zs.length ≤ 1048576) (F : Nat) (q : Nat → Bool) (hsl : ∀ k (hk : k < zs.length), ∃ a n c, zs[k].nets = .slice a n c) (hcf : ∀ (xs : Array Value) (w' : World), (callFunc F xs).run Try.prog w' = .ok (.enter F xs) w')
    (hf : ∀ (k : Nat) (hk : k < zs.length) (w' : World), Below w.heap.size w w' → Calls Try.prog F #[.agg #[.int .i64 zs[k].net, zs[k].nets, .int .i64 zs[k].own, .bool zs[k].up, .int .i64 zs[k].rate, .int .i64 zs[k].burst, .int .i64 zs[k].lev]] w' fun r w'' => r = .returned (.bool (!q k)) ∧ Below w'.heap.size w' w'') :
    Calls Try.prog 73 #[v, .func (.func F) #[] #[]] w fun r w' => ∃ x : Int, r = .returned (.int .i64 x) ∧ decide (0 ≤ x) = !allB q zs.length ∧ Below w.heap.size w w' := by
  obtain ⟨ao, cap, rfl⟩ := h.sl
  have HR : Hid (PQrow w (.slice ao zs.length cap) zs) := h
  have HF : Hid (∀ (k : Nat) (hk : k < zs.length) (w' : World), Below w.heap.size w w' → Calls Try.prog F #[.agg #[.int .i64 zs[k].net, zs[k].nets, .int .i64 zs[k].own, .bool zs[k].up, .int .i64 zs[k].rate, .int .i64 zs[k].burst, .int .i64 zs[k].lev]] w' fun r w'' => r = .returned (.bool (!q k)) ∧ Below w'.heap.size w' w'') := hf
  have HSL : Hid (∀ k (hk : k < zs.length), ∃ a n c, zs[k].nets = .slice a n c) := hsl
  clear h hf hsl
  go_enter Try.func73, Try.ntmps73
  go_wp2
  go_loopw [8] (fun i wr => ∃ k : Nat, k ≤ zs.length ∧ i = .int .i64 k ∧ allB q k = true ∧ Below w.heap.size w wr) (fun i _ => zs.length - (intOf i).toNat)
  case atStart => exact ⟨0, Nat.zero_le _, rfl, rfl, Below.refl _ _⟩
  case round =>
    obtain ⟨k, hk, rfl, hno, hb⟩ := hrel
    have HN : Hid (allB q k = true) := hno
    have HB : Hid (Below w.heap.size w wr) := hb
    by_cases hlt : k < zs.length
    · obtain ⟨g, o, cap2, hv, _, hg, hc⟩ := HR.out.resolve_left (fun h => by rw [h.1] at hlt; simp at hlt)
      injection hv with hv1 hv2 hv3
      subst hv1 hv3
      obtain ⟨d0, d1, d2, d3, d4, d5, d6⟩ := hc.below hb hg k hlt
      have HK : Hid _ := HF.out k hlt wr HB.out
      obtain ⟨a9, n9, c9, e9⟩ := HSL.out k hlt
      rw [e9] at d1 HK
      generalize zs[k] = z at *
      have hk0 : (0 : Int) ≤ (k : Int) := by omega
      have hk1 : (k : Int) < (zs.length : Int) := by omega
      clear hc hno hb e9
      go_wp2_with fail
      refine Calls.mono HK.out ?_
      rintro r u5 ⟨rfl, hu5⟩
      have HB5 : Hid (Below w.heap.size w u5) := HB.out.trans (hu5.mono HB.out.size)
      clear hu5
      cases hp : q k
      · have HBD : Hid (allB q zs.length = false) := allB_bad hlt hp
        go_wp2
        go_ret
        exact ⟨_, rfl, by rw [HBD.out]; simp, HB5.out⟩
      · have HGD : Hid (allB q (k + 1) = true) := (show _ = true by rw [allB_succ, HN.out, hp]; rfl)
        go_wp2
        exact ⟨⟨k + 1, hlt, by simp, HGD.out, HB5.out⟩, by simp [intOf]; omega⟩
    · obtain rfl : k = zs.length := by omega
      clear hno hb
      go_wp2
      go_ret
      exact ⟨-1, rfl, by rw [HN.out]; rfl, HB.out⟩
set_option maxRecDepth 100000 in
set_option maxHeartbeats 4000000 in
theorem containsPQ_any {w : World} {v : Value} {zs : List PQ} (h : PQrow w v zs) (hl : zs.length ≤ 1048576) (F : Nat) (q : Nat → Bool) (hsl : ∀ k (hk : k < zs.length), ∃ a n c, zs[k].nets = .slice a n c) (hcf : ∀ (xs : Array Value) (w' : World), (callFunc F xs).run Try.prog w' = .ok (.enter F xs) w')
    (hf : ∀ (k : Nat) (hk : k < zs.length) (w' : World), Below w.heap.size w w' → Calls Try.prog F #[.agg #[.int .i64 zs[k].net, zs[k].nets, .int .i64 zs[k].own, .bool zs[k].up, .int .i64 zs[k].rate, .int .i64 zs[k].burst, .int .i64 zs[k].lev]] w' fun r w'' => r = .returned (.bool (!q k)) ∧ Below w'.heap.size w' w'') :
    Calls Try.prog 57 #[v, .func (.func F) #[] #[]] w fun r w' => r = .returned (.bool (!allB q zs.length)) ∧ Below w.heap.size w w' := by
  have HI : Hid _ := indexPQ_any h hl F q hsl hcf hf
  obtain ⟨ao, cap, rfl⟩ := h.sl
  clear h hf hcf hsl
  go_enter Try.func57, Try.ntmps57
  go_wp2_with fail
  refine Calls.mono HI.out ?_
  rintro r u5 ⟨x, rfl, hx, hu5⟩
  have HX : Hid (decide (0 ≤ x) = !allB q zs.length) := hx
  clear hx
  go_wp2
  go_ret
  exact ⟨ret_bool HX.out, hu5⟩
end Go.Proofs.Ytefeahilamiiaaa
