import Derived.Test.YtefeahilamiiaaaRt1
namespace Go.Proofs.Ytefeahilamiiaaa
open Go.ChangeShapes Go.WideShapes Go.ChangeAt Go.RowKit

theorem gd {zs : List Int} {k : Nat} (h : k < zs.length) : zs.getD k 0 = zs[k] := by simp [List.getD, List.getElem?_eq_getElem h]
set_option maxRecDepth 100000 in
set_option maxHeartbeats 4000000 in
theorem arPend_any {w : World} {v : Value} {zs : List Int} (h : Irow w v zs) (hl : zs.length ≤ 1048576) : Calls Try.prog 64 #[v, .func (.func 65) #[] #[]] w fun e w' => e = .returned (.bool (pendB zs)) ∧ Below w.heap.size w w' := by
  obtain ⟨ao, cap, rfl⟩ := h.sl
  have HR : Hid (Irow w (.slice ao zs.length cap) zs) := h
  clear h
  have hcf : ∀ (xs : Array Value) (w' : World), (callFunc 65 xs).run Try.prog w' = .ok (.enter 65 xs) w' := by
    intro xs w'
    kernel_rfl
  go_enter Try.func64, Try.ntmps64
  go_wp2
  go_loopw [9] (fun i wr => ∃ k : Nat, k ≤ zs.length ∧ i = .int .i64 k ∧ allB (pk zs) k = true ∧ Below w.heap.size w wr) (fun i _ => zs.length - (intOf i).toNat)
  case atStart => exact ⟨0, Nat.zero_le _, rfl, rfl, Below.refl _ _⟩
  case round =>
    obtain ⟨k, hk, rfl, hok, hb⟩ := hrel
    have HOK : Hid (allB (pk zs) k = true) := hok
    have HB : Hid (Below w.heap.size w wr) := hb
    clear hok
    by_cases hlt : k < zs.length
    · obtain ⟨g, o, cap2, hv, _, hg, hc⟩ := HR.out.resolve_left (fun h => by rw [h.1] at hlt; simp at hlt)
      injection hv with hv1 hv2 hv3
      subst hv1 hv3
      have d0 := hc.below hb hg k hlt
      have hpk : pk zs k = (okV zs[k] && (decide (k = 0) || decide (zs.getD (k - 1) 0 < zs[k]))) := by unfold pk; rw [gd hlt]
      have hk0 : (0 : Int) ≤ (k : Int) := by omega
      have hk1 : (k : Int) < (zs.length : Int) := by omega
      have HV : Hid _ := fun u => isVector_any zs[k] u
      cases hq : okV zs[k]
      · rw [hq] at hpk HV
        generalize zs[k] = z at *
        have hbad : Hid _ := allB_bad (m := zs.length) hlt (hpk.trans (by simp))
        clear hc hpk hq
        go_wp2_with fail
        refine Calls.mono (HV.out _) ?_
        rintro e u1 ⟨rfl, hu1⟩
        rw [hu1]
        clear hu1
        go_wp2
        go_ret
        exact ⟨ret_bool (by unfold pendB; rw [hbad.out]), HB.out⟩
      · rw [hq] at hpk HV
        by_cases h0 : k = 0
        · subst h0
          rw [Nat.add_zero] at d0
          generalize zs[0] = z at *
          have hgd : Hid _ := hpk
          clear hc hpk hq
          go_wp2_with fail
          refine Calls.mono (HV.out _) ?_
          rintro e u1 ⟨rfl, hu1⟩
          rw [hu1]
          clear hu1
          go_wp2
          go_roundw
          case rel => exact ⟨1, hlt, by go_num, by rw [allB_succ, hgd.out]; rfl, HB.out⟩
          case measure => simp [intOf]; omega
        · obtain ⟨j, rfl⟩ : ∃ j, k = j + 1 := ⟨k - 1, by omega⟩
          have d1 := hc.below hb hg j (by omega)
          rw [Nat.add_sub_cancel, gd (show j < zs.length by omega)] at hpk
          have hj0 : (0 : Int) < ((j + 1 : Nat) : Int) := by omega
          have hj1 : ((j + 1 : Nat) : Int) - 1 = (j : Int) := by omega
          have hj2 : (j : Int) < (zs.length : Int) := by omega
          have hj3 : (0 : Int) ≤ (j : Int) := by omega
          generalize zs[j + 1] = z at *
          generalize zs[j] = y at *
          have hgd : Hid _ := hpk
          clear hc hpk hq
          by_cases hyz : z ≤ y
          · go_wp2_with fail
            refine Calls.mono (HV.out _) ?_
            rintro e u1 ⟨rfl, hu1⟩
            rw [hu1]
            clear hu1
            go_wp2
            go_ret
            exact ⟨ret_bool (by unfold pendB; rw [allB_bad hlt (hgd.out.trans (by simp; omega))]), HB.out⟩
          · go_wp2_with fail
            refine Calls.mono (HV.out _) ?_
            rintro e u1 ⟨rfl, hu1⟩
            rw [hu1]
            clear hu1
            go_wp2
            go_roundw
            case rel => exact ⟨j + 1 + 1, hlt, by go_num, by rw [allB_succ, HOK.out, hgd.out]; simp; omega, HB.out⟩
            case measure => simp [intOf]; omega
    · obtain rfl : k = zs.length := by omega
      go_wp2
      go_ret
      exact ⟨ret_bool (by unfold pendB; rw [HOK.out]), HB.out⟩
set_option maxRecDepth 100000 in
set_option maxHeartbeats 4000000 in
theorem isPending_any {w : World} {v : Value} {zs : List Int} (h : Irow w v zs) (hl : zs.length ≤ 1048576) : Calls Try.prog 44 #[v] w fun e w' => e = .returned (.bool (pendB zs)) ∧ Below w.heap.size w w' := by
  have HA : Hid _ := arPend_any h hl
  obtain ⟨ao, cap, rfl⟩ := h.sl
  clear h
  go_enter Try.func44, Try.ntmps44
  go_wp2_with fail
  refine Calls.mono HA.out ?_
  rintro e u1 ⟨rfl, hb⟩
  have HB : Hid (Below w.heap.size w u1) := hb
  clear hb
  go_wp2
  go_ret
  exact ⟨rfl, HB.out⟩
end Go.Proofs.Ytefeahilamiiaaa
