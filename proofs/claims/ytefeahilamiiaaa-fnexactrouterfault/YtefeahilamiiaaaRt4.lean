import Derived.Test.YtefeahilamiiaaaRt3
namespace Go.Proofs.Ytefeahilamiiaaa
open Go.ChangeShapes Go.WideShapes Go.ChangeAt Go.RowKit

set_option maxRecDepth 100000 in
set_option maxHeartbeats 4000000 in
theorem isService_any {w : World} {v : Value} {zs : List Int} (h : Irow w v zs) (hl : zs.length ≤ 1048576) : Calls Try.prog 45 #[v] w fun e w' => e = .returned (.bool (servB zs)) ∧ Below w.heap.size w w' := by
  obtain ⟨ao, cap, rfl⟩ := h.sl
  have HR : Hid (Irow w (.slice ao zs.length cap) zs) := h
  clear h
  go_enter Try.func45, Try.ntmps45
  go_wp2
  go_loopw [7] (fun i wr => ∃ k : Nat, k ≤ zs.length ∧ i = .int .i64 k ∧ allB (sk zs) k = true ∧ Below w.heap.size w wr) (fun i _ => zs.length - (intOf i).toNat)
  case atStart => exact ⟨0, Nat.zero_le _, rfl, rfl, Below.refl _ _⟩
  case round =>
    obtain ⟨k, hk, rfl, hok, hb⟩ := hrel
    have HOK : Hid (allB (sk zs) k = true) := hok
    have HB : Hid (Below w.heap.size w wr) := hb
    clear hok
    by_cases hlt : k < zs.length
    · obtain ⟨g, o, cap2, hv, _, hg, hc⟩ := HR.out.resolve_left (fun h => by rw [h.1] at hlt; simp at hlt)
      injection hv with hv1 hv2 hv3
      subst hv1 hv3
      have d0 := hc.below hb hg k hlt
      have hpk : sk zs k = (okV zs[k] && (decide (k = 0) || decide (zs.getD (k - 1) 0 / 4 < zs[k] / 4))) := by unfold sk; rw [gd hlt]
      have hk0 : (0 : Int) ≤ (k : Int) := by omega
      have hk1 : (k : Int) < (zs.length : Int) := by omega
      have HV : Hid _ := fun u => isVector_any zs[k] u
      cases hq : okV zs[k]
      · rw [hq] at hpk HV
        generalize zs[k] = z at *
        have hbad : Hid _ := allB_bad (m := zs.length) hlt (hpk.trans (by simp))
        clear hc hpk hq
        go_wp2_with fail
        go_quiet (first | (go_at_call 65; exact Calls.quiet_of_same (HV.out _)) | (go_at_call 66; exact Calls.quiet_of_same (priority_any _ _ (by omega) (by omega))))
        go_wp2
        go_ret
        exact ⟨ret_bool (by unfold servB; rw [hbad.out]), bdn HB.out _⟩
      · rw [hq] at hpk HV
        by_cases h0 : k = 0
        · subst h0
          rw [Nat.add_zero] at d0
          generalize zs[0] = z at *
          have hgd : Hid _ := hpk
          clear hc hpk hq
          go_wp2_with fail
          go_quiet (first | (go_at_call 65; exact Calls.quiet_of_same (HV.out _)) | (go_at_call 66; exact Calls.quiet_of_same (priority_any _ _ (by omega) (by omega))))
          go_wp2
          go_roundw
          case rel => exact ⟨1, hlt, by go_num, by rw [allB_succ, hgd.out]; rfl, bdn HB.out _⟩
          case measure => simp [intOf]; omega
        · obtain ⟨j, rfl⟩ : ∃ j, k = j + 1 := ⟨k - 1, by omega⟩
          have d1 := hc.below hb hg j (by omega)
          rw [Nat.add_sub_cancel, gd (show j < zs.length by omega)] at hpk
          have hj0 : (0 : Int) < ((j + 1 : Nat) : Int) := by omega
          have hj1 : ((j + 1 : Nat) : Int) - 1 = (j : Int) := by omega
          have hj2 : (j : Int) < (zs.length : Int) := by omega
          have hj3 : (0 : Int) ≤ (j : Int) := by omega
          have HSV : Hid (okV zs[j] = true) := (show okV zs[j] = true by
            have := allB_iff.1 HOK.out j (by omega)
            unfold sk at this
            rw [gd (show j < zs.length by omega), Bool.and_eq_true] at this
            exact this.1)
          generalize zs[j + 1] = z at *
          generalize zs[j] = y at *
          have hgd : Hid _ := hpk
          obtain ⟨z0, z1⟩ := okV_b hq
          have hys := HSV.out
          obtain ⟨y0, y1⟩ := okV_b hys
          clear hys
          clear hc hpk hq
          by_cases hyz : z / 4 ≤ y / 4
          · go_wp2_with fail
            go_quiet (first | (go_at_call 65; exact Calls.quiet_of_same (HV.out _)) | (go_at_call 66; exact Calls.quiet_of_same (priority_any _ _ (by omega) (by omega))))
            go_wp2
            go_ret
            exact ⟨ret_bool (by unfold servB; rw [allB_bad hlt (hgd.out.trans (by simp; omega))]), bdn HB.out _⟩
          · go_wp2_with fail
            go_quiet (first | (go_at_call 65; exact Calls.quiet_of_same (HV.out _)) | (go_at_call 66; exact Calls.quiet_of_same (priority_any _ _ (by omega) (by omega))))
            go_wp2
            go_roundw
            case rel => exact ⟨j + 1 + 1, hlt, by go_num, by rw [allB_succ, HOK.out, hgd.out]; simp; omega, bdn HB.out _⟩
            case measure => simp [intOf]; omega
    · obtain rfl : k = zs.length := by omega
      go_wp2
      go_ret
      exact ⟨ret_bool (by unfold servB; rw [HOK.out]), HB.out⟩
end Go.Proofs.Ytefeahilamiiaaa
