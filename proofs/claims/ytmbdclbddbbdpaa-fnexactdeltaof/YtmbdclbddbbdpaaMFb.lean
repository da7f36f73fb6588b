import Derived.Test.YtmbdclbddbbdpaaIdxPV
import Derived.Test.YtmbdclbddbbdpaaMFa
namespace Go.Proofs.Ytmbdclbddbbdpaa
open Go.ChangeShapes Go.WideShapes Go.ChangeAt Go.RowKit

def portB (z : PV) : Bool := decide (0 ≤ z.port) && decide (z.port ≤ 2047) && isW z.value
def portsB (zs : List PV) : Bool := decide (zs.length ≤ 100) && zs.all portB
theorem cfP : ∀ (xs : Array Value) (w' : World), (callFunc 63 xs).run Try.prog w' = .ok (.enter 63 xs) w' := by
  intro xs w'
  kernel_rfl
set_option maxRecDepth 100000 in
set_option maxHeartbeats 4000000 in
theorem portFn_any (z : PV) (w : World) : Calls Try.prog 63 #[pvA z] w fun e w' => e = .returned (.bool (!portB z)) ∧ Below w.heap.size w w' := by
  obtain ⟨p, x⟩ := z
  have HW : Hid _ := fun w' => implIsWord_any x w'
  unfold portB pvA
  generalize isW x = b at *
  go_enter Try.func63, Try.ntmps63
  go_wp2_with (go_at_call 46; refine Calls.mono (HW.out _) ?_; rintro e u1 ⟨rfl, hu1⟩; rw [hu1]; clear hu1)
  all_goals go_ret
  all_goals refine ⟨ret_bool ?_, (Below.refl _ _).alloc (Nat.le_refl _) _⟩
  all_goals cases b
  all_goals first
    | (simp; omega)
    | (simp_all; done)
    | (simp_all; omega)
set_option maxRecDepth 100000 in
set_option maxHeartbeats 4000000 in
theorem arePorts_any {w : World} {v : Value} {zs : List PV} (h : PVrow w v zs) (hl : zs.length ≤ 1048576) : Calls Try.prog 45 #[v] w fun e w' => e = .returned (.bool (portsB zs)) ∧ Below w.heap.size w w' := by
  have HC := containsPV_any h hl 63 #[] (fun x => !portB x) cfP (fun x w' _ => portFn_any x w')
  have ha := any_not zs portB
  unfold portsB
  rw [← ha]
  obtain ⟨ao, cap, rfl⟩ := h.sl
  generalize (zs.any fun x => !portB x) = q at *
  have HCH : Hid (Calls Try.prog 64 #[.slice ao zs.length cap, .func (.func 63) #[] #[]] w fun r w' => r = .returned (.bool q) ∧ Below w.heap.size w w') := HC
  clear h HC ha
  by_cases hn : zs.length ≤ 100
  · have hb : (zs.length : Int) ≤ 100 := by omega
    go_enter Try.func45, Try.ntmps45
    go_wp2_with (go_at_call 64; refine Calls.mono HCH.out ?_; rintro e u1 ⟨rfl, hu1⟩)
    go_ret
    exact ⟨ret_bool (by simp [hn]), hu1⟩
  · have hb : ¬ (zs.length : Int) ≤ 100 := by omega
    go_enter Try.func45, Try.ntmps45
    go_wp2
    go_ret
    exact ⟨rfl, Below.refl _ _⟩
set_option maxRecDepth 100000 in
set_option maxHeartbeats 4000000 in
theorem l04Ports_any {w : World} {v : Value} {zs : List PV} (h : PVrow w v zs) (hl : zs.length ≤ 1048576) : Calls Try.prog 37 #[v] w fun e w' => e = .returned (.bool (portsB zs)) ∧ Below w.heap.size w w' := by
  obtain ⟨ao, cap, rfl⟩ := h.sl
  have HR : Hid (PVrow w (.slice ao zs.length cap) zs) := h
  clear h
  unfold portsB
  by_cases hn : zs.length ≤ 100
  · obtain ⟨R, hR⟩ : ∃ R, (decide (zs.length ≤ 100) && zs.all portB) = R := ⟨_, rfl⟩
    rw [hR]
    have HRR : Hid (zs.all portB = R) := (show zs.all portB = R by rw [← hR]; simp [hn])
    have hb0 : ¬ 100 < (zs.length : Int) := by omega
    clear hR
    go_enter Try.func37, Try.ntmps37
    go_wp2
    go_loopw [3] (fun i wr => ∃ k : Nat, k ≤ zs.length ∧ i = .int .i64 k ∧ (zs.take k).all portB = true ∧ Below w.heap.size w wr) (fun i _ => zs.length - (intOf i).toNat)
    case atStart => exact ⟨0, Nat.zero_le _, rfl, rfl, Below.refl _ _⟩
    case round =>
      obtain ⟨k, hk, rfl, hno, hb⟩ := hrel
      have HN : Hid ((zs.take k).all portB = true) := hno
      have HB : Hid (Below w.heap.size w wr) := hb
      by_cases hlt : k < zs.length
      · obtain ⟨g, o, cap2, hv, _, hg, hc⟩ := HR.out.resolve_left (fun h => by rw [h.1] at hlt; simp at hlt)
        injection hv with hv1 hv2 hv3
        subst hv1 hv3
        obtain ⟨d0, d1⟩ := hc.below hb hg k hlt
        have hat := all_take (p := portB) hlt
        obtain ⟨z, hz⟩ : ∃ z, zs[k] = z := ⟨_, rfl⟩
        rw [hz] at d0 d1 hat
        have HZ : Hid (zs[k] = z) := hz
        have HAT : Hid ((zs.take (k + 1)).all portB = ((zs.take k).all portB && portB z)) := hat
        have hk0 : (0 : Int) ≤ (k : Int) := by omega
        have hk1 : (k : Int) < (zs.length : Int) := by omega
        have hgw : g < wr.heap.size := Nat.lt_of_lt_of_le hg hb.size
        have HW0 := fun w' => specIsWord_any z.value w'
        obtain ⟨b, hbv⟩ : ∃ b, isW z.value = b := ⟨_, rfl⟩
        rw [hbv] at HW0
        have HW : Hid (∀ w' : World, Calls Try.prog 35 #[.int .i64 z.value] w' fun e w2 => e = .returned (.bool b) ∧ w2 = w') := HW0
        have HBV : Hid (isW z.value = b) := hbv
        clear hc hno hb hz hat HW0 hbv
        go_wp2_with (go_at_call 35; refine Calls.mono (HW.out _) ?_; rintro e u1 ⟨rfl, hu1⟩; rw [hu1]; clear hu1)
        all_goals first
          | (refine ⟨⟨k + 1, hlt, by simp, ?_, HB.out⟩, by simp [intOf]; omega⟩; rw [HAT.out, HN.out]; unfold portB; rw [HBV.out]; cases b <;> simp_all <;> omega)
          | (go_ret; refine ⟨ret_bool ?_, HB.out⟩; rw [← HRR.out]; refine (all_bad hlt ?_).symm; rw [HZ.out]; unfold portB; rw [HBV.out]; cases b <;> simp <;> first | omega | (simp_all; done) | (simp_all; omega))
      · obtain rfl : k = zs.length := by omega
        rw [List.take_length] at hno
        have HN2 : Hid (zs.all portB = true) := hno
        clear hno hb
        go_wp2
        go_ret
        exact ⟨ret_bool (by rw [← HRR.out, HN2.out]), HB.out⟩
  · have hb : 100 < (zs.length : Int) := by omega
    go_enter Try.func37, Try.ntmps37
    go_wp2
    go_ret
    exact ⟨ret_bool (by simp [hn]), Below.refl _ _⟩
end Go.Proofs.Ytmbdclbddbbdpaa
