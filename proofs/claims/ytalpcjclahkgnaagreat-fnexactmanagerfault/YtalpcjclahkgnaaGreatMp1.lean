import Derived.Test.YtalpcjclahkgnaaGreatCm1
import Derived.Test.YtalpcjclahkgnaaGreatRowI
import Derived.Test.YtalpcjclahkgnaaGreatNe0
import Derived.Deep.DeepCutAuto
namespace Go.Proofs.YtalpcjclahkgnaaGreat
open Go.ChangeShapes Go.WideShapes Go.ChangeAt Go.RowKit

/-- A row of numbers rises, and each is so. -/
def rik (p : Int → Bool) (zs : List Int) (k : Nat) : Bool := p (zs.getD k 0) && (decide (k = 0) || decide (zs.getD (k - 1) 0 < zs.getD k 0))
def riI (p : Int → Bool) (zs : List Int) : Bool := allD (rik p zs) zs.length
theorem gdI {zs : List Int} {k : Nat} (h : k < zs.length) : zs.getD k 0 = zs[k] := by simp [List.getD, List.getElem?_eq_getElem h]
theorem allD_badI {p : Nat → Bool} {k m : Nat} (hk : k < m) (h : p k = false) : allD p m = false := by
  unfold allD
  rw [List.all_eq_false]
  exact ⟨k, List.mem_range.2 hk, by rw [h]; simp⟩
set_option maxRecDepth 100000 in
set_option maxHeartbeats 4000000 in
theorem areRisingI_any {w : World} {v : Value} {zs : List Int} (h : Irow w v zs) (hl : zs.length ≤ 1048576) (F : Nat) (caps : Array Value) (p : Int → Bool) (hcf : ∀ (xs : Array Value) (w' : World), (callFunc F xs).run Tryz.prog w' = .ok (.enter F xs) w')
    (hf : ∀ (x : Int) (w' : World), Below w.heap.size w w' → Calls Tryz.prog F (#[.int .i64 x] ++ caps) w' fun r w'' => r = .returned (.bool (p x)) ∧ Below w'.heap.size w' w'') :
    Calls Tryz.prog 56 #[v, .func (.func F) #[] caps] w fun e w' => e = .returned (.bool (riI p zs)) ∧ Below w.heap.size w w' := by
  obtain ⟨ao, cap, rfl⟩ := h.sl
  have HR : Hid (Irow w (.slice ao zs.length cap) zs) := h
  have HF : Hid (∀ (x : Int) (w' : World), Below w.heap.size w w' → Calls Tryz.prog F (#[.int .i64 x] ++ caps) w' fun r w'' => r = .returned (.bool (p x)) ∧ Below w'.heap.size w' w'') := hf
  clear h hf
  go_enter Tryz.func56, Tryz.ntmps56
  go_wp2
  go_loopw [9] (fun i wr => ∃ k : Nat, k ≤ zs.length ∧ i = .int .i64 k ∧ allD (rik p zs) k = true ∧ Below w.heap.size w wr) (fun i _ => zs.length - (intOf i).toNat)
  case atStart => exact ⟨0, Nat.zero_le _, rfl, rfl, Below.refl _ _⟩
  case round =>
    obtain ⟨k, hk, rfl, hok, hb⟩ := hrel
    have HOK : Hid (allD (rik p zs) k = true) := hok
    have HB : Hid (Below w.heap.size w wr) := hb
    clear hok
    by_cases hlt : k < zs.length
    · obtain ⟨g, o, cap2, hv, _, hg, hc⟩ := HR.out.resolve_left (fun h => by rw [h.1] at hlt; simp at hlt)
      injection hv with hv1 hv2 hv3
      subst hv1 hv3
      have d0 := hc.below hb hg k hlt
      have HPK : Hid (rik p zs k = (p zs[k] && (decide (k = 0) || decide (zs.getD (k - 1) 0 < zs[k])))) := (show _ = _ by unfold rik; rw [gdI hlt])
      have hk0 : (0 : Int) ≤ (k : Int) := by omega
      have hk1 : (k : Int) < (zs.length : Int) := by omega
      have HC : Hid (∀ (u : World) (j : Nat) (hj : j < zs.length), Below w.heap.size w u → u.cell? ⟨g, o + j, none⟩ = some (.int .i64 zs[j]) ∧ g < u.heap.size) := fun u j hj hu => ⟨hc.below hu hg j hj, Nat.lt_of_lt_of_le hg hu.size⟩
      clear hc hv2
      cases hq : p zs[k]
      · have hbad : Hid (riI p zs = false) := allD_badI (m := zs.length) hlt (HPK.out.trans (by rw [hq]; rfl))
        have HQ : Hid (p zs[k] = false) := hq
        clear hq hb
        go_wp2_with fail
        refine Calls.mono (HF.out _ _ HB.out) ?_
        rintro e u1 ⟨rfl, hu1⟩
        rw [HQ.out]
        have HB1 : Hid (Below w.heap.size w u1) := HB.out.trans (hu1.mono HB.out.size)
        clear hu1
        go_wp2
        go_ret
        exact ⟨ret_bool hbad.out.symm, HB1.out⟩
      · have HQ : Hid (p zs[k] = true) := hq
        clear hq hb
        by_cases h0 : k = 0
        · subst h0
          rw [Nat.add_zero] at d0
          go_wp2_with fail
          refine Calls.mono (HF.out _ _ HB.out) ?_
          rintro e u1 ⟨rfl, hu1⟩
          rw [HQ.out]
          have HB1 : Hid (Below w.heap.size w u1) := HB.out.trans (hu1.mono HB.out.size)
          clear hu1
          go_wp2
          go_roundw
          case rel => exact ⟨1, hlt, by go_num, by rw [allD_succ, HPK.out, HQ.out]; rfl, HB1.out⟩
          case measure => simp [intOf]; omega
        · obtain ⟨j, rfl⟩ : ∃ j, k = j + 1 := ⟨k - 1, by omega⟩
          have hjl : j < zs.length := by omega
          have HPK2 : Hid (rik p zs (j + 1) = decide (zs[j] < zs[j + 1])) := (show _ = _ by rw [HPK.out, HQ.out, Nat.add_sub_cancel, gdI hjl]; simp)
          have hj0 : (0 : Int) < ((j + 1 : Nat) : Int) := by omega
          have hj1 : ((j + 1 : Nat) : Int) - 1 = (j : Int) := by omega
          have hj2 : (j : Int) < (zs.length : Int) := by omega
          have hj3 : (0 : Int) ≤ (j : Int) := by omega
          clear HPK
          go_wp2_with fail
          refine Calls.mono (HF.out _ _ HB.out) ?_
          rintro e u1 ⟨rfl, hu1⟩
          rw [HQ.out]
          have HB1 : Hid (Below w.heap.size w u1) := HB.out.trans (hu1.mono HB.out.size)
          obtain ⟨d1, dl⟩ := HC.out u1 j hjl HB1.out
          clear hu1 d0 HQ
          have HZ : Hid (zs[j + 1] = zs[j + 1]) := rfl
          by_cases hyz : zs[j + 1] ≤ zs[j]
          · have hbad : Hid (riI p zs = false) := allD_badI (m := zs.length) hlt (HPK2.out.trans (by simp; omega))
            generalize zs[j + 1] = z at *
            generalize zs[j] = y at *
            go_wp2
            go_ret
            exact ⟨ret_bool hbad.out.symm, HB1.out⟩
          · have hok : Hid (allD (rik p zs) (j + 1 + 1) = true) := (show _ = _ by rw [allD_succ, HOK.out, HPK2.out]; simp; omega)
            generalize zs[j + 1] = z at *
            generalize zs[j] = y at *
            go_wp2
            go_roundw
            case rel => exact ⟨j + 1 + 1, hlt, by go_num, hok.out, HB1.out⟩
            case measure => simp [intOf]; omega
    · obtain rfl : k = zs.length := by omega
      go_wp2
      go_ret
      exact ⟨ret_bool HOK.out.symm, HB.out⟩
end Go.Proofs.YtalpcjclahkgnaaGreat
