import Derived.Test.YtgpfjbopekkflaaPRm2
namespace Go.Proofs.Ytgpfjbopekkflaa
open Go.ChangeShapes Go.WideShapes Go.ChangeAt Go.RowKit

set_option maxRecDepth 100000 in
set_option maxHeartbeats 4000000 in
theorem specRead_no (s : ByteArray) (root : Int) (hs : s.size ≤ 1099511627776) (h : ¬ (memOk s = true ∧ 0 ≤ root ∧ (root + 1) * 256 ≤ (s.size : Int))) : AnsR 10 s root [] := by
  intro w
  have HS : Hid _ := hs
  have hw := World.ownsRow_lit (base := w.heap.size) (e := 53) (size := 4) w #[] 0 (Nat.le_refl _) (by decide) rfl
  have HW : Hid ((w.alloc (.cells #[] 53)).ownsRow w.heap.size 53 4 (.slice (some ⟨w.heap.size, 0, none⟩) 0 0) 0 []) := hw
  clear hw
  by_cases h1 : memOk s = true
  · have hc : Hid _ := memC_ok h1
    obtain ⟨_, hs1, hs2⟩ := memOk_b h1
    have hin := fun w' => l03In_any s root w' hs1
    rw [show (decide (0 ≤ root) && decide (root < (s.size : Int) / 256)) = false by
      by_cases h0 : 0 ≤ root
      · have : ¬ root < (s.size : Int) / 256 := fun h5 => h ⟨h1, h0, by omega⟩
        simp [this]
      · simp [h0]] at hin
    have HIN : Hid _ := hin
    clear hin h h1 hs
    go_enter Try.func10, Try.ntmps10
    go_wp2_with (first | (go_at_call 15; refine (specMemFault_any _ _ HS.out).mono ?_; rintro e u1 ⟨rfl, hu1⟩; rw [hu1, hc.out]; clear hu1) | (go_at_call 30; refine Calls.mono (HIN.out _) ?_; rintro e u2 ⟨rfl, hu2⟩; rw [hu2]; clear hu2))
    go_ret
    exact ⟨_, rfl, HW.out, (Below.refl _ _).alloc (Nat.le_refl _) _⟩
  · have hc : Hid _ := memC_no (by simpa using h1)
    clear h h1 hs
    go_enter Try.func10, Try.ntmps10
    go_wp2_with (go_at_call 15; refine (specMemFault_any _ _ HS.out).mono ?_; rintro e u1 ⟨rfl, hu1⟩; rw [hu1, hc.out]; clear hu1)
    go_ret
    exact ⟨_, rfl, HW.out, (Below.refl _ _).alloc (Nat.le_refl _) _⟩
set_option maxRecDepth 100000 in
set_option maxHeartbeats 4000000 in
theorem implRead_no (s : ByteArray) (root : Int) (hs : s.size ≤ 1099511627776) (h : ¬ (memOk s = true ∧ 0 ≤ root ∧ (root + 1) * 256 ≤ (s.size : Int))) : AnsR 11 s root [] := by
  intro w
  have HS : Hid _ := hs
  by_cases h1 : memOk s = true
  · have hc : Hid _ := memC_ok h1
    obtain ⟨_, hs1, hs2⟩ := memOk_b h1
    obtain ⟨n, hn⟩ : ∃ n, s.size = n * 256 := ⟨s.size / 256, by omega⟩
    have HRM : Hid _ := fun w => readMemory_any s n w hn (by omega)
    have hh := fun (b : Nat) w' => memHolds_any b n root w'
    rw [show (decide (0 ≤ root) && decide (root < (n : Int))) = false by
      by_cases h0 : 0 ≤ root
      · have : ¬ root < (n : Int) := fun h5 => h ⟨h1, h0, by omega⟩
        simp [this]
      · simp [h0]] at hh
    have HH : Hid _ := hh
    clear hh h h1 hs
    unfold mv at HH
    go_enter Try.func11, Try.ntmps11
    go_wp2_with (first | (go_at_call 20; refine (implMemFault_any _ _ HS.out).mono ?_; rintro e u1 ⟨rfl, hu1⟩; rw [hu1, hc.out]; clear hu1) | (go_at_call 24; refine Calls.mono (HRM.out _) ?_; rintro e u3 ⟨rfl, hM3, hB3, hS3⟩; unfold mv; have HB3 : Hid (Below w.heap.size w u3) := hB3; clear hM3 hB3 hS3) | (go_at_call 31; refine Calls.mono (HH.out _ _) ?_; rintro e u1 ⟨rfl, hu1⟩; rw [hu1]; clear hu1))
    go_ret
    exact ⟨_, rfl, World.ownsRow_nil _ _ _ _, HB3.out⟩
  · have hc : Hid _ := memC_no (by simpa using h1)
    clear h h1 hs
    go_enter Try.func11, Try.ntmps11
    go_wp2_with (go_at_call 20; refine (implMemFault_any _ _ HS.out).mono ?_; rintro e u1 ⟨rfl, hu1⟩; rw [hu1, hc.out]; clear hu1)
    go_ret
    exact ⟨_, rfl, World.ownsRow_nil _ _ _ _, Below.refl _ _⟩
end Go.Proofs.Ytgpfjbopekkflaa
