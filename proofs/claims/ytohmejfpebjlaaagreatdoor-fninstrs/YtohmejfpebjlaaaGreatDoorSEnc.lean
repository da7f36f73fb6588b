import Derived.Test.YtohmejfpebjlaaaGreatDoorFaultZ
import Derived.Test.YtohmejfpebjlaaaGreatDoorMod
import Derived.BigQuiet
namespace Go.Proofs.YtohmejfpebjlaaaGreatDoor
open Go.ChangeShapes Go.WideShapes Go.ChangeAt Go.RowKit

/-- An instruction's word. -/
def encV (op a b c imm : Int) : Int :=
  if isOk op a b c imm = true then (if kd op = 4 then op * 16777216 + a * 1048576 + imm % 1048576 else op * 16777216 + a * 1048576 + b * 65536 + c * 4096 + imm % 4096) else -1
theorem reg_b {n : Int} {u v : Bool} (h : reg n u v = true) : 0 ≤ n ∧ n ≤ 15 := by
  cases u <;> cases v <;> simp [reg] at h <;> omega
theorem nm_b (op : Int) (h : kd op ≠ 0) : 1 ≤ op ∧ op ≤ 54 := by
  by_cases h2 : op < 1 ∨ 54 < op
  · exact absurd (show kd op = 0 from if_pos (nm_out op h2)) h
  · omega
theorem kOk_b {k : Nat} {op a b c imm : Int} (h : kOk k op a b c imm = true) : k ≠ 0 ∧ (0 ≤ a ∧ a ≤ 15) ∧ (0 ≤ b ∧ b ≤ 15) ∧ (0 ≤ c ∧ c ≤ 15) ∧ (-524288 ≤ imm ∧ imm ≤ 1048575) := by
  unfold kOk at h
  have hi : ∀ x : Int, immOk op x = true → -524288 ≤ x ∧ x ≤ 1048575 := by
    intro x hx
    unfold immOk at hx
    split at hx
    · simp at hx; omega
    · split at hx <;> simp at hx <;> omega
  split at h
  · cases h
  all_goals
    simp only [Bool.and_eq_true] at h
    obtain ⟨⟨⟨h1, h2⟩, h3⟩, h4⟩ := h
    refine ⟨?_, reg_b h1, reg_b h2, reg_b h3, ?_⟩
    · first | decide | assumption
    · first | exact hi _ h4 | (simp at h4; omega)
theorem isOk_b {op a b c imm : Int} (h : isOk op a b c imm = true) : (1 ≤ op ∧ op ≤ 54) ∧ (0 ≤ a ∧ a ≤ 15) ∧ (0 ≤ b ∧ b ≤ 15) ∧ (0 ≤ c ∧ c ≤ 15) ∧ (-524288 ≤ imm ∧ imm ≤ 1048575) := by
  obtain ⟨h1, h2⟩ := kOk_b h
  exact ⟨nm_b op h1, h2⟩

set_option maxRecDepth 100000 in
set_option maxHeartbeats 4000000 in
theorem specEncode_any (op a b c imm : Int) (w : World) (h0 : -9223372036854775808 ≤ op) (h1 : op ≤ 9223372036854775807) :
    Calls Tryz.prog 12 #[ins op a b c imm] w fun e w' => e = .returned (.int .i64 (encV op a b c imm)) ∧ Below w.heap.size w w' := by
  unfold encV
  cases hok : isOk op a b c imm
  · rw [if_neg (by decide)]
    unfold ins
    go_enter Tryz.func12, Tryz.ntmps12
    go_wp2_with (go_at_call 6; refine (instrFault_any _ _ _ _ _ _ (by omega) (by omega)).mono ?_; rintro e u1 ⟨rfl, hw1⟩; rw [hok])
    go_ret
    exact ⟨rfl, bstep (Below.refl _ _) _ hw1⟩
  · rw [if_pos rfl]
    obtain ⟨bo, ba, bb, bc, bi⟩ := isOk_b hok
    obtain ⟨hk0, _⟩ := kOk_b hok
    have hk := kd_lt op
    obtain ⟨k, hkk⟩ : ∃ k, kd op = k := ⟨_, rfl⟩
    rw [hkk] at hk hk0 ⊢
    have HK : Hid (kd op = k) := hkk
    have HO : Hid (isOk op a b c imm = true) := hok
    clear hkk hok
    unfold ins
    obtain rfl | rfl | rfl | rfl | rfl | rfl | rfl | rfl : k = 4 ∨ k = 1 ∨ k = 2 ∨ k = 3 ∨ k = 5 ∨ k = 6 ∨ k = 7 ∨ k = 8 := by omega
    · rw [if_pos rfl]
      go_enter Tryz.func12, Tryz.ntmps12
      go_wp2_with (first | (go_at_call 6; refine (instrFault_any _ _ _ _ _ _ (by omega) (by omega)).mono ?_; rintro e u1 ⟨rfl, hw1⟩; rw [HO.out]; have z1 : w.heap.size < u1.heap.size := (by have := hw1.size; simp at this; omega); obtain ⟨hc, hf⟩ := bcell hw1) | (go_at_call 18; refine (l02Form_any _ _ (by omega) (by omega)).mono ?_; rintro e u2 ⟨rfl, hw2⟩; rw [HK.out]; unfold fB; obtain ⟨hc2, hf2⟩ := bcell hw2))
      go_quiet ((go_at_call 35; exact Calls.quiet_of_same (l01Mod_any _ _ _ (by omega) (by omega))))
      go_wp2
      go_ret
      exact ⟨rfl, bdn ((bstep (Below.refl _ _) _ hw1).trans (hw2.mono (by omega))) _⟩
    all_goals
      rw [if_neg (by decide)]
      go_enter Tryz.func12, Tryz.ntmps12
      go_wp2_with (first | (go_at_call 6; refine (instrFault_any _ _ _ _ _ _ (by omega) (by omega)).mono ?_; rintro e u1 ⟨rfl, hw1⟩; rw [HO.out]; have z1 : w.heap.size < u1.heap.size := (by have := hw1.size; simp at this; omega); obtain ⟨hc, hf⟩ := bcell hw1) | (go_at_call 18; refine (l02Form_any _ _ (by omega) (by omega)).mono ?_; rintro e u2 ⟨rfl, hw2⟩; rw [HK.out]; unfold fB; obtain ⟨hc2, hf2⟩ := bcell hw2))
      go_quiet ((go_at_call 35; exact Calls.quiet_of_same (l01Mod_any _ _ _ (by omega) (by omega))))
      go_wp2
      go_ret
      exact ⟨rfl, bdn ((bstep (Below.refl _ _) _ hw1).trans (hw2.mono (by omega))) _⟩
end Go.Proofs.YtohmejfpebjlaaaGreatDoor
