import Derived.Test.YtlpkkclmcgnapaaDoorFault3
import Derived.Test.YtlpkkclmcgnapaaDoorMod
import Derived.BigQuiet
namespace Go.Proofs.YtlpkkclmcgnapaaDoor
open Go.ChangeShapes Go.WideShapes Go.ChangeAt Go.RowKit

/-- An instruction's word. -/
def encV (op a b c imm : Int) : Int :=
  if isOk op a b c imm = true then (if kd op = 4 then op * 16777216 + a * 1048576 + imm % 1048576 else op * 16777216 + a * 1048576 + b * 65536 + c * 4096 + imm % 4096) else -1
theorem reg_b {n : Int} {u v : Bool} (h : reg n u v = true) : 0 ≤ n ∧ n ≤ 15 := by
  cases u <;> cases v <;> simp [reg] at h <;> omega
theorem nm_b (op : Int) (h : kd op ≠ 0) : 1 ≤ op ∧ op ≤ 54 := by
  by_cases h2 : op < 1 ∨ 54 < op
  · exact absurd (show kd op = 0 from if_pos (nm_out op h2)) h
  · omega
theorem kOk_b {k : Nat} {op a b c imm : Int} (h : kOk k op a b c imm = true) : k ≠ 0 ∧ (0 ≤ a ∧ a ≤ 15) ∧ (0 ≤ b ∧ b ≤ 15) ∧ (0 ≤ c ∧ c ≤ 15) ∧ (-524288 ≤ imm ∧ imm ≤ 1048575) := by
  unfold kOk at h
  have hi : ∀ x : Int, immOk op x = true → -524288 ≤ x ∧ x ≤ 1048575 := by
    intro x hx
    unfold immOk at hx
    split at hx
    · simp at hx; omega
    · split at hx <;> simp at hx <;> omega
  split at h
  · cases h
  all_goals
    simp only [Bool.and_eq_true] at h
    obtain ⟨⟨⟨h1, h2⟩, h3⟩, h4⟩ := h
    refine ⟨?_, reg_b h1, reg_b h2, reg_b h3, ?_⟩
    · first | decide | assumption
    · first | exact hi _ h4 | (simp at h4; omega)
theorem isOk_b {op a b c imm : Int} (h : isOk op a b c imm = true) : (1 ≤ op ∧ op ≤ 54) ∧ (0 ≤ a ∧ a ≤ 15) ∧ (0 ≤ b ∧ b ≤ 15) ∧ (0 ≤ c ∧ c ≤ 15) ∧ (-524288 ≤ imm ∧ imm ≤ 1048575) := by
  obtain ⟨h1, h2⟩ := kOk_b h
  exact ⟨nm_b op h1, h2⟩

end Go.Proofs.YtlpkkclmcgnapaaDoor
