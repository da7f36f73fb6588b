import Derived.Test.YtlpkkclmcgnapaaDoorOperands
namespace Go.Proofs.YtlpkkclmcgnapaaDoor
open Go.ChangeShapes Go.WideShapes Go.ChangeAt Go.RowKit

theorem nmT_size : ∀ x ∈ nmT, x.size ≤ 6 := by decide +kernel
theorem nm_size (op : Int) : (nm op).size ≤ 6 := by
  unfold nm
  split
  · decide
  · split
    · decide
    · rename_i h _
      have hk : (op.toNat - 1) < nmT.length := by rw [nmT_len]; omega
      rw [List.getD_eq_getElem?_getD, List.getElem?_eq_getElem hk]
      exact nmT_size _ (List.getElem_mem hk)
theorem fB_size (k : Nat) (h : k < 9) : (fB k).size ≤ 3 := by
  obtain rfl | rfl | rfl | rfl | rfl | rfl | rfl | rfl | rfl : k = 0 ∨ k = 1 ∨ k = 2 ∨ k = 3 ∨ k = 4 ∨ k = 5 ∨ k = 6 ∨ k = 7 ∨ k = 8 := by omega
  all_goals decide

/-- Whether the told text stands in the operand's place. -/
def isT (f t : ByteArray) (j : Nat) : Bool := !(t.toList == []) && (bt f j == 105 || bt f j == 108)
def sep (j : Nat) : ByteArray := if j = 0 then ⟨#[32]⟩ else ⟨#[44, 32]⟩
def txtL (f : ByteArray) (o : Nat → ByteArray) (name t : ByteArray) : Nat → ByteArray
  | 0 => name
  | j + 1 => (txtL f o name t j ++ sep j) ++ (if isT f t j = true then t else o j)
def txt (op a b c imm : Int) (t : ByteArray) : ByteArray := txtL (fB (kd op)) (opS (fB (kd op)) a b c imm) (nm op) t (fB (kd op)).size
theorem sep_size (j : Nat) : (sep j).size ≤ 2 := by unfold sep; split <;> decide
theorem opS_size (f : ByteArray) (a b c imm : Int) (j : Nat) (ha0 : -9223372036854775808 ≤ a) (ha1 : a ≤ 9223372036854775807) (hb0 : -9223372036854775808 ≤ b) (hb1 : b ≤ 9223372036854775807) (hc0 : -9223372036854775808 ≤ c) (hc1 : c ≤ 9223372036854775807) (hi0 : -9223372036854775808 ≤ imm) (hi1 : imm ≤ 9223372036854775807) : (opS f a b c imm j).size ≤ 31 := by
  have s1 := decB_size a ha0 ha1
  have s2 := decB_size b hb0 hb1
  have s3 := decB_size c hc0 hc1
  have s4 := decB_size imm hi0 hi1
  have e1 : (⟨#[114]⟩ : ByteArray).size = 1 := rfl
  have e2 : (⟨#[118]⟩ : ByteArray).size = 1 := rfl
  unfold opS
  split
  · rw [ByteArray.size_append]; omega
  · split
    · rw [ByteArray.size_append]; omega
    · split
      · rw [ByteArray.size_append]; omega
      · split
        · rw [ByteArray.size_append]
          split
          · omega
          · split <;> omega
        · omega
theorem txtL_size (f : ByteArray) (o : Nat → ByteArray) (name t : ByteArray) (M : Nat) (hn : name.size ≤ 6) (ht : t.size ≤ M) (ho : ∀ j, (o j).size ≤ M) : ∀ j, (txtL f o name t j).size ≤ 6 + j * (M + 2)
  | 0 => by simpa [txtL] using hn
  | j + 1 => by
    have h1 := txtL_size f o name t M hn ht ho j
    have h2 := sep_size j
    have h3 : (if isT f t j = true then t else o j).size ≤ M := by split; exact ht; exact ho j
    simp only [txtL, ByteArray.size_append]
    rw [Nat.add_mul]
    omega
end Go.Proofs.YtlpkkclmcgnapaaDoor
