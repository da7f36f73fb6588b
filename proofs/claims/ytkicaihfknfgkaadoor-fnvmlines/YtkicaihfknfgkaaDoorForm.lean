import Derived.Test.YtkicaihfknfgkaaDoorName
namespace Go.Proofs.YtkicaihfknfgkaaDoor
open Go.ChangeShapes Go.WideShapes Go.ChangeAt Go.RowKit

/-- The kind of an op's operands: 0 none such, 1 abc, 2 vvv, 3 vb, 4 al, 5 ai, 6 i, 7 none, 8 abi. -/
def kd2 (op : Int) : Nat :=
  if op ≤ 13 then 1 else if 28 ≤ op ∧ op ≤ 30 then 1 else if op = 54 then 2
  else if op = 52 then 3 else if op = 53 then 3 else if op = 20 then 4 else if op = 36 then 4
  else if op = 43 then 5 else if op = 44 then 5 else if op = 46 then 5 else if op = 47 then 5
  else if op = 48 then 6 else if 40 ≤ op then 7 else 8
def kd (op : Int) : Nat := if nm op = ⟨#[]⟩ then 0 else kd2 op
def fB : Nat → ByteArray
  | 0 => ⟨#[63]⟩ | 1 => ⟨#[97, 98, 99]⟩ | 2 => ⟨#[118, 118, 118]⟩ | 3 => ⟨#[118, 98]⟩ | 4 => ⟨#[97, 108]⟩ | 5 => ⟨#[97, 105]⟩ | 6 => ⟨#[105]⟩ | 7 => ⟨#[]⟩ | _ => ⟨#[97, 98, 105]⟩
theorem ite_b {p : Prop} [Decidable p] {a b : Nat} (ha : 1 ≤ a ∧ a ≤ 8) (hb : 1 ≤ b ∧ b ≤ 8) : 1 ≤ (if p then a else b) ∧ (if p then a else b) ≤ 8 := by split <;> assumption
theorem kd2_b (op : Int) : 1 ≤ kd2 op ∧ kd2 op ≤ 8 := by
  unfold kd2
  iterate 13 (refine ite_b ⟨by decide, by decide⟩ ?_)
  exact ⟨by decide, by decide⟩
theorem kd_lt (op : Int) : kd op < 9 := by
  have := kd2_b op
  unfold kd
  by_cases h : nm op = ⟨#[]⟩
  · rw [if_pos h]; omega
  · rw [if_neg h]; omega

theorem ret_str {a b : ByteArray} (h : a = b) : Ending.returned (.string a) = .returned (.string b) := by rw [h]

end Go.Proofs.YtkicaihfknfgkaaDoor
