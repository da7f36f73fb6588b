import Derived.Test.YtohmejfpebjlaaaGreatDoorName
namespace Go.Proofs.YtohmejfpebjlaaaGreatDoor
open Go.ChangeShapes Go.WideShapes Go.ChangeAt Go.RowKit

/-- The kind of an op's operands: 0 none such, 1 abc, 2 vvv, 3 vb, 4 al, 5 ai, 6 i, 7 none, 8 abi. -/
def kd2 (op : Int) : Nat :=
  if op ≤ 13 then 1 else if 28 ≤ op ∧ op ≤ 30 then 1 else if op = 54 then 2
  else if op = 52 then 3 else if op = 53 then 3 else if op = 20 then 4 else if op = 36 then 4
  else if op = 43 then 5 else if op = 44 then 5 else if op = 46 then 5 else if op = 47 then 5
  else if op = 48 then 6 else if 40 ≤ op then 7 else 8
def kd (op : Int) : Nat := if nm op = ⟨#[]⟩ then 0 else kd2 op
def fB : Nat → ByteArray
  | 0 => ⟨#[63]⟩ | 1 => ⟨#[97, 98, 99]⟩ | 2 => ⟨#[118, 118, 118]⟩ | 3 => ⟨#[118, 98]⟩ | 4 => ⟨#[97, 108]⟩ | 5 => ⟨#[97, 105]⟩ | 6 => ⟨#[105]⟩ | 7 => ⟨#[]⟩ | _ => ⟨#[97, 98, 105]⟩
theorem ite_b {p : Prop} [Decidable p] {a b : Nat} (ha : 1 ≤ a ∧ a ≤ 8) (hb : 1 ≤ b ∧ b ≤ 8) : 1 ≤ (if p then a else b) ∧ (if p then a else b) ≤ 8 := by split <;> assumption
theorem kd2_b (op : Int) : 1 ≤ kd2 op ∧ kd2 op ≤ 8 := by
  unfold kd2
  iterate 13 (refine ite_b ⟨by decide, by decide⟩ ?_)
  exact ⟨by decide, by decide⟩
theorem kd_lt (op : Int) : kd op < 9 := by
  have := kd2_b op
  unfold kd
  by_cases h : nm op = ⟨#[]⟩
  · rw [if_pos h]; omega
  · rw [if_neg h]; omega

theorem ret_str {a b : ByteArray} (h : a = b) : Ending.returned (.string a) = .returned (.string b) := by rw [h]

set_option maxHeartbeats 4000000 in
theorem l02Form_any (op : Int) (w : World) (h0 : -9223372036854775808 ≤ op) (h1 : op ≤ 9223372036854775807) :
    Calls Tryz.prog 18 #[.int .i64 op] w fun e w' => e = .returned (.string (fB (kd op))) ∧ Below w.heap.size w w' := by
  cases hx : ((nm op).toList == [])
  · rw [show kd op = kd2 op from if_neg (beqL_ne hx)]
    go_enter Tryz.func18, Tryz.ntmps18
    go_wp2_with (go_at_call 41; refine (l02Name_any _ _ (by omega) (by omega)).mono ?_; rintro e u1 ⟨rfl, hbl⟩; generalize nm op = x at *)
    all_goals
      go_ret
      refine ⟨ret_str ?_, hbl⟩
      clear hx hbl
      try simp only [beq_iff_eq, beq_eq_false_iff_ne, ne_eq] at *
      unfold kd2
      repeat (first | rfl | (rw [if_pos (by omega)]) | (rw [if_neg (by omega)]))
  · rw [show kd op = 0 from if_pos (beqL_eq hx)]
    go_enter Tryz.func18, Tryz.ntmps18
    go_wp2_with (go_at_call 41; refine (l02Name_any _ _ (by omega) (by omega)).mono ?_; rintro e u1 ⟨rfl, hbl⟩; generalize nm op = x at *)
    go_ret
    exact ⟨rfl, hbl⟩
end Go.Proofs.YtohmejfpebjlaaaGreatDoor
