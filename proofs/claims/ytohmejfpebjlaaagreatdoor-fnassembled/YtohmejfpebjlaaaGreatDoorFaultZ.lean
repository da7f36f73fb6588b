import Derived.Test.YtohmejfpebjlaaaGreatDoorForm
namespace Go.Proofs.YtohmejfpebjlaaaGreatDoor
open Go.ChangeShapes Go.WideShapes Go.ChangeAt Go.RowKit

def reg (n : Int) (used v : Bool) : Bool := if used = true then decide (0 ≤ n) && (decide (n < 4) || (decide (n < 16) && !v)) else n == 0
def immOk (op imm : Int) : Bool := if op = 20 then decide (0 ≤ imm) && decide (imm < 1048576) else if op = 36 then decide (-524288 ≤ imm) && decide (imm < 524288) else decide (-2048 ≤ imm) && decide (imm < 2048)

set_option maxHeartbeats 1000000 in
theorem l02Reg_any (n : Int) (u v : Bool) (w : World) :
    Calls Tryz.prog 20 #[.int .i64 n, .bool u, .bool v] w fun e w' => e = .returned (.bool (reg n u v)) ∧ w' = w := by
  cases u <;> cases v
  all_goals
    go_enter Tryz.func20, Tryz.ntmps20
    go_wp2
    all_goals
      go_ret
      refine ⟨ret_bool ?_, rfl⟩
      rw [Bool.eq_iff_iff]
      simp [reg] <;> omega

set_option maxHeartbeats 1000000 in
theorem l02Imm_any (op imm : Int) (w : World) :
    Calls Tryz.prog 21 #[.int .i64 op, .int .i64 imm] w fun e w' => e = .returned (.bool (immOk op imm)) ∧ w' = w := by
  go_enter Tryz.func21, Tryz.ntmps21
  go_wp2
  all_goals
    go_ret
    refine ⟨ret_bool ?_, rfl⟩
    rw [Bool.eq_iff_iff]
    simp_all [immOk] <;> omega

def beg (s p : ByteArray) : Bool := decide (p.size ≤ s.size) && ((s.extract 0 p.size).toList == p.toList)
theorem sl_to (s : ByteArray) (k : Nat) (h : k ≤ s.size) (w : World) : Sem.run Tryz.prog (Instr.slice 9 (.string s) none (some (.int .i64 (k : Int))) none) w = .ok (.string (s.extract 0 k)) w := by
  rw [run_slice_string_to_if _ _ _ _ _ Tryz.underlying9, if_pos (by omega)]
  rfl

set_option maxHeartbeats 1000000 in
theorem l01Begins_any (s p : ByteArray) (w : World) :
    Calls Tryz.prog 19 #[.string s, .string p] w fun e w' => e = .returned (.bool (beg s p)) ∧ w' = w := by
  by_cases h : p.size ≤ s.size
  · rw [show beg s p = ((s.extract 0 p.size).toList == p.toList) from by unfold beg; rw [decide_eq_true h]; rfl]
    have hsl := sl_to s p.size h
    go_enter Tryz.func19, Tryz.ntmps19
    go_wp2
    go_ret
    exact ⟨rfl, rfl⟩
  · rw [show beg s p = false from by unfold beg; rw [decide_eq_false h]; rfl]
    go_enter Tryz.func19, Tryz.ntmps19
    go_wp2
    go_ret
    exact ⟨rfl, rfl⟩

/-- An instruction without fault. -/
def kOk (k : Nat) (op a b c imm : Int) : Bool :=
  match k with
  | 0 => false
  | 1 => reg a true false && reg b true false && reg c true false && imm == 0
  | 2 => reg a true true && reg b true true && reg c true true && imm == 0
  | 3 => reg a true true && reg b true false && reg c false false && imm == 0
  | 4 => reg a true false && reg b false false && reg c false false && immOk op imm
  | 5 => reg a true false && reg b false false && reg c false false && immOk op imm
  | 6 => reg a false false && reg b false false && reg c false false && immOk op imm
  | 7 => reg a false false && reg b false false && reg c false false && imm == 0
  | _ => reg a true false && reg b true false && reg c false false && immOk op imm
def isOk (op a b c imm : Int) : Bool := kOk (kd op) op a b c imm
def ins (op a b c imm : Int) : Value := .agg #[.int .i64 op, .int .i64 a, .int .i64 b, .int .i64 c, .int .i64 imm]

theorem bg1_97 : beg ⟨#[97, 98, 99]⟩ ⟨#[97]⟩ = true := by decide +kernel
theorem bg1_118 : beg ⟨#[97, 98, 99]⟩ ⟨#[118]⟩ = false := by decide +kernel
theorem bg2_97 : beg ⟨#[118, 118, 118]⟩ ⟨#[97]⟩ = false := by decide +kernel
theorem bg2_118 : beg ⟨#[118, 118, 118]⟩ ⟨#[118]⟩ = true := by decide +kernel
theorem bg3_97 : beg ⟨#[118, 98]⟩ ⟨#[97]⟩ = false := by decide +kernel
theorem bg3_118 : beg ⟨#[118, 98]⟩ ⟨#[118]⟩ = true := by decide +kernel
theorem bg4_97 : beg ⟨#[97, 108]⟩ ⟨#[97]⟩ = true := by decide +kernel
theorem bg4_118 : beg ⟨#[97, 108]⟩ ⟨#[118]⟩ = false := by decide +kernel
theorem bg5_97 : beg ⟨#[97, 105]⟩ ⟨#[97]⟩ = true := by decide +kernel
theorem bg5_118 : beg ⟨#[97, 105]⟩ ⟨#[118]⟩ = false := by decide +kernel
theorem bg6_97 : beg ⟨#[105]⟩ ⟨#[97]⟩ = false := by decide +kernel
theorem bg6_118 : beg ⟨#[105]⟩ ⟨#[118]⟩ = false := by decide +kernel
theorem bg7_97 : beg ⟨#[]⟩ ⟨#[97]⟩ = false := by decide +kernel
theorem bg7_118 : beg ⟨#[]⟩ ⟨#[118]⟩ = false := by decide +kernel
theorem bg8_97 : beg ⟨#[97, 98, 105]⟩ ⟨#[97]⟩ = true := by decide +kernel
theorem bg8_118 : beg ⟨#[97, 98, 105]⟩ ⟨#[118]⟩ = false := by decide +kernel

set_option maxHeartbeats 4000000 in
theorem instrFault_any (op a b c imm : Int) (w : World) (h0 : -9223372036854775808 ≤ op) (h1 : op ≤ 9223372036854775807) :
    Calls Tryz.prog 6 #[ins op a b c imm] w fun e w' => e = .returned (.int .i64 (if isOk op a b c imm = true then 0 else 1)) ∧ Below w.heap.size w w' := by
  have hk := kd_lt op
  unfold isOk ins
  obtain ⟨k, hkk⟩ : ∃ k, kd op = k := ⟨_, rfl⟩
  rw [hkk] at hk ⊢
  have HK : Hid (kd op = k) := hkk
  clear hkk
  obtain ⟨r, hr⟩ : ∃ r : Int, (if kOk k op a b c imm = true then 0 else 1) = r := ⟨_, rfl⟩
  rw [hr]
  have HR : Hid ((if kOk k op a b c imm = true then 0 else 1) = r) := hr
  clear hr
  obtain rfl | rfl | rfl | rfl | rfl | rfl | rfl | rfl | rfl : k = 0 ∨ k = 1 ∨ k = 2 ∨ k = 3 ∨ k = 4 ∨ k = 5 ∨ k = 6 ∨ k = 7 ∨ k = 8 := by omega
  all_goals
    go_enter Tryz.func6, Tryz.ntmps6
    go_wp2_with (first | (go_at_call 18; refine (l02Form_any _ _ (by omega) (by omega)).mono ?_; rintro e u1 ⟨rfl, hw1⟩; rw [HK.out]; unfold fB; have z1 : w.heap.size < u1.heap.size := (by have := hw1.size; simp at this; omega); obtain ⟨hc, hf⟩ := bcell hw1) | (go_at_call 19; refine (l01Begins_any _ _ _).mono ?_; rintro e u2 ⟨rfl, hw2⟩; subst hw2; first | rw [bg1_97] | rw [bg1_118] | rw [bg2_97] | rw [bg2_118] | rw [bg3_97] | rw [bg3_118] | rw [bg4_97] | rw [bg4_118] | rw [bg5_97] | rw [bg5_118] | rw [bg6_97] | rw [bg6_118] | rw [bg7_97] | rw [bg7_118] | rw [bg8_97] | rw [bg8_118]) | (go_at_call 20; refine (l02Reg_any _ _ _ _).mono ?_; rintro e u3 ⟨rfl, hw3⟩; subst hw3) | (go_at_call 21; refine (l02Imm_any _ _ _).mono ?_; rintro e u4 ⟨rfl, hw4⟩; subst hw4))
    all_goals
      go_ret
      refine ⟨ret_int ?_, bstep (Below.refl _ _) _ hw1⟩
      rw [← HR.out]
      clear hc hf hw1 HR HK
      simp_all [kOk]
end Go.Proofs.YtohmejfpebjlaaaGreatDoor
