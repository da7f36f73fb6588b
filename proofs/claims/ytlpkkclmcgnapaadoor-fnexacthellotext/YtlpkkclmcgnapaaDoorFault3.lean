import Derived.Test.YtlpkkclmcgnapaaDoorFault2
namespace Go.Proofs.YtlpkkclmcgnapaaDoor
open Go.ChangeShapes Go.WideShapes Go.ChangeAt Go.RowKit

/-- An instruction without fault. -/
def kOk (k : Nat) (op a b c imm : Int) : Bool :=
  match k with
  | 0 => false
  | 1 => reg a true false && reg b true false && reg c true false && imm == 0
  | 2 => reg a true true && reg b true true && reg c true true && imm == 0
  | 3 => reg a true true && reg b true false && reg c false false && imm == 0
  | 4 => reg a true false && reg b false false && reg c false false && immOk op imm
  | 5 => reg a true false && reg b false false && reg c false false && immOk op imm
  | 6 => reg a false false && reg b false false && reg c false false && immOk op imm
  | 7 => reg a false false && reg b false false && reg c false false && imm == 0
  | _ => reg a true false && reg b true false && reg c false false && immOk op imm
def isOk (op a b c imm : Int) : Bool := kOk (kd op) op a b c imm
def ins (op a b c imm : Int) : Value := .agg #[.int .i64 op, .int .i64 a, .int .i64 b, .int .i64 c, .int .i64 imm]

theorem bg1_97 : beg ⟨#[97, 98, 99]⟩ ⟨#[97]⟩ = true := by decide +kernel
theorem bg1_118 : beg ⟨#[97, 98, 99]⟩ ⟨#[118]⟩ = false := by decide +kernel
theorem bg2_97 : beg ⟨#[118, 118, 118]⟩ ⟨#[97]⟩ = false := by decide +kernel
theorem bg2_118 : beg ⟨#[118, 118, 118]⟩ ⟨#[118]⟩ = true := by decide +kernel
theorem bg3_97 : beg ⟨#[118, 98]⟩ ⟨#[97]⟩ = false := by decide +kernel
theorem bg3_118 : beg ⟨#[118, 98]⟩ ⟨#[118]⟩ = true := by decide +kernel
theorem bg4_97 : beg ⟨#[97, 108]⟩ ⟨#[97]⟩ = true := by decide +kernel
theorem bg4_118 : beg ⟨#[97, 108]⟩ ⟨#[118]⟩ = false := by decide +kernel
theorem bg5_97 : beg ⟨#[97, 105]⟩ ⟨#[97]⟩ = true := by decide +kernel
theorem bg5_118 : beg ⟨#[97, 105]⟩ ⟨#[118]⟩ = false := by decide +kernel
theorem bg6_97 : beg ⟨#[105]⟩ ⟨#[97]⟩ = false := by decide +kernel
theorem bg6_118 : beg ⟨#[105]⟩ ⟨#[118]⟩ = false := by decide +kernel
theorem bg7_97 : beg ⟨#[]⟩ ⟨#[97]⟩ = false := by decide +kernel
theorem bg7_118 : beg ⟨#[]⟩ ⟨#[118]⟩ = false := by decide +kernel
theorem bg8_97 : beg ⟨#[97, 98, 105]⟩ ⟨#[97]⟩ = true := by decide +kernel
theorem bg8_118 : beg ⟨#[97, 98, 105]⟩ ⟨#[118]⟩ = false := by decide +kernel

end Go.Proofs.YtlpkkclmcgnapaaDoor
