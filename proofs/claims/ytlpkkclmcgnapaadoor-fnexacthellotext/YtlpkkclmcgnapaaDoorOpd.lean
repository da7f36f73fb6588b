import Derived.Test.YtlpkkclmcgnapaaDoorPName
import Derived.Test.YtlpkkclmcgnapaaDoorFault3
namespace Go.Proofs.YtlpkkclmcgnapaaDoor
open Go.ChangeShapes Go.WideShapes Go.ChangeAt Go.RowKit

/-- An operand of an instruction: a register at a slot, or Imm. -/
inductive Opd
  | reg (slot : Int) (letter : ByteArray) (count : Int)
  | imm (least bits : Int)
def Opd.val : Opd → Value
  | .reg s l n => .iface 48 (.agg #[.int .i64 s, .string l, .int .i64 n])
  | .imm a b => .iface 45 (.agg #[.int .i64 a, .int .i64 b])
def rP (k : Int) : Opd := .reg k ⟨#[114]⟩ 16
def vP (k : Int) : Opd := .reg k ⟨#[118]⟩ 4
/-- The operands of an op. -/
def opsOf (op : Int) : List Opd :=
  match kd op with
  | 0 => []
  | 1 => [rP 0, rP 1, rP 2]
  | 2 => [vP 0, vP 1, vP 2]
  | 3 => [vP 0, rP 1]
  | 4 => if op = 20 then [rP 0, .imm 0 20] else [rP 0, .imm (-524288) 20]
  | 5 => [rP 0, .imm (-2048) 12]
  | 6 => [.imm (-2048) 12]
  | 7 => []
  | _ => [rP 0, rP 1, .imm (-2048) 12]
/-- What operandsOf answers. -/
def OpR (op : Int) (w : World) : Prop :=
  Calls Tryd.prog 11 #[.int .i64 op] w fun e w' => ∃ v, e = .returned v ∧ w'.ownsRow w.heap.size 36 1 v (opsOf op).length ((opsOf op).map Opd.val) ∧ Below w.heap.size w w'
theorem plain_any (k : Int) (w : World) : Calls Tryd.prog 16 #[.int .i64 k] w fun e w' => e = .returned (rP k).val ∧ w' = w := by
  go_enter Tryd.func16, Tryd.ntmps16
  go_wp2
  go_ret
  exact ⟨rfl, rfl⟩
theorem vector_any (k : Int) (w : World) : Calls Tryd.prog 17 #[.int .i64 k] w fun e w' => e = .returned (vP k).val ∧ w' = w := by
  go_enter Tryd.func17, Tryd.ntmps17
  go_wp2
  go_ret
  exact ⟨rfl, rfl⟩
theorem signed12 (w : World) : Calls Tryd.prog 18 #[.int .i64 12] w fun e w' => e = .returned (Opd.imm (-2048) 12).val ∧ w' = w := by
  go_enter Tryd.func18, Tryd.ntmps18
  go_wp2
  go_ret
  exact ⟨rfl, rfl⟩
theorem signed20 (w : World) : Calls Tryd.prog 18 #[.int .i64 20] w fun e w' => e = .returned (Opd.imm (-524288) 20).val ∧ w' = w := by
  go_enter Tryd.func18, Tryd.ntmps18
  go_wp2
  go_ret
  exact ⟨rfl, rfl⟩
end Go.Proofs.YtlpkkclmcgnapaaDoor
