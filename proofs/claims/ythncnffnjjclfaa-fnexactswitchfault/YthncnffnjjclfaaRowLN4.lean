import Derived.Test.YthncnffnjjclfaaRowLN3
import Derived.Deep.Slices
namespace Go.Proofs.Ythncnffnjjclfaa
open Go.ChangeShapes Go.WideShapes Go.ChangeAt Go.RowKit

theorem ciLN : Try.prog.cellsOf 2 = 1 := by kernel_rfl
theorem cbLN : Try.prog.cellsOf 4 = 1 := by kernel_rfl
theorem listLN {α : Type} {cs : List α} (h : cs.length = 5) : ∃ x0 x1 x2 x3 x4, cs = [x0, x1, x2, x3, x4] := by
  match cs, h with
  | [x0, x1, x2, x3, x4], _ => exact ⟨x0, x1, x2, x3, x4, rfl⟩
instance : Inhabited LN := ⟨ln0⟩
end Go.Proofs.Ythncnffnjjclfaa
