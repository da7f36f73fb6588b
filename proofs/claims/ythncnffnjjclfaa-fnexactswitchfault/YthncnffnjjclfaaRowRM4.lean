import Derived.Test.YthncnffnjjclfaaRowRM3
import Derived.Deep.Slices
namespace Go.Proofs.Ythncnffnjjclfaa
open Go.ChangeShapes Go.WideShapes Go.ChangeAt Go.RowKit

theorem ciRM : Try.prog.cellsOf 2 = 1 := by kernel_rfl
theorem listRM {α : Type} {cs : List α} (h : cs.length = 4) : ∃ x0 x1 x2 x3, cs = [x0, x1, x2, x3] := by
  match cs, h with
  | [x0, x1, x2, x3], _ => exact ⟨x0, x1, x2, x3, rfl⟩
instance : Inhabited RM := ⟨rm0⟩
end Go.Proofs.Ythncnffnjjclfaa
