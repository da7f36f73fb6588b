import Derived.Test.YtegcbghhcidcaaaDoorRowTM3
import Derived.Deep.Slices
namespace Go.Proofs.YtegcbghhcidcaaaDoor
open Go.ChangeShapes Go.WideShapes Go.ChangeAt Go.RowKit

theorem ciTM : Tryd.prog.cellsOf 2 = 1 := by kernel_rfl
theorem listTM {α : Type} {cs : List α} (h : cs.length = 3) : ∃ x0 x1 x2, cs = [x0, x1, x2] := by
  match cs, h with
  | [x0, x1, x2], _ => exact ⟨x0, x1, x2, rfl⟩
instance : Inhabited TM := ⟨ti0⟩
end Go.Proofs.YtegcbghhcidcaaaDoor
