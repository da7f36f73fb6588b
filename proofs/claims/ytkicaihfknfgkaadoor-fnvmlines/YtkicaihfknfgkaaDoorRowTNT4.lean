import Derived.Test.YtkicaihfknfgkaaDoorRowTNT3
import Derived.Deep.Slices
namespace Go.Proofs.YtkicaihfknfgkaaDoor
open Go.ChangeShapes Go.WideShapes Go.ChangeAt Go.RowKit

theorem ciTNT : Tryd.prog.cellsOf 2 = 1 := by kernel_rfl
theorem listTNT {α : Type} {cs : List α} (h : cs.length = 3) : ∃ x0 x1 x2, cs = [x0, x1, x2] := by
  match cs, h with
  | [x0, x1, x2], _ => exact ⟨x0, x1, x2, rfl⟩
instance : Inhabited TNT := ⟨tnt0⟩
end Go.Proofs.YtkicaihfknfgkaaDoor
