import Derived.Test.YtkicaihfknfgkaaDoorRowNOD3
import Derived.Deep.Slices
namespace Go.Proofs.YtkicaihfknfgkaaDoor
open Go.ChangeShapes Go.WideShapes Go.ChangeAt Go.RowKit

theorem ciNOD : Tryd.prog.cellsOf 2 = 1 := by kernel_rfl
theorem cbNOD : Tryd.prog.cellsOf 4 = 1 := by kernel_rfl
theorem csNOD : Tryd.prog.cellsOf 9 = 1 := by kernel_rfl
theorem listNOD {α : Type} {cs : List α} (h : cs.length = 7) : ∃ x0 x1 x2 x3 x4 x5 x6, cs = [x0, x1, x2, x3, x4, x5, x6] := by
  match cs, h with
  | [x0, x1, x2, x3, x4, x5, x6], _ => exact ⟨x0, x1, x2, x3, x4, x5, x6, rfl⟩
instance : Inhabited NOD := ⟨nod0⟩
end Go.Proofs.YtkicaihfknfgkaaDoor
