import Derived.Test.YtkicaihfknfgkaaDoorRowVMC3
import Derived.Deep.Slices
namespace Go.Proofs.YtkicaihfknfgkaaDoor
open Go.ChangeShapes Go.WideShapes Go.ChangeAt Go.RowKit

theorem ciVMC : Tryd.prog.cellsOf 2 = 1 := by kernel_rfl
theorem csVMC : Tryd.prog.cellsOf 9 = 1 := by kernel_rfl
theorem listVMC {α : Type} {cs : List α} (h : cs.length = 8) : ∃ x0 x1 x2 x3 x4 x5 x6 x7, cs = [x0, x1, x2, x3, x4, x5, x6, x7] := by
  match cs, h with
  | [x0, x1, x2, x3, x4, x5, x6, x7], _ => exact ⟨x0, x1, x2, x3, x4, x5, x6, x7, rfl⟩
instance : Inhabited VMC := ⟨vmc0⟩
end Go.Proofs.YtkicaihfknfgkaaDoor
