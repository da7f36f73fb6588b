import Derived.Test.YtniaohflkopncaaRowKS3
import Derived.Deep.Slices
namespace Go.Proofs.Ytniaohflkopncaa
open Go.ChangeShapes Go.WideShapes Go.ChangeAt Go.RowKit

theorem ciKS : Try.prog.cellsOf 2 = 1 := by kernel_rfl
theorem csKS : Try.prog.cellsOf 9 = 1 := by kernel_rfl
theorem listKS {α : Type} {cs : List α} (h : cs.length = 3) : ∃ x0 x1 x2, cs = [x0, x1, x2] := by
  match cs, h with
  | [x0, x1, x2], _ => exact ⟨x0, x1, x2, rfl⟩
instance : Inhabited KS := ⟨ks0⟩
end Go.Proofs.Ytniaohflkopncaa
