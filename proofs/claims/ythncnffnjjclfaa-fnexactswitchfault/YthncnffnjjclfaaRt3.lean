import Derived.Test.YthncnffnjjclfaaRt1
namespace Go.Proofs.Ythncnffnjjclfaa
open Go.ChangeShapes Go.WideShapes Go.ChangeAt Go.RowKit

theorem gd {zs : List Int} {k : Nat} (h : k < zs.length) : zs.getD k 0 = zs[k] := by simp [List.getD, List.getElem?_eq_getElem h]
end Go.Proofs.Ythncnffnjjclfaa
