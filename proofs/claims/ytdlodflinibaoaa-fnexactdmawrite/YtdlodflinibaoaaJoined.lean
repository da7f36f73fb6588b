import Derived.Test.YtdlodflinibaoaaJoinedCore
namespace Go.Proofs.Ytdlodflinibaoaa
open Go.ChangeShapes Go.WideShapes Go.ChangeAt Go.RowKit

def catB (ps : List ByteArray) : List UInt8 := ps.flatMap fun p => p.data.toList
theorem catB_succ (ps : List ByteArray) (k : Nat) (h : k < ps.length) : catB (ps.take (k + 1)) = catB (ps.take k) ++ (ps.getD k ByteArray.empty).data.toList := by
  rw [List.take_succ_eq_append_getElem h]
  unfold catB
  rw [List.flatMap_append]
  simp [List.getElem?_eq_getElem h]
theorem catB_le (ps : List ByteArray) (k : Nat) : (catB (ps.take k)).length ≤ (catB ps).length := by
  have h : catB ps = catB (ps.take k) ++ catB (ps.drop k) := by
    unfold catB
    rw [← List.flatMap_append, List.take_append_drop]
  rw [h, List.length_append]
  omega
theorem strCells_eq (s : ByteArray) : Lib.strCells s = cells8 s.data.toList := rfl
end Go.Proofs.Ytdlodflinibaoaa
