import Derived.Test.YthhbfghbpapklabSp2
import Derived.Test.YthhbfghbpapklabPb1
namespace Go.Proofs.Ythhbfghbpapklab
open Go.ChangeShapes Go.WideShapes Go.ChangeAt Go.RowKit

theorem rb_convC (u : World) (S : ByteArray) : RB (Lib.bytesWorld u 5 S) u.heap.size S := by
  refine ⟨fun j v hv => ?_, fun j hj => bw_frozen u S j hj, by rw [Lib.bytesWorld_size]; omega⟩
  have hj : j < S.size := by
    have := (List.getElem?_eq_some_iff.1 hv).1
    rw [c8len] at this
    exact this
  rw [bw_cell u S j hj]
  have hj' : j < S.data.toList.length := by simpa using hj
  simp [cells8, List.getElem?_eq_getElem hj'] at hv
  rw [← bt_list S j hj, ← hv]
  simp [List.getD, List.getElem?_eq_getElem hj']
theorem da_convC (u : World) (S : ByteArray) : DA (Lib.bytesWorld u 5 S) u.heap.size 0 S :=
  ⟨fun j v hv => by rw [Nat.zero_add]; exact (rb_convC u S).cel j v hv, (rb_convC u S).lt⟩
end Go.Proofs.Ythhbfghbpapklab
