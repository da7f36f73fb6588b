import Derived.Test.YtfagohdmepnkkaaWalkYesS
import Derived.Test.YtfagohdmepnkkaaPWk8
import Derived.Test.YtfagohdmepnkkaaWalkNo
namespace Go.Proofs.Ytfagohdmepnkkaa
open Go.ChangeShapes Go.WideShapes Go.ChangeAt Go.RowKit

theorem implWalk_yes (s : ByteArray) (root va : Nat) (acc : Int) (user : Bool) (w : World) (hm : memOk s = true) (r1 : root ≤ 255) (v1 : va ≤ 262143) (a1 : 1 ≤ acc) (a2 : acc ≤ 3) :
    Calls Try.prog 28 #[.string s, .int .i64 root, .int .i64 va, .int .i64 acc, .bool user] w fun e w' => ∃ v, e = .returned (wkA (walkV s root va acc user) v) ∧ w'.ownsRow w.heap.size 2 1 v (walkV s root va acc user).reads.length ((walkV s root va acc user).reads.map (Value.int .i64)) ∧ Below w.heap.size w w' := by
  by_cases hf : (walkV s root va acc user).fault = 0
  · exact implWalk_good s root va acc user w hm r1 v1 a1 a2 hf
  · exact implWalk_bad s root va acc user w hm r1 v1 a1 a2 hf
end Go.Proofs.Ytfagohdmepnkkaa
