import Derived.Test.YtpggbbdfbnocfaaBytesC
namespace Go.Proofs.Ytpggbbdfbnocfaa
open Go.ChangeShapes Go.WideShapes Go.ChangeAt Go.RowKit

/-- Right memory: whole frames, one at least, 256 at most. -/
def memOk (s : ByteArray) : Bool := decide (s.size ≠ 0 ∧ s.size ≤ 65536 ∧ s.size % 256 = 0)
/-- What MemFault tells. -/
def memC (s : ByteArray) : Int := if memOk s then 0 else 1
end Go.Proofs.Ytpggbbdfbnocfaa
