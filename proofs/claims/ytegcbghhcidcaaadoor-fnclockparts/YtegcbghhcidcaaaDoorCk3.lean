import Derived.Test.YtegcbghhcidcaaaDoorCk2
namespace Go.Proofs.YtegcbghhcidcaaaDoor
open Go.ChangeShapes Go.WideShapes Go.ChangeAt Go.RowKit

/-- The fault of a clock, as a number. -/
def fcB (c : CK) : Int := if ckB c = true then 0 else 1
end Go.Proofs.YtegcbghhcidcaaaDoor
