import Derived.Test.YtcglpigmellfcaaRows
import Derived.Test.YtcglpigmellfcaaPlain
namespace Go.Proofs.Ytcglpigmellfcaa
open Go.ChangeShapes Go.WideShapes Go.ChangeAt Go.RowKit

end Go.Proofs.Ytcglpigmellfcaa
