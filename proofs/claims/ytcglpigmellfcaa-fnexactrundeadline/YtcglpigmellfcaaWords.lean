import Derived.Test.YtcglpigmellfcaaRows
import Derived.Test.YtcglpigmellfcaaMod
namespace Go.Proofs.Ytcglpigmellfcaa
open Go.ChangeShapes Go.WideShapes Go.ChangeAt Go.RowKit

end Go.Proofs.Ytcglpigmellfcaa
