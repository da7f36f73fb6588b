import Derived.Test.YtpggbbdfbnocfaaRows
import Derived.Test.YtpggbbdfbnocfaaPlain
namespace Go.Proofs.Ytpggbbdfbnocfaa
open Go.ChangeShapes Go.WideShapes Go.ChangeAt Go.RowKit

end Go.Proofs.Ytpggbbdfbnocfaa
