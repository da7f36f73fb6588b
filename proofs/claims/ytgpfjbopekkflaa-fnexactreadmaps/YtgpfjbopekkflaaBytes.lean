import Derived.Test.YtgpfjbopekkflaaBytesC
namespace Go.Proofs.Ytgpfjbopekkflaa
open Go.ChangeShapes Go.WideShapes Go.ChangeAt Go.RowKit

end Go.Proofs.Ytgpfjbopekkflaa
