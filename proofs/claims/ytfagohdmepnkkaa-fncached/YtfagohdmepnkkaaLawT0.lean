import Derived.Test.YtfagohdmepnkkaaLawTF
namespace Go.Proofs.Ytfagohdmepnkkaa
open Go.ChangeShapes Go.WideShapes Go.ChangeAt Go.RowKit

end Go.Proofs.Ytfagohdmepnkkaa
