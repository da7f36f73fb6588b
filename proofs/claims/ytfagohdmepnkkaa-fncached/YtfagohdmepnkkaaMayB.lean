import Derived.Test.YtfagohdmepnkkaaPWk1
import Derived.Test.YtfagohdmepnkkaaSWalkP
import Derived.Test.YtfagohdmepnkkaaFlg
import Derived.Test.YtfagohdmepnkkaaLawTF
import Derived.Deep.RegionWith
import Derived.Deep.QuietTactic
import Derived.BigQuiet
namespace Go.Proofs.Ytfagohdmepnkkaa
open Go.ChangeShapes Go.WideShapes Go.ChangeAt Go.RowKit

end Go.Proofs.Ytfagohdmepnkkaa
