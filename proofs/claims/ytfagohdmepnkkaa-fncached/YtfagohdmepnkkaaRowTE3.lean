import Derived.Test.YtfagohdmepnkkaaRowTE2
namespace Go.Proofs.Ytfagohdmepnkkaa
open Go.ChangeShapes Go.WideShapes Go.ChangeAt Go.RowKit

def te0 : TE := ⟨0, 0, 0, 0, false⟩
end Go.Proofs.Ytfagohdmepnkkaa
