import Derived.Test.YtlpkkclmcgnapaaDoorRows
import Derived.Test.YtlpkkclmcgnapaaDoorMod
namespace Go.Proofs.YtlpkkclmcgnapaaDoor
open Go.ChangeShapes Go.WideShapes Go.ChangeAt Go.RowKit

end Go.Proofs.YtlpkkclmcgnapaaDoor
