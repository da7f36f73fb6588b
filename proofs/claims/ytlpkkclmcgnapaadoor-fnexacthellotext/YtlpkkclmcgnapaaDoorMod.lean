import Derived.Test.YtlpkkclmcgnapaaDoorRows
import Derived.Test.YtlpkkclmcgnapaaDoorPlain
namespace Go.Proofs.YtlpkkclmcgnapaaDoor
open Go.ChangeShapes Go.WideShapes Go.ChangeAt Go.RowKit

end Go.Proofs.YtlpkkclmcgnapaaDoor
