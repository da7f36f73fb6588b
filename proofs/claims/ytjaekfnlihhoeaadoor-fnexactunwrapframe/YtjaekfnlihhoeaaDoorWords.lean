import Derived.Test.YtjaekfnlihhoeaaDoorRows
import Derived.Test.YtjaekfnlihhoeaaDoorMod
namespace Go.Proofs.YtjaekfnlihhoeaaDoor
open Go.ChangeShapes Go.WideShapes Go.ChangeAt Go.RowKit

end Go.Proofs.YtjaekfnlihhoeaaDoor
