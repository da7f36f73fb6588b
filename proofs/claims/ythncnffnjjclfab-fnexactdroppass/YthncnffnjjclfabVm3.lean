import Derived.Test.YthncnffnjjclfabVm2
import Derived.Deep.DeepCutAuto
namespace Go.Proofs.Ythncnffnjjclfab
open Go.ChangeShapes Go.WideShapes Go.ChangeAt Go.RowKit

end Go.Proofs.Ythncnffnjjclfab
