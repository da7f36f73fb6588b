import Derived.Test.YthncnffnjjclfabOv1
namespace Go.Proofs.Ythncnffnjjclfab
open Go.ChangeShapes Go.WideShapes Go.ChangeAt Go.RowKit

end Go.Proofs.Ythncnffnjjclfab
