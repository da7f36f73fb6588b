import Derived.Test.YthncnffnjjclfaaRt3
namespace Go.Proofs.Ythncnffnjjclfaa
open Go.ChangeShapes Go.WideShapes Go.ChangeAt Go.RowKit

end Go.Proofs.Ythncnffnjjclfaa
