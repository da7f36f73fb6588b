import Derived.Test.YthncnffnjjclfabVo1
import Derived.Test.YthncnffnjjclfabVo2
import Derived.Test.YthncnffnjjclfabHl
namespace Go.Proofs.Ythncnffnjjclfab
open Go.ChangeShapes Go.WideShapes Go.ChangeAt Go.RowKit

end Go.Proofs.Ythncnffnjjclfab
