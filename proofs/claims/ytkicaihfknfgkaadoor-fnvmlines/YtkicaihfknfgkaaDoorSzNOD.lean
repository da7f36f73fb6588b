import Derived.Test.YtkicaihfknfgkaaDoorRowNOD4
import Derived.Test.YtkicaihfknfgkaaDoorLG
import Derived.Deep.DeepCutAuto
import Derived.WalkKit
import Derived.ProofKit
import Derived.OpenShut
namespace Go.Proofs.YtkicaihfknfgkaaDoor
open Go.ChangeShapes Go.WideShapes Go.ChangeAt Go.RowKit

end Go.Proofs.YtkicaihfknfgkaaDoor
