import Derived.Test.YtlmeakelcajlbaaDoorRowNOD4
import Derived.Test.YtlmeakelcajlbaaDoorLG
import Derived.Deep.DeepCutAuto
import Derived.WalkKit
import Derived.ProofKit
import Derived.OpenShut
namespace Go.Proofs.YtlmeakelcajlbaaDoor
open Go.ChangeShapes Go.WideShapes Go.ChangeAt Go.RowKit

end Go.Proofs.YtlmeakelcajlbaaDoor
