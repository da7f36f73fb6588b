import Derived.Test.YtlpkkclmcgnapaaDoorText2
import Derived.Test.YtlpkkclmcgnapaaDoorSEnc
namespace Go.Proofs.YtlpkkclmcgnapaaDoor
open Go.ChangeShapes Go.WideShapes Go.ChangeAt Go.RowKit

/-- An instruction's text; of one with a fault: the empty one. -/
def iT (op a b c imm : Int) : ByteArray := if isOk op a b c imm = true then txt op a b c imm ⟨#[]⟩ else ⟨#[]⟩
end Go.Proofs.YtlpkkclmcgnapaaDoor
