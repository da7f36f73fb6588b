import Derived.Test.YtblmodlpopnckaaRowS
namespace Go.Proofs.Ytblmodlpopnckaa
open Go.ChangeShapes Go.WideShapes Go.ChangeAt Go.RowKit

/-- Bytes 0. -/
def zerL (M : Nat) : List UInt8 := List.replicate M 0
/-- A cell of bytes 0. -/
def z16 : ByteArray := ⟨(zerL 16).toArray⟩
end Go.Proofs.Ytblmodlpopnckaa
