import Derived.Test.YtohmejfpebjlaaaGreatDoorFault3
import Derived.Test.YtohmejfpebjlaaaGreatDoorFieldsS
namespace Go.Proofs.YtohmejfpebjlaaaGreatDoor
open Go.ChangeShapes Go.WideShapes Go.ChangeAt Go.RowKit

def isW (n : Int) : Bool := decide (0 ≤ n) && decide (n < 4294967296)
def sg (n : Int) (bits : Nat) : Int := if 2 ^ (bits - 1) ≤ n then n - 2 ^ bits else n
end Go.Proofs.YtohmejfpebjlaaaGreatDoor
