import Derived.Test.YtkicaihfknfgkaaDoorForm
namespace Go.Proofs.YtkicaihfknfgkaaDoor
open Go.ChangeShapes Go.WideShapes Go.ChangeAt Go.RowKit

def reg (n : Int) (used v : Bool) : Bool := if used = true then decide (0 ≤ n) && (decide (n < 4) || (decide (n < 16) && !v)) else n == 0
def immOk (op imm : Int) : Bool := if op = 20 then decide (0 ≤ imm) && decide (imm < 1048576) else if op = 36 then decide (-524288 ≤ imm) && decide (imm < 524288) else decide (-2048 ≤ imm) && decide (imm < 2048)

end Go.Proofs.YtkicaihfknfgkaaDoor
