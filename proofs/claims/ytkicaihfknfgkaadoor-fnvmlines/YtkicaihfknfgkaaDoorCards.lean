/-
  DERIVED. GIVEN WITH THE SEED: THE CARDS: each row of YtkicaihfknfgkaaDoorRows.lean that lists a variable, with what it lists TIED to the program's text (the seventh form; the later family's looks); each row that meets fmt, with fmt's text TOLD by the authors' own Lean function (tested against real Go, not proved from fmt's source: count such statements apart). THE CARD IS WHAT COUNTS. Prove the row's statement (the work); the ties are given (YtkicaihfknfgkaaDoorTie.lean); close each card by the builder's one call (the guide's Derived/Test/ToyasCard.lean, 'card_holds'). Laid BY PROGRAM, IN A SANDBOX (cutbox-door.mjs). By AI agents, Wed Nov 11 2026. No macro, syntax, notation, axiom, sorry.
-/
import Derived.Test.YtkicaihfknfgkaaDoorRows
import GoSem.ClaimSeven
namespace Go.Proofs.YtkicaihfknfgkaaDoor
namespace Rows

/-- THE TIED CARD OF 'laws.FnExactReadVm'. -/
def fnExactReadVmCard : Claim7 := { stood := { row := fnExactReadVmRow, standIns := [], harness := (true, "0dd58981a02f004b76fe8892952cf6761cd71cbd5ab0c27d7993d9925155ed1e"), looks := true }, kinds := [], alts := [], laidByText := true, laidKinds := [.data, .data, .data, .sentinel, .sentinel], laidTests := true, laidLooks := .later }
def FnExactReadVmCardSaid : Prop := Claim7.holds Tryd.pinned (.plain (OpenSpec.ofChange fnExactReadVmSpec)) fnExactReadVmCard

/-- THE TIED CARD OF 'laws.FnVmLines'. -/
def fnVmLinesCard : Claim7 := { stood := { row := fnVmLinesRow, standIns := [], harness := (true, "0dd58981a02f004b76fe8892952cf6761cd71cbd5ab0c27d7993d9925155ed1e"), looks := true }, kinds := [], alts := [], laidByText := true, laidKinds := [.data, .data, .data, .sentinel, .sentinel], laidTests := true, laidLooks := .later }
def FnVmLinesCardSaid : Prop := Claim7.holds Tryd.pinned (.plain (OpenSpec.ofChange fnVmLinesSpec)) fnVmLinesCard

/-- THE SECOND FORM's CARD OF 'laws.FnExactReadVm'. -/
def fnExactReadVmUptoCard : Claim7 := { stood := { row := fnExactReadVmUptoRow, standIns := [], harness := (true, "0dd58981a02f004b76fe8892952cf6761cd71cbd5ab0c27d7993d9925155ed1e"), looks := true }, kinds := [], alts := [], laidByText := true, laidKinds := [.data, .data, .data, .sentinel, .sentinel], laidTests := true, laidLooks := .later }
def FnExactReadVmUptoCardSaid : Prop := Claim7.holds Tryd.pinned (.plain (OpenSpec.upto fnExactReadVmSpec)) fnExactReadVmUptoCard

/-- THE SECOND FORM's CARD OF 'laws.FnVmLines'. -/
def fnVmLinesUptoCard : Claim7 := { stood := { row := fnVmLinesUptoRow, standIns := [], harness := (true, "0dd58981a02f004b76fe8892952cf6761cd71cbd5ab0c27d7993d9925155ed1e"), looks := true }, kinds := [], alts := [], laidByText := true, laidKinds := [.data, .data, .data, .sentinel, .sentinel], laidTests := true, laidLooks := .later }
def FnVmLinesUptoCardSaid : Prop := Claim7.holds Tryd.pinned (.plain (OpenSpec.upto fnVmLinesSpec)) fnVmLinesUptoCard
end Rows
end Go.Proofs.YtkicaihfknfgkaaDoor
