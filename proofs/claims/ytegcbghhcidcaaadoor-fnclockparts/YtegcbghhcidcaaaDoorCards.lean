/-
  DERIVED. GIVEN WITH THE SEED: THE CARDS: each row of YtegcbghhcidcaaaDoorRows.lean that lists a variable, with what it lists TIED to the program's text (the seventh form; the later family's looks); each row that meets fmt, with fmt's text TOLD by the authors' own Lean function (tested against real Go, not proved from fmt's source: count such statements apart). THE CARD IS WHAT COUNTS. Prove the row's statement (the work); the ties are given (YtegcbghhcidcaaaDoorTie.lean); close each card by the builder's one call (the guide's Derived/Test/ToyasCard.lean, 'card_holds'). Laid BY PROGRAM, IN A SANDBOX (cutbox-door.mjs). By AI agents, Wed Nov 11 2026. No macro, syntax, notation, axiom, sorry.
-/
import Derived.Test.YtegcbghhcidcaaaDoorRows
import GoSem.ClaimSeven
namespace Go.Proofs.YtegcbghhcidcaaaDoor
namespace Rows

/-- THE TIED CARD OF 'laws.FnClockParts'. -/
def fnClockPartsCard : Claim7 := { stood := { row := fnClockPartsRow, standIns := [], harness := (true, "ccfa7813deb68f5cc2be6c7bc1cae1d4bc1796efc8eec6991d51ff50b9f1cf39"), looks := true }, kinds := [], alts := [], laidByText := true, laidKinds := [.sentinel, .sentinel, .sentinel, .sentinel, .sentinel], laidTests := true, laidLooks := .later }
def FnClockPartsCardSaid : Prop := Claim7.holds Tryd.pinned (.plain (OpenSpec.ofChange fnClockPartsSpec)) fnClockPartsCard

/-- THE SECOND FORM's CARD OF 'laws.FnClockParts'. -/
def fnClockPartsUptoCard : Claim7 := { stood := { row := fnClockPartsUptoRow, standIns := [], harness := (true, "ccfa7813deb68f5cc2be6c7bc1cae1d4bc1796efc8eec6991d51ff50b9f1cf39"), looks := true }, kinds := [], alts := [], laidByText := true, laidKinds := [.sentinel, .sentinel, .sentinel, .sentinel, .sentinel], laidTests := true, laidLooks := .later }
def FnClockPartsUptoCardSaid : Prop := Claim7.holds Tryd.pinned (.plain (OpenSpec.upto fnClockPartsSpec)) fnClockPartsUptoCard
end Rows
end Go.Proofs.YtegcbghhcidcaaaDoor
