/-
  DERIVED. GIVEN WITH THE SEED: THE CARDS: each row of YtlpkkclmcgnapaaDoorRows.lean that lists a variable, with what it lists TIED to the program's text (the seventh form; the later family's looks); each row that meets fmt, with fmt's text TOLD by the authors' own Lean function (tested against real Go, not proved from fmt's source: count such statements apart). THE CARD IS WHAT COUNTS. Prove the row's statement (the work); the ties are given (YtlpkkclmcgnapaaDoorTie.lean); close each card by the builder's one call (the guide's Derived/Test/ToyasCard.lean, 'card_holds'). Laid BY PROGRAM, IN A SANDBOX (cutbox-door.mjs). By AI agents, Wed Nov 11 2026. No macro, syntax, notation, axiom, sorry.
-/
import Derived.Test.YtlpkkclmcgnapaaDoorRows
import GoSem.ClaimSeven
namespace Go.Proofs.YtlpkkclmcgnapaaDoor
namespace Rows

/-- THE TIED CARD OF 'laws.FnExactHelloText'. -/
def fnExactHelloTextCard : Claim7 := { stood := { row := fnExactHelloTextRow, standIns := [], harness := (true, "f0966800083485c3d17226107346f3a17e49a4f07dbacdb5aa265b87becc1b5b"), looks := true }, kinds := [], alts := [], laidByText := true, laidKinds := [.data, .data, .data, .data], laidTests := true, laidLooks := .later }
def FnExactHelloTextCardSaid : Prop := Claim7.holds Tryd.pinned (.plain (OpenSpec.ofChange fnExactHelloTextSpec)) fnExactHelloTextCard

/-- THE SECOND FORM's CARD OF 'laws.FnExactHelloText'. -/
def fnExactHelloTextUptoCard : Claim7 := { stood := { row := fnExactHelloTextUptoRow, standIns := [], harness := (true, "f0966800083485c3d17226107346f3a17e49a4f07dbacdb5aa265b87becc1b5b"), looks := true }, kinds := [], alts := [], laidByText := true, laidKinds := [.data, .data, .data, .data], laidTests := true, laidLooks := .later }
def FnExactHelloTextUptoCardSaid : Prop := Claim7.holds Tryd.pinned (.plain (OpenSpec.upto fnExactHelloTextSpec)) fnExactHelloTextUptoCard
end Rows
end Go.Proofs.YtlpkkclmcgnapaaDoor
