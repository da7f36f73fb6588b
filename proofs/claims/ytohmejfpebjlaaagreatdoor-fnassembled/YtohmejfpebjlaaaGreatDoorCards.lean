/-
  DERIVED. GIVEN WITH THE SEED: THE CARDS: each row of YtohmejfpebjlaaaGreatDoorRows.lean that lists a variable, with what it lists TIED to the program's text (the seventh form; the later family's looks); each row that meets fmt, with fmt's text TOLD by the authors' own Lean function (tested against real Go, not proved from fmt's source: count such statements apart). THE CARD IS WHAT COUNTS. Prove the row's statement (the work); the ties are given (YtohmejfpebjlaaaGreatDoorTie.lean); close each card by the builder's one call (the guide's Derived/Test/ToyasCard.lean, 'card_holds'). Laid BY PROGRAM, IN A SANDBOX (cutbox-door.mjs). By AI agents, Wed Nov 11 2026. No macro, syntax, notation, axiom, sorry.
-/
import Derived.Test.YtohmejfpebjlaaaGreatDoorRows
import GoSem.ClaimSeven
namespace Go.Proofs.YtohmejfpebjlaaaGreatDoor
namespace Rows

/-- THE TIED CARD OF 'laws.FnInstrs'. -/
def fnInstrsCard : Claim7 := { stood := { row := fnInstrsRow, standIns := [], harness := (true, "a67b045286db864c582501da24cedbb83e37c761ad4dede5e364ab1007414c8c"), looks := true }, kinds := [], alts := [], laidByText := true, laidKinds := [.data, .data, .data, .data, .sentinel, .sentinel, .data, .pinned], laidTests := true, laidLooks := .later }
def FnInstrsCardSaid : Prop := Claim7.holds Tryz.pinned (.plain (OpenSpec.ofChange fnInstrsSpec)) fnInstrsCard

/-- THE TIED CARD OF 'laws.FnAssembled'. -/
def fnAssembledCard : Claim7 := { stood := { row := fnAssembledRow, standIns := [], harness := (true, "a67b045286db864c582501da24cedbb83e37c761ad4dede5e364ab1007414c8c"), looks := true }, kinds := [], alts := [], laidByText := true, laidKinds := [.data, .data, .data, .data, .sentinel, .sentinel, .data, .pinned], laidTests := true, laidLooks := .later }
def FnAssembledCardSaid : Prop := Claim7.holds Tryz.pinned (.plain (OpenSpec.ofChange fnAssembledSpec)) fnAssembledCard

/-- THE SECOND FORM's CARD OF 'laws.FnInstrs'. -/
def fnInstrsUptoCard : Claim7 := { stood := { row := fnInstrsUptoRow, standIns := [], harness := (true, "a67b045286db864c582501da24cedbb83e37c761ad4dede5e364ab1007414c8c"), looks := true }, kinds := [], alts := [], laidByText := true, laidKinds := [.data, .data, .data, .data, .sentinel, .sentinel, .data, .pinned], laidTests := true, laidLooks := .later }
def FnInstrsUptoCardSaid : Prop := Claim7.holds Tryz.pinned (.plain (OpenSpec.upto fnInstrsSpec)) fnInstrsUptoCard

/-- THE SECOND FORM's CARD OF 'laws.FnAssembled'. -/
def fnAssembledUptoCard : Claim7 := { stood := { row := fnAssembledUptoRow, standIns := [], harness := (true, "a67b045286db864c582501da24cedbb83e37c761ad4dede5e364ab1007414c8c"), looks := true }, kinds := [], alts := [], laidByText := true, laidKinds := [.data, .data, .data, .data, .sentinel, .sentinel, .data, .pinned], laidTests := true, laidLooks := .later }
def FnAssembledUptoCardSaid : Prop := Claim7.holds Tryz.pinned (.plain (OpenSpec.upto fnAssembledSpec)) fnAssembledUptoCard
end Rows
end Go.Proofs.YtohmejfpebjlaaaGreatDoor
