/-
  DERIVED. GIVEN WITH THE SEED: THE CARDS: each row of YtakacapcphbjiaaDoorRows.lean that lists a variable, with what it lists TIED to the program's text (the seventh form; the later family's looks); each row that meets fmt, with fmt's text TOLD by the authors' own Lean function (tested against real Go, not proved from fmt's source: count such statements apart). THE CARD IS WHAT COUNTS. Prove the row's statement (the work); the ties are given (YtakacapcphbjiaaDoorTie.lean); close each card by the builder's one call (the guide's Derived/Test/ToyasCard.lean, 'card_holds'). Laid BY PROGRAM, IN A SANDBOX (cutbox-door.mjs). By AI agents, Wed Nov 11 2026. No macro, syntax, notation, axiom, sorry.
-/
import Derived.Test.YtakacapcphbjiaaDoorRows
import GoSem.ClaimSeven
namespace Go.Proofs.YtakacapcphbjiaaDoor
namespace Rows

/-- THE TIED CARD OF 'laws.FnExactClockFault'. -/
def fnExactClockFaultCard : Claim7 := { stood := { row := fnExactClockFaultRow, standIns := [], harness := (true, "b76869e26625f0a191437a559d2168054659dc1a4fe8e4f6cb69e830c09beea5"), looks := true }, kinds := [], alts := [], laidByText := true, laidKinds := [.sentinel, .sentinel, .sentinel, .sentinel, .sentinel], laidTests := true, laidLooks := .later }
def FnExactClockFaultCardSaid : Prop := Claim7.holds Tryd.pinned (.plain (OpenSpec.ofChange fnExactClockFaultSpec)) fnExactClockFaultCard

/-- THE TIED CARD OF 'laws.FnExactRunClock'. -/
def fnExactRunClockCard : Claim7 := { stood := { row := fnExactRunClockRow, standIns := [], harness := (true, "b76869e26625f0a191437a559d2168054659dc1a4fe8e4f6cb69e830c09beea5"), looks := true }, kinds := [], alts := [], laidByText := true, laidKinds := [.sentinel, .sentinel, .sentinel, .sentinel, .sentinel], laidTests := true, laidLooks := .later }
def FnExactRunClockCardSaid : Prop := Claim7.holds Tryd.pinned (.plain (OpenSpec.ofChange fnExactRunClockSpec)) fnExactRunClockCard

/-- THE TIED CARD OF 'laws.FnClockParts'. -/
def fnClockPartsCard : Claim7 := { stood := { row := fnClockPartsRow, standIns := [], harness := (true, "b76869e26625f0a191437a559d2168054659dc1a4fe8e4f6cb69e830c09beea5"), looks := true }, kinds := [], alts := [], laidByText := true, laidKinds := [.sentinel, .sentinel, .sentinel, .sentinel, .sentinel], laidTests := true, laidLooks := .later }
def FnClockPartsCardSaid : Prop := Claim7.holds Tryd.pinned (.plain (OpenSpec.ofChange fnClockPartsSpec)) fnClockPartsCard

/-- THE SECOND FORM's CARD OF 'laws.FnExactClockFault'. -/
def fnExactClockFaultUptoCard : Claim7 := { stood := { row := fnExactClockFaultUptoRow, standIns := [], harness := (true, "b76869e26625f0a191437a559d2168054659dc1a4fe8e4f6cb69e830c09beea5"), looks := true }, kinds := [], alts := [], laidByText := true, laidKinds := [.sentinel, .sentinel, .sentinel, .sentinel, .sentinel], laidTests := true, laidLooks := .later }
def FnExactClockFaultUptoCardSaid : Prop := Claim7.holds Tryd.pinned (.plain (OpenSpec.upto fnExactClockFaultSpec)) fnExactClockFaultUptoCard

/-- THE SECOND FORM's CARD OF 'laws.FnExactRunClock'. -/
def fnExactRunClockUptoCard : Claim7 := { stood := { row := fnExactRunClockUptoRow, standIns := [], harness := (true, "b76869e26625f0a191437a559d2168054659dc1a4fe8e4f6cb69e830c09beea5"), looks := true }, kinds := [], alts := [], laidByText := true, laidKinds := [.sentinel, .sentinel, .sentinel, .sentinel, .sentinel], laidTests := true, laidLooks := .later }
def FnExactRunClockUptoCardSaid : Prop := Claim7.holds Tryd.pinned (.plain (OpenSpec.upto fnExactRunClockSpec)) fnExactRunClockUptoCard

/-- THE SECOND FORM's CARD OF 'laws.FnClockParts'. -/
def fnClockPartsUptoCard : Claim7 := { stood := { row := fnClockPartsUptoRow, standIns := [], harness := (true, "b76869e26625f0a191437a559d2168054659dc1a4fe8e4f6cb69e830c09beea5"), looks := true }, kinds := [], alts := [], laidByText := true, laidKinds := [.sentinel, .sentinel, .sentinel, .sentinel, .sentinel], laidTests := true, laidLooks := .later }
def FnClockPartsUptoCardSaid : Prop := Claim7.holds Tryd.pinned (.plain (OpenSpec.upto fnClockPartsSpec)) fnClockPartsUptoCard
end Rows
end Go.Proofs.YtakacapcphbjiaaDoor
