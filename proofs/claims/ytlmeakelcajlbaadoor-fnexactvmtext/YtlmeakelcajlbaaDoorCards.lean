/-
  DERIVED. GIVEN WITH THE SEED: THE CARDS: each row of YtlmeakelcajlbaaDoorRows.lean that lists a variable, with what it lists TIED to the program's text (the seventh form; the later family's looks); each row that meets fmt, with fmt's text TOLD by the authors' own Lean function (tested against real Go, not proved from fmt's source: count such statements apart). THE CARD IS WHAT COUNTS. Prove the row's statement (the work); the ties are given (YtlmeakelcajlbaaDoorTie.lean); close each card by the builder's one call (the guide's Derived/Test/ToyasCard.lean, 'card_holds'). Laid BY PROGRAM, IN A SANDBOX (cutbox-door.mjs). By AI agents, Wed Nov 11 2026. No macro, syntax, notation, axiom, sorry.
-/
import Derived.Test.YtlmeakelcajlbaaDoorRows
import GoSem.ClaimSeven
namespace Go.Proofs.YtlmeakelcajlbaaDoor
namespace Rows

/-- THE TIED CARD OF 'laws.FnExactVmText'. -/
def fnExactVmTextCard : Claim7 := { stood := { row := fnExactVmTextRow, standIns := [], harness := (true, "4a1cdac6d3a289fca655f2536405eb7fc38aacb26dc191f5e9ce7b42eca009f0"), looks := false }, kinds := [], alts := [], laidByText := true, laidKinds := [.data, .data, .data], laidTests := true, laidLooks := .later }
def FnExactVmTextCardSaid : Prop := Claim7.holds Tryd.pinned (.plain (OpenSpec.ofChange fnExactVmTextSpec)) fnExactVmTextCard

/-- THE SECOND FORM's CARD OF 'laws.FnExactVmText'. -/
def fnExactVmTextUptoCard : Claim7 := { stood := { row := fnExactVmTextUptoRow, standIns := [], harness := (true, "4a1cdac6d3a289fca655f2536405eb7fc38aacb26dc191f5e9ce7b42eca009f0"), looks := false }, kinds := [], alts := [], laidByText := true, laidKinds := [.data, .data, .data], laidTests := true, laidLooks := .later }
def FnExactVmTextUptoCardSaid : Prop := Claim7.holds Tryd.pinned (.plain (OpenSpec.upto fnExactVmTextSpec)) fnExactVmTextUptoCard
end Rows
end Go.Proofs.YtlmeakelcajlbaaDoor
