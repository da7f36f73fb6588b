/-
  DERIVED. GIVEN WITH THE SEED: THE CARDS: each row of YtjaekfnlihhoeaaDoorRows.lean that lists a variable, with what it lists TIED to the program's text (the seventh form; the later family's looks); each row that meets fmt, with fmt's text TOLD by the authors' own Lean function (tested against real Go, not proved from fmt's source: count such statements apart). THE CARD IS WHAT COUNTS. Prove the row's statement (the work); the ties are given (YtjaekfnlihhoeaaDoorTie.lean); close each card by the builder's one call (the guide's Derived/Test/ToyasCard.lean, 'card_holds'). Laid BY PROGRAM, IN A SANDBOX (cutbox-door.mjs). By AI agents, Wed Nov 11 2026. No macro, syntax, notation, axiom, sorry.
-/
import Derived.Test.YtjaekfnlihhoeaaDoorRows
import GoSem.ClaimSeven
namespace Go.Proofs.YtjaekfnlihhoeaaDoor
namespace Rows

/-- THE TIED CARD OF 'laws.FnExactUnwrapFrame'. -/
def fnExactUnwrapFrameCard : Claim7 := { stood := { row := fnExactUnwrapFrameRow, standIns := [], harness := (true, "12118f1dec7399485751120c2cccd7cbe8e8e2b691acca2293df1c2bd43b997f"), looks := true }, kinds := [], alts := [], laidByText := true, laidKinds := [.handle], laidTests := true, laidLooks := .later }
def FnExactUnwrapFrameCardSaid : Prop := Claim7.holds Tryd.pinned (.plain (OpenSpec.ofChange fnExactUnwrapFrameSpec)) fnExactUnwrapFrameCard

/-- THE SECOND FORM's CARD OF 'laws.FnExactUnwrapFrame'. -/
def fnExactUnwrapFrameUptoCard : Claim7 := { stood := { row := fnExactUnwrapFrameUptoRow, standIns := [], harness := (true, "12118f1dec7399485751120c2cccd7cbe8e8e2b691acca2293df1c2bd43b997f"), looks := true }, kinds := [], alts := [], laidByText := true, laidKinds := [.handle], laidTests := true, laidLooks := .later }
def FnExactUnwrapFrameUptoCardSaid : Prop := Claim7.holds Tryd.pinned (.plain (OpenSpec.upto fnExactUnwrapFrameSpec)) fnExactUnwrapFrameUptoCard
end Rows
end Go.Proofs.YtjaekfnlihhoeaaDoor
