/-
  NARROWER THAN 'FOR EVERY INPUT', by the rows' own cells (each row's printed sentence says how): FnClockParts: ifaces, laid.
  DERIVED. THE GIVEN ROWS OF THIS SEAT. 1 by the template 'for every input the law returns true; each argument reads behind the call as it read before'; 0 by the template 'total and deterministic' (their statements: YtegcbghhcidcaaaDoorTotals.lean).
  GIVEN WITH THE SEED: the statements are not yours to turn. If you find one false, say at which input.
  Laid BY PROGRAM, IN A SANDBOX (cutbox-rows.mjs): the forced cells as the released guide's own fill.sh prints them over the translation d08928521fd40ebf… (all of the seat's roots in one cut). By AI agents, Wed Nov 11 2026. No macro, syntax, notation, axiom, sorry.
-/
import Derived.Test.YtegcbghhcidcaaaDoorChecked
import GoSem.Claim
import GoSem.ClaimJoined
import GoSem.ClaimMapViews
import Derived.JoinedTies
import Derived.KernelRfl
namespace Go.Proofs.YtegcbghhcidcaaaDoor
/- THE CELL 'sum', in the pinned program and in every row, IS THE sha256 OF THE DUMP (.gsa) THAT YtegcbghhcidcaaaDoorProg.lean LOADS. Nothing in Lean hashes anything: it is a label: what it is worth is what the hold of that sum in a sandbox is worth. -/
noncomputable def Tryd.pinned : Pinned := { name := "ytegcbghhcidcaaadoor", sum := "d08928521fd40ebfd44a4a38d48cf51c18143747c26f25ca97462e77f9f179a6", checked := Tryd.checked }
namespace Rows
def none {H : Type} : Left H := { results := [], args := [] }

/- WHAT THE LISTED PACKAGE-LEVEL VARIABLES READ AS WHEN THE CALL BEGINS. Each datum BY PROGRAM (the guide's laid-datum.mjs) off the statement by which the dump's own 'gosem.cut.vars' lays the variable. In a bare row this is a premise. The card (YtegcbghhcidcaaaDoorCards.lean) ties it to the program's text. -/
def laid_loop_example_g00038_impl_errWrong {H : Type} : DataW H := .iface "*errors.errorString" (.ptr (.agg [.lit (.string [119, 104, 97, 116, 32, 105, 115, 32, 97, 115, 107, 101, 100, 32, 102, 111, 114, 32, 105, 115, 32, 110, 111, 110, 101, 32, 111, 102, 32, 119, 104, 97, 116, 32, 116, 104, 101, 114, 101, 32, 109, 97, 121, 32, 98, 101])]))
def laid_loop_example_g00038_impl_errFull {H : Type} : DataW H := .iface "*errors.errorString" (.ptr (.agg [.lit (.string [116, 104, 101, 114, 101, 32, 97, 114, 101, 32, 97, 115, 32, 109, 97, 110, 121, 32, 97, 115, 32, 116, 104, 101, 114, 101, 32, 109, 97, 121, 32, 98, 101])]))
def laid_loop_example_g00038_impl_errAbsent {H : Type} : DataW H := .iface "*errors.errorString" (.ptr (.agg [.lit (.string [116, 104, 101, 114, 101, 32, 105, 115, 32, 110, 111, 110, 101, 32, 111, 102, 32, 105, 116])]))
def laid_loop_example_g00038_impl_errAlready {H : Type} : DataW H := .iface "*errors.errorString" (.ptr (.agg [.lit (.string [105, 116, 32, 105, 115, 32, 115, 111, 32, 97, 108, 114, 101, 97, 100, 121])]))
def laid_loop_example_g00038_impl_errTooFar {H : Type} : DataW H := .iface "*errors.errorString" (.ptr (.agg [.lit (.string [105, 116, 32, 119, 111, 117, 108, 100, 32, 103, 111, 32, 116, 111, 111, 32, 102, 97, 114])]))

/-- 'laws.FnClockParts': WHATEVER THE INPUT: true; the input reads as it did. -/
def fnClockPartsSpec : ChangeSpec := { name := "fnClockParts", vars := ["loop.example/g00038/impl.errWrong", "loop.example/g00038/impl.errFull", "loop.example/g00038/impl.errAbsent", "loop.example/g00038/impl.errAlready", "loop.example/g00038/impl.errTooFar"], fn := fun _ => fun
  | [d1, d2, g1, g2, g3, g4, g5] => { results := [.lit (.bool true)], args := [d1, d2], vars := [g1, g2, g3, g4, g5] }
  | _ => none }
def fnClockPartsRow : OpenClaim := { program := "ytegcbghhcidcaaadoor", sum := "d08928521fd40ebfd44a4a38d48cf51c18143747c26f25ca97462e77f9f179a6", func := "loop.example/g00038/laws.FnClockParts", spec := "fnClockParts", inPlace := ["internal/reflectlite.TypeOf"], unfollowed := true, recurses := true, named := ["loop.example/g00038/impl.errWrong", "loop.example/g00038/impl.errFull", "loop.example/g00038/impl.errAbsent", "loop.example/g00038/impl.errAlready", "loop.example/g00038/impl.errTooFar"], ifaces := true, apart := false, laid := [("loop.example/g00038/impl.errWrong", laid_loop_example_g00038_impl_errWrong), ("loop.example/g00038/impl.errFull", laid_loop_example_g00038_impl_errFull), ("loop.example/g00038/impl.errAbsent", laid_loop_example_g00038_impl_errAbsent), ("loop.example/g00038/impl.errAlready", laid_loop_example_g00038_impl_errAlready), ("loop.example/g00038/impl.errTooFar", laid_loop_example_g00038_impl_errTooFar)] }
def FnClockPartsSaid : Prop := fnClockPartsRow.holds Tryd.pinned (OpenSpec.ofChange fnClockPartsSpec)

/-- ITS FALSE NEIGHBOUR: 'it returns false'. Refute it at one input. -/
def fnClockPartsWrong : ChangeSpec := { name := "fnClockParts", vars := ["loop.example/g00038/impl.errWrong", "loop.example/g00038/impl.errFull", "loop.example/g00038/impl.errAbsent", "loop.example/g00038/impl.errAlready", "loop.example/g00038/impl.errTooFar"], fn := fun _ => fun
  | [d1, d2, g1, g2, g3, g4, g5] => { results := [.lit (.bool false)], args := [d1, d2], vars := [g1, g2, g3, g4, g5] }
  | _ => none }
def FnClockPartsWrongFalsely : Prop := fnClockPartsRow.holds Tryd.pinned (OpenSpec.ofChange fnClockPartsWrong)

/- THE SECOND FORM. 'bulk': how many values and letters a reading holds, each counted each time it is reached (what is shared counts as often as it is met; a slice's spare places count too). A statement '..UptoSaid' is the law's where the arguments, and the package variables that the reading takes, are together of bulk at most 1048576: NARROWER than '..Said'. Prove '..Said' where nothing that the law and all that it calls make is longer than what came in: it says more and counts as full. Else prove '..UptoSaid'. A law counts once. -/
mutual
def uptoBulk {H : Type} : DataW H → Nat
  | .lit (.string bytes) => bytes.length + 1
  | .lit _ => 1
  | .nil => 1
  | .ptr d => uptoBulk d + 1
  | .slice elems spare => uptoBulkAll elems + uptoBulkAll spare + 1
  | .agg parts => uptoBulkAll parts + 1
  | .iface _ d => uptoBulk d + 1
  | .map entries => uptoBulkEntries entries + 1
  | .held _ => 1
def uptoBulkAll {H : Type} : List (DataW H) → Nat
  | [] => 0
  | d :: r => uptoBulk d + uptoBulkAll r
def uptoBulkEntries {H : Type} : List (Lit × DataW H) → Nat
  | [] => 0
  | x :: r => uptoBulkEntry x + uptoBulkEntries r
def uptoBulkEntry {H : Type} : Lit × DataW H → Nat
  | (.string bytes, d) => bytes.length + uptoBulk d + 1
  | (_, d) => uptoBulk d + 1
 end
def uptoSmall : (H : Type) → List (DataW H) → Bool := fun _ ds => decide (uptoBulkAll ds ≤ 1048576)
def OpenSpec.upto (s : _root_.Go.ChangeSpec) : _root_.Go.OpenSpec := { _root_.Go.OpenSpec.ofChange s with cond := some uptoSmall }

/-- 'laws.FnClockParts', WHERE WHAT IT READS IS OF BULK AT MOST 1048576: true; the input reads as it did. -/
def fnClockPartsUptoRow : OpenClaim := { program := "ytegcbghhcidcaaadoor", sum := "d08928521fd40ebfd44a4a38d48cf51c18143747c26f25ca97462e77f9f179a6", func := "loop.example/g00038/laws.FnClockParts", spec := "fnClockParts", inPlace := ["internal/reflectlite.TypeOf"], unfollowed := true, recurses := true, named := ["loop.example/g00038/impl.errWrong", "loop.example/g00038/impl.errFull", "loop.example/g00038/impl.errAbsent", "loop.example/g00038/impl.errAlready", "loop.example/g00038/impl.errTooFar"], ifaces := true, apart := false, laid := [("loop.example/g00038/impl.errWrong", laid_loop_example_g00038_impl_errWrong), ("loop.example/g00038/impl.errFull", laid_loop_example_g00038_impl_errFull), ("loop.example/g00038/impl.errAbsent", laid_loop_example_g00038_impl_errAbsent), ("loop.example/g00038/impl.errAlready", laid_loop_example_g00038_impl_errAlready), ("loop.example/g00038/impl.errTooFar", laid_loop_example_g00038_impl_errTooFar)], narrowed := true }
def FnClockPartsUptoSaid : Prop := fnClockPartsUptoRow.holds Tryd.pinned (OpenSpec.upto fnClockPartsSpec)

end Rows
end Go.Proofs.YtegcbghhcidcaaaDoor
