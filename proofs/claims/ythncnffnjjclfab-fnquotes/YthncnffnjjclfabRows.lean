/-
  No cell of these rows narrows 'for every input' (looked for: loops, veiled, ifaces, maps, wideKeys, modest, calm, conditions, laid).
  DERIVED. THE GIVEN ROWS OF THIS SEAT. 4 by the template 'for every input the law returns true; each argument reads behind the call as it read before'; 0 by the template 'total and deterministic' (their statements: YthncnffnjjclfabTotals.lean).
  GIVEN WITH THE SEED: the statements are not yours to turn. If you find one false, say at which input.
  Laid BY PROGRAM, IN A SANDBOX (cutbox-rows.mjs): the forced cells as the released guide's own fill.sh prints them over the translation 3896085197abd1b0… (all of the seat's roots in one cut). By AI agents, Wed Nov 11 2026. No macro, syntax, notation, axiom, sorry.
-/
import Derived.Test.YthncnffnjjclfabChecked
import GoSem.Claim
import GoSem.ClaimJoined
import GoSem.ClaimMapViews
import Derived.JoinedTies
import Derived.KernelRfl
namespace Go.Proofs.Ythncnffnjjclfab
/- THE CELL 'sum', in the pinned program and in every row, IS THE sha256 OF THE DUMP (.gsa) THAT YthncnffnjjclfabProg.lean LOADS. Nothing in Lean hashes anything: it is a label: what it is worth is what the hold of that sum in a sandbox is worth. -/
noncomputable def Try.pinned : Pinned := { name := "ythncnffnjjclfab", sum := "3896085197abd1b039c571c8e88bdd86d5fe04cdf52884970b97d0e7848cf922", checked := Try.checked }
namespace Rows
def none {H : Type} : Left H := { results := [], args := [] }

/-- 'laws.FnExactDropPass': WHATEVER THE INPUT: true; the input reads as it did. -/
def fnExactDropPassSpec : ChangeSpec := { name := "fnExactDropPass", fn := fun _ => fun
  | [d1, d2] => { results := [.lit (.bool true)], args := [d1, d2] }
  | _ => none }
def fnExactDropPassRow : OpenClaim := { program := "ythncnffnjjclfab", sum := "3896085197abd1b039c571c8e88bdd86d5fe04cdf52884970b97d0e7848cf922", func := "loop.example/g00038/laws.FnExactDropPass", spec := "fnExactDropPass", unfollowed := true, recurses := true, apart := false }
def FnExactDropPassSaid : Prop := fnExactDropPassRow.holds Try.pinned (OpenSpec.ofChange fnExactDropPassSpec)

/-- ITS FALSE NEIGHBOUR: 'it returns false'. Refute it at one input. -/
def fnExactDropPassWrong : ChangeSpec := { name := "fnExactDropPass", fn := fun _ => fun
  | [d1, d2] => { results := [.lit (.bool false)], args := [d1, d2] }
  | _ => none }
def FnExactDropPassWrongFalsely : Prop := fnExactDropPassRow.holds Try.pinned (OpenSpec.ofChange fnExactDropPassWrong)

/-- 'laws.FnExactMeasure': WHATEVER THE INPUT: true; the input reads as it did. -/
def fnExactMeasureSpec : ChangeSpec := { name := "fnExactMeasure", fn := fun _ => fun
  | [d1, d2] => { results := [.lit (.bool true)], args := [d1, d2] }
  | _ => none }
def fnExactMeasureRow : OpenClaim := { program := "ythncnffnjjclfab", sum := "3896085197abd1b039c571c8e88bdd86d5fe04cdf52884970b97d0e7848cf922", func := "loop.example/g00038/laws.FnExactMeasure", spec := "fnExactMeasure", unfollowed := true, recurses := true, apart := false }
def FnExactMeasureSaid : Prop := fnExactMeasureRow.holds Try.pinned (OpenSpec.ofChange fnExactMeasureSpec)

/-- ITS FALSE NEIGHBOUR: 'it returns false'. Refute it at one input. -/
def fnExactMeasureWrong : ChangeSpec := { name := "fnExactMeasure", fn := fun _ => fun
  | [d1, d2] => { results := [.lit (.bool false)], args := [d1, d2] }
  | _ => none }
def FnExactMeasureWrongFalsely : Prop := fnExactMeasureRow.holds Try.pinned (OpenSpec.ofChange fnExactMeasureWrong)

/-- 'laws.FnQuotes': WHATEVER THE INPUT: true; the input reads as it did. -/
def fnQuotesSpec : ChangeSpec := { name := "fnQuotes", fn := fun _ => fun
  | [d] => { results := [.lit (.bool true)], args := [d] }
  | _ => none }
def fnQuotesRow : OpenClaim := { program := "ythncnffnjjclfab", sum := "3896085197abd1b039c571c8e88bdd86d5fe04cdf52884970b97d0e7848cf922", func := "loop.example/g00038/laws.FnQuotes", spec := "fnQuotes", unfollowed := true, recurses := true, apart := false }
def FnQuotesSaid : Prop := fnQuotesRow.holds Try.pinned (OpenSpec.ofChange fnQuotesSpec)

/-- ITS FALSE NEIGHBOUR: 'it returns false'. Refute it at one input. -/
def fnQuotesWrong : ChangeSpec := { name := "fnQuotes", fn := fun _ => fun
  | [d] => { results := [.lit (.bool false)], args := [d] }
  | _ => none }
def FnQuotesWrongFalsely : Prop := fnQuotesRow.holds Try.pinned (OpenSpec.ofChange fnQuotesWrong)

/-- 'laws.FnSealed': WHATEVER THE INPUT: true; the input reads as it did. -/
def fnSealedSpec : ChangeSpec := { name := "fnSealed", fn := fun _ => fun
  | [d1, d2] => { results := [.lit (.bool true)], args := [d1, d2] }
  | _ => none }
def fnSealedRow : OpenClaim := { program := "ythncnffnjjclfab", sum := "3896085197abd1b039c571c8e88bdd86d5fe04cdf52884970b97d0e7848cf922", func := "loop.example/g00038/laws.FnSealed", spec := "fnSealed", unfollowed := true, recurses := true, apart := false }
def FnSealedSaid : Prop := fnSealedRow.holds Try.pinned (OpenSpec.ofChange fnSealedSpec)

/-- ITS FALSE NEIGHBOUR: 'it returns false'. Refute it at one input. -/
def fnSealedWrong : ChangeSpec := { name := "fnSealed", fn := fun _ => fun
  | [d1, d2] => { results := [.lit (.bool false)], args := [d1, d2] }
  | _ => none }
def FnSealedWrongFalsely : Prop := fnSealedRow.holds Try.pinned (OpenSpec.ofChange fnSealedWrong)

/- THE SECOND FORM. 'bulk': how many values and letters a reading holds, each counted each time it is reached (what is shared counts as often as it is met; a slice's spare places count too). A statement '..UptoSaid' is the law's where the arguments, and the package variables that the reading takes, are together of bulk at most 1048576: NARROWER than '..Said'. Prove '..Said' where nothing that the law and all that it calls make is longer than what came in: it says more and counts as full. Else prove '..UptoSaid'. A law counts once. -/
mutual
def uptoBulk {H : Type} : DataW H → Nat
  | .lit (.string bytes) => bytes.length + 1
  | .lit _ => 1
  | .nil => 1
  | .ptr d => uptoBulk d + 1
  | .slice elems spare => uptoBulkAll elems + uptoBulkAll spare + 1
  | .agg parts => uptoBulkAll parts + 1
  | .iface _ d => uptoBulk d + 1
  | .map entries => uptoBulkEntries entries + 1
  | .held _ => 1
def uptoBulkAll {H : Type} : List (DataW H) → Nat
  | [] => 0
  | d :: r => uptoBulk d + uptoBulkAll r
def uptoBulkEntries {H : Type} : List (Lit × DataW H) → Nat
  | [] => 0
  | x :: r => uptoBulkEntry x + uptoBulkEntries r
def uptoBulkEntry {H : Type} : Lit × DataW H → Nat
  | (.string bytes, d) => bytes.length + uptoBulk d + 1
  | (_, d) => uptoBulk d + 1
 end
def uptoSmall : (H : Type) → List (DataW H) → Bool := fun _ ds => decide (uptoBulkAll ds ≤ 1048576)
def OpenSpec.upto (s : _root_.Go.ChangeSpec) : _root_.Go.OpenSpec := { _root_.Go.OpenSpec.ofChange s with cond := some uptoSmall }

/-- 'laws.FnExactDropPass', WHERE WHAT IT READS IS OF BULK AT MOST 1048576: true; the input reads as it did. -/
def fnExactDropPassUptoRow : OpenClaim := { program := "ythncnffnjjclfab", sum := "3896085197abd1b039c571c8e88bdd86d5fe04cdf52884970b97d0e7848cf922", func := "loop.example/g00038/laws.FnExactDropPass", spec := "fnExactDropPass", unfollowed := true, recurses := true, apart := false, narrowed := true }
def FnExactDropPassUptoSaid : Prop := fnExactDropPassUptoRow.holds Try.pinned (OpenSpec.upto fnExactDropPassSpec)

/-- 'laws.FnExactMeasure', WHERE WHAT IT READS IS OF BULK AT MOST 1048576: true; the input reads as it did. -/
def fnExactMeasureUptoRow : OpenClaim := { program := "ythncnffnjjclfab", sum := "3896085197abd1b039c571c8e88bdd86d5fe04cdf52884970b97d0e7848cf922", func := "loop.example/g00038/laws.FnExactMeasure", spec := "fnExactMeasure", unfollowed := true, recurses := true, apart := false, narrowed := true }
def FnExactMeasureUptoSaid : Prop := fnExactMeasureUptoRow.holds Try.pinned (OpenSpec.upto fnExactMeasureSpec)

/-- 'laws.FnQuotes', WHERE WHAT IT READS IS OF BULK AT MOST 1048576: true; the input reads as it did. -/
def fnQuotesUptoRow : OpenClaim := { program := "ythncnffnjjclfab", sum := "3896085197abd1b039c571c8e88bdd86d5fe04cdf52884970b97d0e7848cf922", func := "loop.example/g00038/laws.FnQuotes", spec := "fnQuotes", unfollowed := true, recurses := true, apart := false, narrowed := true }
def FnQuotesUptoSaid : Prop := fnQuotesUptoRow.holds Try.pinned (OpenSpec.upto fnQuotesSpec)

/-- 'laws.FnSealed', WHERE WHAT IT READS IS OF BULK AT MOST 1048576: true; the input reads as it did. -/
def fnSealedUptoRow : OpenClaim := { program := "ythncnffnjjclfab", sum := "3896085197abd1b039c571c8e88bdd86d5fe04cdf52884970b97d0e7848cf922", func := "loop.example/g00038/laws.FnSealed", spec := "fnSealed", unfollowed := true, recurses := true, apart := false, narrowed := true }
def FnSealedUptoSaid : Prop := fnSealedUptoRow.holds Try.pinned (OpenSpec.upto fnSealedSpec)

end Rows
end Go.Proofs.Ythncnffnjjclfab
