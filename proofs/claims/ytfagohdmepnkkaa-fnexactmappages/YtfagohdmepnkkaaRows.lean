/-
  No cell of these rows narrows 'for every input' (looked for: loops, veiled, ifaces, maps, wideKeys, modest, calm, conditions, laid).
  DERIVED. THE GIVEN ROWS OF THIS SEAT. 5 by the template 'for every input the law returns true; each argument reads behind the call as it read before'; 0 by the template 'total and deterministic' (their statements: YtfagohdmepnkkaaTotals.lean).
  GIVEN WITH THE SEED: the statements are not yours to turn. If you find one false, say at which input.
  Laid BY PROGRAM, IN A SANDBOX (cutbox-rows.mjs): the forced cells as the released guide's own fill.sh prints them over the translation 31b8d060920006aa… (all of the seat's roots in one cut). By AI agents, Wed Nov 11 2026. No macro, syntax, notation, axiom, sorry.
-/
import Derived.Test.YtfagohdmepnkkaaChecked
import GoSem.Claim
import GoSem.ClaimJoined
import GoSem.ClaimMapViews
import Derived.JoinedTies
import Derived.KernelRfl
namespace Go.Proofs.Ytfagohdmepnkkaa
/- THE CELL 'sum', in the pinned program and in every row, IS THE sha256 OF THE DUMP (.gsa) THAT YtfagohdmepnkkaaProg.lean LOADS. Nothing in Lean hashes anything: it is a label: what it is worth is what the hold of that sum in a sandbox is worth. -/
noncomputable def Try.pinned : Pinned := { name := "ytfagohdmepnkkaa", sum := "31b8d060920006aafae1ccdfba2487e36b691d289950e7723007dcee42c1fba6", checked := Try.checked }
namespace Rows
def none {H : Type} : Left H := { results := [], args := [] }

/-- 'laws.FnExactWalkTwo': WHATEVER THE INPUT: true; the input reads as it did. -/
def fnExactWalkTwoSpec : ChangeSpec := { name := "fnExactWalkTwo", fn := fun _ => fun
  | [d1, d2, d3, d4, d5, d6] => { results := [.lit (.bool true)], args := [d1, d2, d3, d4, d5, d6] }
  | _ => none }
def fnExactWalkTwoRow : OpenClaim := { program := "ytfagohdmepnkkaa", sum := "31b8d060920006aafae1ccdfba2487e36b691d289950e7723007dcee42c1fba6", func := "loop.example/g00038/laws.FnExactWalkTwo", spec := "fnExactWalkTwo", unfollowed := true, recurses := true, apart := false }
def FnExactWalkTwoSaid : Prop := fnExactWalkTwoRow.holds Try.pinned (OpenSpec.ofChange fnExactWalkTwoSpec)

/-- ITS FALSE NEIGHBOUR: 'it returns false'. Refute it at one input. -/
def fnExactWalkTwoWrong : ChangeSpec := { name := "fnExactWalkTwo", fn := fun _ => fun
  | [d1, d2, d3, d4, d5, d6] => { results := [.lit (.bool false)], args := [d1, d2, d3, d4, d5, d6] }
  | _ => none }
def FnExactWalkTwoWrongFalsely : Prop := fnExactWalkTwoRow.holds Try.pinned (OpenSpec.ofChange fnExactWalkTwoWrong)

/-- 'laws.FnExactMapPages': WHATEVER THE INPUT: true; the input reads as it did. -/
def fnExactMapPagesSpec : ChangeSpec := { name := "fnExactMapPages", fn := fun _ => fun
  | [d1, d2, d3, d4] => { results := [.lit (.bool true)], args := [d1, d2, d3, d4] }
  | _ => none }
def fnExactMapPagesRow : OpenClaim := { program := "ytfagohdmepnkkaa", sum := "31b8d060920006aafae1ccdfba2487e36b691d289950e7723007dcee42c1fba6", func := "loop.example/g00038/laws.FnExactMapPages", spec := "fnExactMapPages", unfollowed := true, recurses := true, apart := false }
def FnExactMapPagesSaid : Prop := fnExactMapPagesRow.holds Try.pinned (OpenSpec.ofChange fnExactMapPagesSpec)

/-- ITS FALSE NEIGHBOUR: 'it returns false'. Refute it at one input. -/
def fnExactMapPagesWrong : ChangeSpec := { name := "fnExactMapPages", fn := fun _ => fun
  | [d1, d2, d3, d4] => { results := [.lit (.bool false)], args := [d1, d2, d3, d4] }
  | _ => none }
def FnExactMapPagesWrongFalsely : Prop := fnExactMapPagesRow.holds Try.pinned (OpenSpec.ofChange fnExactMapPagesWrong)

/-- 'laws.FnExactGivePacked': WHATEVER THE INPUT: true; the input reads as it did. -/
def fnExactGivePackedSpec : ChangeSpec := { name := "fnExactGivePacked", fn := fun _ => fun
  | [d1, d2, d3, d4, d5] => { results := [.lit (.bool true)], args := [d1, d2, d3, d4, d5] }
  | _ => none }
def fnExactGivePackedRow : OpenClaim := { program := "ytfagohdmepnkkaa", sum := "31b8d060920006aafae1ccdfba2487e36b691d289950e7723007dcee42c1fba6", func := "loop.example/g00038/laws.FnExactGivePacked", spec := "fnExactGivePacked", apart := false }
def FnExactGivePackedSaid : Prop := fnExactGivePackedRow.holds Try.pinned (OpenSpec.ofChange fnExactGivePackedSpec)

/-- ITS FALSE NEIGHBOUR: 'it returns false'. Refute it at one input. -/
def fnExactGivePackedWrong : ChangeSpec := { name := "fnExactGivePacked", fn := fun _ => fun
  | [d1, d2, d3, d4, d5] => { results := [.lit (.bool false)], args := [d1, d2, d3, d4, d5] }
  | _ => none }
def FnExactGivePackedWrongFalsely : Prop := fnExactGivePackedRow.holds Try.pinned (OpenSpec.ofChange fnExactGivePackedWrong)

/-- 'laws.FnWalked': WHATEVER THE INPUT: true; the input reads as it did. -/
def fnWalkedSpec : ChangeSpec := { name := "fnWalked", fn := fun _ => fun
  | [d] => { results := [.lit (.bool true)], args := [d] }
  | _ => none }
def fnWalkedRow : OpenClaim := { program := "ytfagohdmepnkkaa", sum := "31b8d060920006aafae1ccdfba2487e36b691d289950e7723007dcee42c1fba6", func := "loop.example/g00038/laws.FnWalked", spec := "fnWalked", unfollowed := true, recurses := true, apart := false }
def FnWalkedSaid : Prop := fnWalkedRow.holds Try.pinned (OpenSpec.ofChange fnWalkedSpec)

/-- ITS FALSE NEIGHBOUR: 'it returns false'. Refute it at one input. -/
def fnWalkedWrong : ChangeSpec := { name := "fnWalked", fn := fun _ => fun
  | [d] => { results := [.lit (.bool false)], args := [d] }
  | _ => none }
def FnWalkedWrongFalsely : Prop := fnWalkedRow.holds Try.pinned (OpenSpec.ofChange fnWalkedWrong)

/-- 'laws.FnCached': WHATEVER THE INPUT: true; the input reads as it did. -/
def fnCachedSpec : ChangeSpec := { name := "fnCached", fn := fun _ => fun
  | [d1, d2] => { results := [.lit (.bool true)], args := [d1, d2] }
  | _ => none }
def fnCachedRow : OpenClaim := { program := "ytfagohdmepnkkaa", sum := "31b8d060920006aafae1ccdfba2487e36b691d289950e7723007dcee42c1fba6", func := "loop.example/g00038/laws.FnCached", spec := "fnCached", unfollowed := true, recurses := true, apart := false }
def FnCachedSaid : Prop := fnCachedRow.holds Try.pinned (OpenSpec.ofChange fnCachedSpec)

/-- ITS FALSE NEIGHBOUR: 'it returns false'. Refute it at one input. -/
def fnCachedWrong : ChangeSpec := { name := "fnCached", fn := fun _ => fun
  | [d1, d2] => { results := [.lit (.bool false)], args := [d1, d2] }
  | _ => none }
def FnCachedWrongFalsely : Prop := fnCachedRow.holds Try.pinned (OpenSpec.ofChange fnCachedWrong)

/- THE SECOND FORM. 'bulk': how many values and letters a reading holds, each counted each time it is reached (what is shared counts as often as it is met; a slice's spare places count too). A statement '..UptoSaid' is the law's where the arguments, and the package variables that the reading takes, are together of bulk at most 1048576: NARROWER than '..Said'. Prove '..Said' where nothing that the law and all that it calls make is longer than what came in: it says more and counts as full. Else prove '..UptoSaid'. A law counts once. -/
mutual
def uptoBulk {H : Type} : DataW H → Nat
  | .lit (.string bytes) => bytes.length + 1
  | .lit _ => 1
  | .nil => 1
  | .ptr d => uptoBulk d + 1
  | .slice elems spare => uptoBulkAll elems + uptoBulkAll spare + 1
  | .agg parts => uptoBulkAll parts + 1
  | .iface _ d => uptoBulk d + 1
  | .map entries => uptoBulkEntries entries + 1
  | .held _ => 1
def uptoBulkAll {H : Type} : List (DataW H) → Nat
  | [] => 0
  | d :: r => uptoBulk d + uptoBulkAll r
def uptoBulkEntries {H : Type} : List (Lit × DataW H) → Nat
  | [] => 0
  | x :: r => uptoBulkEntry x + uptoBulkEntries r
def uptoBulkEntry {H : Type} : Lit × DataW H → Nat
  | (.string bytes, d) => bytes.length + uptoBulk d + 1
  | (_, d) => uptoBulk d + 1
 end
def uptoSmall : (H : Type) → List (DataW H) → Bool := fun _ ds => decide (uptoBulkAll ds ≤ 1048576)
def OpenSpec.upto (s : _root_.Go.ChangeSpec) : _root_.Go.OpenSpec := { _root_.Go.OpenSpec.ofChange s with cond := some uptoSmall }

/-- 'laws.FnExactWalkTwo', WHERE WHAT IT READS IS OF BULK AT MOST 1048576: true; the input reads as it did. -/
def fnExactWalkTwoUptoRow : OpenClaim := { program := "ytfagohdmepnkkaa", sum := "31b8d060920006aafae1ccdfba2487e36b691d289950e7723007dcee42c1fba6", func := "loop.example/g00038/laws.FnExactWalkTwo", spec := "fnExactWalkTwo", unfollowed := true, recurses := true, apart := false, narrowed := true }
def FnExactWalkTwoUptoSaid : Prop := fnExactWalkTwoUptoRow.holds Try.pinned (OpenSpec.upto fnExactWalkTwoSpec)

/-- 'laws.FnExactMapPages', WHERE WHAT IT READS IS OF BULK AT MOST 1048576: true; the input reads as it did. -/
def fnExactMapPagesUptoRow : OpenClaim := { program := "ytfagohdmepnkkaa", sum := "31b8d060920006aafae1ccdfba2487e36b691d289950e7723007dcee42c1fba6", func := "loop.example/g00038/laws.FnExactMapPages", spec := "fnExactMapPages", unfollowed := true, recurses := true, apart := false, narrowed := true }
def FnExactMapPagesUptoSaid : Prop := fnExactMapPagesUptoRow.holds Try.pinned (OpenSpec.upto fnExactMapPagesSpec)

/-- 'laws.FnExactGivePacked', WHERE WHAT IT READS IS OF BULK AT MOST 1048576: true; the input reads as it did. -/
def fnExactGivePackedUptoRow : OpenClaim := { program := "ytfagohdmepnkkaa", sum := "31b8d060920006aafae1ccdfba2487e36b691d289950e7723007dcee42c1fba6", func := "loop.example/g00038/laws.FnExactGivePacked", spec := "fnExactGivePacked", apart := false, narrowed := true }
def FnExactGivePackedUptoSaid : Prop := fnExactGivePackedUptoRow.holds Try.pinned (OpenSpec.upto fnExactGivePackedSpec)

/-- 'laws.FnWalked', WHERE WHAT IT READS IS OF BULK AT MOST 1048576: true; the input reads as it did. -/
def fnWalkedUptoRow : OpenClaim := { program := "ytfagohdmepnkkaa", sum := "31b8d060920006aafae1ccdfba2487e36b691d289950e7723007dcee42c1fba6", func := "loop.example/g00038/laws.FnWalked", spec := "fnWalked", unfollowed := true, recurses := true, apart := false, narrowed := true }
def FnWalkedUptoSaid : Prop := fnWalkedUptoRow.holds Try.pinned (OpenSpec.upto fnWalkedSpec)

/-- 'laws.FnCached', WHERE WHAT IT READS IS OF BULK AT MOST 1048576: true; the input reads as it did. -/
def fnCachedUptoRow : OpenClaim := { program := "ytfagohdmepnkkaa", sum := "31b8d060920006aafae1ccdfba2487e36b691d289950e7723007dcee42c1fba6", func := "loop.example/g00038/laws.FnCached", spec := "fnCached", unfollowed := true, recurses := true, apart := false, narrowed := true }
def FnCachedUptoSaid : Prop := fnCachedUptoRow.holds Try.pinned (OpenSpec.upto fnCachedSpec)

end Rows
end Go.Proofs.Ytfagohdmepnkkaa
