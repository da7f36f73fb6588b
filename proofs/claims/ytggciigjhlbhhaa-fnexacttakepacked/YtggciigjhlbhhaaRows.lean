/-
  No cell of these rows narrows 'for every input' (looked for: loops, veiled, ifaces, maps, wideKeys, modest, calm, conditions, laid).
  DERIVED. THE GIVEN ROWS OF THIS SEAT. 3 by the template 'for every input the law returns true; each argument reads behind the call as it read before'; 0 by the template 'total and deterministic' (their statements: YtggciigjhlbhhaaTotals.lean).
  GIVEN WITH THE SEED: the statements are not yours to turn. If you find one false, say at which input.
  Laid BY PROGRAM, IN A SANDBOX (cutbox-rows.mjs): the forced cells as the released guide's own fill.sh prints them over the translation 9090be7fe52c603d… (all of the seat's roots in one cut). By AI agents, Wed Nov 11 2026. No macro, syntax, notation, axiom, sorry.
-/
import Derived.Test.YtggciigjhlbhhaaChecked
import GoSem.Claim
import GoSem.ClaimJoined
import GoSem.ClaimMapViews
import Derived.JoinedTies
import Derived.KernelRfl
namespace Go.Proofs.Ytggciigjhlbhhaa
/- THE CELL 'sum', in the pinned program and in every row, IS THE sha256 OF THE DUMP (.gsa) THAT YtggciigjhlbhhaaProg.lean LOADS. Nothing in Lean hashes anything: it is a label: what it is worth is what the hold of that sum in a sandbox is worth. -/
noncomputable def Try.pinned : Pinned := { name := "ytggciigjhlbhhaa", sum := "9090be7fe52c603dda99472b4a18d20208c422c33af365eaf042aca7675d5f7e", checked := Try.checked }
namespace Rows
def none {H : Type} : Left H := { results := [], args := [] }

/-- 'laws.FnExactGiveChain': WHATEVER THE INPUT: true; the input reads as it did. -/
def fnExactGiveChainSpec : ChangeSpec := { name := "fnExactGiveChain", fn := fun _ => fun
  | [d1, d2, d3, d4] => { results := [.lit (.bool true)], args := [d1, d2, d3, d4] }
  | _ => none }
def fnExactGiveChainRow : OpenClaim := { program := "ytggciigjhlbhhaa", sum := "9090be7fe52c603dda99472b4a18d20208c422c33af365eaf042aca7675d5f7e", func := "loop.example/g00038/laws.FnExactGiveChain", spec := "fnExactGiveChain", apart := false }
def FnExactGiveChainSaid : Prop := fnExactGiveChainRow.holds Try.pinned (OpenSpec.ofChange fnExactGiveChainSpec)

/-- ITS FALSE NEIGHBOUR: 'it returns false'. Refute it at one input. -/
def fnExactGiveChainWrong : ChangeSpec := { name := "fnExactGiveChain", fn := fun _ => fun
  | [d1, d2, d3, d4] => { results := [.lit (.bool false)], args := [d1, d2, d3, d4] }
  | _ => none }
def FnExactGiveChainWrongFalsely : Prop := fnExactGiveChainRow.holds Try.pinned (OpenSpec.ofChange fnExactGiveChainWrong)

/-- 'laws.FnExactTakePacked': WHATEVER THE INPUT: true; the input reads as it did. -/
def fnExactTakePackedSpec : ChangeSpec := { name := "fnExactTakePacked", fn := fun _ => fun
  | [d1, d2] => { results := [.lit (.bool true)], args := [d1, d2] }
  | _ => none }
def fnExactTakePackedRow : OpenClaim := { program := "ytggciigjhlbhhaa", sum := "9090be7fe52c603dda99472b4a18d20208c422c33af365eaf042aca7675d5f7e", func := "loop.example/g00038/laws.FnExactTakePacked", spec := "fnExactTakePacked", unfollowed := true, recurses := true, apart := false }
def FnExactTakePackedSaid : Prop := fnExactTakePackedRow.holds Try.pinned (OpenSpec.ofChange fnExactTakePackedSpec)

/-- ITS FALSE NEIGHBOUR: 'it returns false'. Refute it at one input. -/
def fnExactTakePackedWrong : ChangeSpec := { name := "fnExactTakePacked", fn := fun _ => fun
  | [d1, d2] => { results := [.lit (.bool false)], args := [d1, d2] }
  | _ => none }
def FnExactTakePackedWrongFalsely : Prop := fnExactTakePackedRow.holds Try.pinned (OpenSpec.ofChange fnExactTakePackedWrong)

/-- 'laws.FnExactGivePacked': WHATEVER THE INPUT: true; the input reads as it did. -/
def fnExactGivePackedSpec : ChangeSpec := { name := "fnExactGivePacked", fn := fun _ => fun
  | [d1, d2, d3, d4, d5] => { results := [.lit (.bool true)], args := [d1, d2, d3, d4, d5] }
  | _ => none }
def fnExactGivePackedRow : OpenClaim := { program := "ytggciigjhlbhhaa", sum := "9090be7fe52c603dda99472b4a18d20208c422c33af365eaf042aca7675d5f7e", func := "loop.example/g00038/laws.FnExactGivePacked", spec := "fnExactGivePacked", apart := false }
def FnExactGivePackedSaid : Prop := fnExactGivePackedRow.holds Try.pinned (OpenSpec.ofChange fnExactGivePackedSpec)

/-- ITS FALSE NEIGHBOUR: 'it returns false'. Refute it at one input. -/
def fnExactGivePackedWrong : ChangeSpec := { name := "fnExactGivePacked", fn := fun _ => fun
  | [d1, d2, d3, d4, d5] => { results := [.lit (.bool false)], args := [d1, d2, d3, d4, d5] }
  | _ => none }
def FnExactGivePackedWrongFalsely : Prop := fnExactGivePackedRow.holds Try.pinned (OpenSpec.ofChange fnExactGivePackedWrong)

/- THE SECOND FORM. 'bulk': how many values and letters a reading holds, each counted each time it is reached (what is shared counts as often as it is met; a slice's spare places count too). A statement '..UptoSaid' is the law's where the arguments, and the package variables that the reading takes, are together of bulk at most 1048576: NARROWER than '..Said'. Prove '..Said' where nothing that the law and all that it calls make is longer than what came in: it says more and counts as full. Else prove '..UptoSaid'. A law counts once. -/
mutual
def uptoBulk {H : Type} : DataW H → Nat
  | .lit (.string bytes) => bytes.length + 1
  | .lit _ => 1
  | .nil => 1
  | .ptr d => uptoBulk d + 1
  | .slice elems spare => uptoBulkAll elems + uptoBulkAll spare + 1
  | .agg parts => uptoBulkAll parts + 1
  | .iface _ d => uptoBulk d + 1
  | .map entries => uptoBulkEntries entries + 1
  | .held _ => 1
def uptoBulkAll {H : Type} : List (DataW H) → Nat
  | [] => 0
  | d :: r => uptoBulk d + uptoBulkAll r
def uptoBulkEntries {H : Type} : List (Lit × DataW H) → Nat
  | [] => 0
  | x :: r => uptoBulkEntry x + uptoBulkEntries r
def uptoBulkEntry {H : Type} : Lit × DataW H → Nat
  | (.string bytes, d) => bytes.length + uptoBulk d + 1
  | (_, d) => uptoBulk d + 1
 end
def uptoSmall : (H : Type) → List (DataW H) → Bool := fun _ ds => decide (uptoBulkAll ds ≤ 1048576)
def OpenSpec.upto (s : _root_.Go.ChangeSpec) : _root_.Go.OpenSpec := { _root_.Go.OpenSpec.ofChange s with cond := some uptoSmall }

/-- 'laws.FnExactGiveChain', WHERE WHAT IT READS IS OF BULK AT MOST 1048576: true; the input reads as it did. -/
def fnExactGiveChainUptoRow : OpenClaim := { program := "ytggciigjhlbhhaa", sum := "9090be7fe52c603dda99472b4a18d20208c422c33af365eaf042aca7675d5f7e", func := "loop.example/g00038/laws.FnExactGiveChain", spec := "fnExactGiveChain", apart := false, narrowed := true }
def FnExactGiveChainUptoSaid : Prop := fnExactGiveChainUptoRow.holds Try.pinned (OpenSpec.upto fnExactGiveChainSpec)

/-- 'laws.FnExactTakePacked', WHERE WHAT IT READS IS OF BULK AT MOST 1048576: true; the input reads as it did. -/
def fnExactTakePackedUptoRow : OpenClaim := { program := "ytggciigjhlbhhaa", sum := "9090be7fe52c603dda99472b4a18d20208c422c33af365eaf042aca7675d5f7e", func := "loop.example/g00038/laws.FnExactTakePacked", spec := "fnExactTakePacked", unfollowed := true, recurses := true, apart := false, narrowed := true }
def FnExactTakePackedUptoSaid : Prop := fnExactTakePackedUptoRow.holds Try.pinned (OpenSpec.upto fnExactTakePackedSpec)

/-- 'laws.FnExactGivePacked', WHERE WHAT IT READS IS OF BULK AT MOST 1048576: true; the input reads as it did. -/
def fnExactGivePackedUptoRow : OpenClaim := { program := "ytggciigjhlbhhaa", sum := "9090be7fe52c603dda99472b4a18d20208c422c33af365eaf042aca7675d5f7e", func := "loop.example/g00038/laws.FnExactGivePacked", spec := "fnExactGivePacked", apart := false, narrowed := true }
def FnExactGivePackedUptoSaid : Prop := fnExactGivePackedUptoRow.holds Try.pinned (OpenSpec.upto fnExactGivePackedSpec)

end Rows
end Go.Proofs.Ytggciigjhlbhhaa
