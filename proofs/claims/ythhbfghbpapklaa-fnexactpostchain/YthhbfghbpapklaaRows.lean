/-
  No cell of these rows narrows 'for every input' (looked for: loops, veiled, ifaces, maps, wideKeys, modest, calm, conditions, laid).
  DERIVED. THE GIVEN ROWS OF THIS SEAT. 4 by the template 'for every input the law returns true; each argument reads behind the call as it read before'; 0 by the template 'total and deterministic' (their statements: YthhbfghbpapklaaTotals.lean).
  GIVEN WITH THE SEED: the statements are not yours to turn. If you find one false, say at which input.
  Laid BY PROGRAM, IN A SANDBOX (cutbox-rows.mjs): the forced cells as the released guide's own fill.sh prints them over the translation 19fd8df1283438db… (all of the seat's roots in one cut). By AI agents, Wed Nov 11 2026. No macro, syntax, notation, axiom, sorry.
-/
import Derived.Test.YthhbfghbpapklaaChecked
import GoSem.Claim
import GoSem.ClaimJoined
import GoSem.ClaimMapViews
import Derived.JoinedTies
import Derived.KernelRfl
namespace Go.Proofs.Ythhbfghbpapklaa
/- THE CELL 'sum', in the pinned program and in every row, IS THE sha256 OF THE DUMP (.gsa) THAT YthhbfghbpapklaaProg.lean LOADS. Nothing in Lean hashes anything: it is a label: what it is worth is what the hold of that sum in a sandbox is worth. -/
noncomputable def Try.pinned : Pinned := { name := "ythhbfghbpapklaa", sum := "19fd8df1283438dbe4e57da4cf4814480dc48ac73b50c96c4e0bb93d66525e12", checked := Try.checked }
namespace Rows
def none {H : Type} : Left H := { results := [], args := [] }

/-- 'laws.FnExactPostChain': WHATEVER THE INPUT: true; the input reads as it did. -/
def fnExactPostChainSpec : ChangeSpec := { name := "fnExactPostChain", fn := fun _ => fun
  | [d1, d2, d3, d4] => { results := [.lit (.bool true)], args := [d1, d2, d3, d4] }
  | _ => none }
def fnExactPostChainRow : OpenClaim := { program := "ythhbfghbpapklaa", sum := "19fd8df1283438dbe4e57da4cf4814480dc48ac73b50c96c4e0bb93d66525e12", func := "loop.example/g00038/laws.FnExactPostChain", spec := "fnExactPostChain", apart := false }
def FnExactPostChainSaid : Prop := fnExactPostChainRow.holds Try.pinned (OpenSpec.ofChange fnExactPostChainSpec)

/-- ITS FALSE NEIGHBOUR: 'it returns false'. Refute it at one input. -/
def fnExactPostChainWrong : ChangeSpec := { name := "fnExactPostChain", fn := fun _ => fun
  | [d1, d2, d3, d4] => { results := [.lit (.bool false)], args := [d1, d2, d3, d4] }
  | _ => none }
def FnExactPostChainWrongFalsely : Prop := fnExactPostChainRow.holds Try.pinned (OpenSpec.ofChange fnExactPostChainWrong)

/-- 'laws.FnExactGatherBufs': WHATEVER THE INPUT: true; the input reads as it did. -/
def fnExactGatherBufsSpec : ChangeSpec := { name := "fnExactGatherBufs", fn := fun _ => fun
  | [d1, d2] => { results := [.lit (.bool true)], args := [d1, d2] }
  | _ => none }
def fnExactGatherBufsRow : OpenClaim := { program := "ythhbfghbpapklaa", sum := "19fd8df1283438dbe4e57da4cf4814480dc48ac73b50c96c4e0bb93d66525e12", func := "loop.example/g00038/laws.FnExactGatherBufs", spec := "fnExactGatherBufs", apart := false }
def FnExactGatherBufsSaid : Prop := fnExactGatherBufsRow.holds Try.pinned (OpenSpec.ofChange fnExactGatherBufsSpec)

/-- ITS FALSE NEIGHBOUR: 'it returns false'. Refute it at one input. -/
def fnExactGatherBufsWrong : ChangeSpec := { name := "fnExactGatherBufs", fn := fun _ => fun
  | [d1, d2] => { results := [.lit (.bool false)], args := [d1, d2] }
  | _ => none }
def FnExactGatherBufsWrongFalsely : Prop := fnExactGatherBufsRow.holds Try.pinned (OpenSpec.ofChange fnExactGatherBufsWrong)

/-- 'laws.FnExactSpreadBufs': WHATEVER THE INPUT: true; the input reads as it did. -/
def fnExactSpreadBufsSpec : ChangeSpec := { name := "fnExactSpreadBufs", fn := fun _ => fun
  | [d1, d2, d3] => { results := [.lit (.bool true)], args := [d1, d2, d3] }
  | _ => none }
def fnExactSpreadBufsRow : OpenClaim := { program := "ythhbfghbpapklaa", sum := "19fd8df1283438dbe4e57da4cf4814480dc48ac73b50c96c4e0bb93d66525e12", func := "loop.example/g00038/laws.FnExactSpreadBufs", spec := "fnExactSpreadBufs", apart := false }
def FnExactSpreadBufsSaid : Prop := fnExactSpreadBufsRow.holds Try.pinned (OpenSpec.ofChange fnExactSpreadBufsSpec)

/-- ITS FALSE NEIGHBOUR: 'it returns false'. Refute it at one input. -/
def fnExactSpreadBufsWrong : ChangeSpec := { name := "fnExactSpreadBufs", fn := fun _ => fun
  | [d1, d2, d3] => { results := [.lit (.bool false)], args := [d1, d2, d3] }
  | _ => none }
def FnExactSpreadBufsWrongFalsely : Prop := fnExactSpreadBufsRow.holds Try.pinned (OpenSpec.ofChange fnExactSpreadBufsWrong)

/-- 'laws.FnExactServeDisk': WHATEVER THE INPUT: true; the input reads as it did. -/
def fnExactServeDiskSpec : ChangeSpec := { name := "fnExactServeDisk", fn := fun _ => fun
  | [d1, d2, d3, d4] => { results := [.lit (.bool true)], args := [d1, d2, d3, d4] }
  | _ => none }
def fnExactServeDiskRow : OpenClaim := { program := "ythhbfghbpapklaa", sum := "19fd8df1283438dbe4e57da4cf4814480dc48ac73b50c96c4e0bb93d66525e12", func := "loop.example/g00038/laws.FnExactServeDisk", spec := "fnExactServeDisk", unfollowed := true, recurses := true, apart := false }
def FnExactServeDiskSaid : Prop := fnExactServeDiskRow.holds Try.pinned (OpenSpec.ofChange fnExactServeDiskSpec)

/-- ITS FALSE NEIGHBOUR: 'it returns false'. Refute it at one input. -/
def fnExactServeDiskWrong : ChangeSpec := { name := "fnExactServeDisk", fn := fun _ => fun
  | [d1, d2, d3, d4] => { results := [.lit (.bool false)], args := [d1, d2, d3, d4] }
  | _ => none }
def FnExactServeDiskWrongFalsely : Prop := fnExactServeDiskRow.holds Try.pinned (OpenSpec.ofChange fnExactServeDiskWrong)

/- THE SECOND FORM. 'bulk': how many values and letters a reading holds, each counted each time it is reached (what is shared counts as often as it is met; a slice's spare places count too). A statement '..UptoSaid' is the law's where the arguments, and the package variables that the reading takes, are together of bulk at most 1048576: NARROWER than '..Said'. Prove '..Said' where nothing that the law and all that it calls make is longer than what came in: it says more and counts as full. Else prove '..UptoSaid'. A law counts once. -/
mutual
def uptoBulk {H : Type} : DataW H → Nat
  | .lit (.string bytes) => bytes.length + 1
  | .lit _ => 1
  | .nil => 1
  | .ptr d => uptoBulk d + 1
  | .slice elems spare => uptoBulkAll elems + uptoBulkAll spare + 1
  | .agg parts => uptoBulkAll parts + 1
  | .iface _ d => uptoBulk d + 1
  | .map entries => uptoBulkEntries entries + 1
  | .held _ => 1
def uptoBulkAll {H : Type} : List (DataW H) → Nat
  | [] => 0
  | d :: r => uptoBulk d + uptoBulkAll r
def uptoBulkEntries {H : Type} : List (Lit × DataW H) → Nat
  | [] => 0
  | x :: r => uptoBulkEntry x + uptoBulkEntries r
def uptoBulkEntry {H : Type} : Lit × DataW H → Nat
  | (.string bytes, d) => bytes.length + uptoBulk d + 1
  | (_, d) => uptoBulk d + 1
 end
def uptoSmall : (H : Type) → List (DataW H) → Bool := fun _ ds => decide (uptoBulkAll ds ≤ 1048576)
def OpenSpec.upto (s : _root_.Go.ChangeSpec) : _root_.Go.OpenSpec := { _root_.Go.OpenSpec.ofChange s with cond := some uptoSmall }

/-- 'laws.FnExactPostChain', WHERE WHAT IT READS IS OF BULK AT MOST 1048576: true; the input reads as it did. -/
def fnExactPostChainUptoRow : OpenClaim := { program := "ythhbfghbpapklaa", sum := "19fd8df1283438dbe4e57da4cf4814480dc48ac73b50c96c4e0bb93d66525e12", func := "loop.example/g00038/laws.FnExactPostChain", spec := "fnExactPostChain", apart := false, narrowed := true }
def FnExactPostChainUptoSaid : Prop := fnExactPostChainUptoRow.holds Try.pinned (OpenSpec.upto fnExactPostChainSpec)

/-- 'laws.FnExactGatherBufs', WHERE WHAT IT READS IS OF BULK AT MOST 1048576: true; the input reads as it did. -/
def fnExactGatherBufsUptoRow : OpenClaim := { program := "ythhbfghbpapklaa", sum := "19fd8df1283438dbe4e57da4cf4814480dc48ac73b50c96c4e0bb93d66525e12", func := "loop.example/g00038/laws.FnExactGatherBufs", spec := "fnExactGatherBufs", apart := false, narrowed := true }
def FnExactGatherBufsUptoSaid : Prop := fnExactGatherBufsUptoRow.holds Try.pinned (OpenSpec.upto fnExactGatherBufsSpec)

/-- 'laws.FnExactSpreadBufs', WHERE WHAT IT READS IS OF BULK AT MOST 1048576: true; the input reads as it did. -/
def fnExactSpreadBufsUptoRow : OpenClaim := { program := "ythhbfghbpapklaa", sum := "19fd8df1283438dbe4e57da4cf4814480dc48ac73b50c96c4e0bb93d66525e12", func := "loop.example/g00038/laws.FnExactSpreadBufs", spec := "fnExactSpreadBufs", apart := false, narrowed := true }
def FnExactSpreadBufsUptoSaid : Prop := fnExactSpreadBufsUptoRow.holds Try.pinned (OpenSpec.upto fnExactSpreadBufsSpec)

/-- 'laws.FnExactServeDisk', WHERE WHAT IT READS IS OF BULK AT MOST 1048576: true; the input reads as it did. -/
def fnExactServeDiskUptoRow : OpenClaim := { program := "ythhbfghbpapklaa", sum := "19fd8df1283438dbe4e57da4cf4814480dc48ac73b50c96c4e0bb93d66525e12", func := "loop.example/g00038/laws.FnExactServeDisk", spec := "fnExactServeDisk", unfollowed := true, recurses := true, apart := false, narrowed := true }
def FnExactServeDiskUptoSaid : Prop := fnExactServeDiskUptoRow.holds Try.pinned (OpenSpec.upto fnExactServeDiskSpec)

end Rows
end Go.Proofs.Ythhbfghbpapklaa
