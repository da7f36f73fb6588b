/-
  No cell of these rows narrows 'for every input' (looked for: loops, veiled, ifaces, maps, wideKeys, modest, calm, conditions, laid).
  DERIVED. THE GIVEN ROWS OF THIS SEAT. 6 by the template 'for every input the law returns true; each argument reads behind the call as it read before'; 0 by the template 'total and deterministic' (their statements: YtodncecnbpldeaaTotals.lean).
  GIVEN WITH THE SEED: the statements are not yours to turn. If you find one false, say at which input.
  Laid BY PROGRAM, IN A SANDBOX (cutbox-rows.mjs): the forced cells as the released guide's own fill.sh prints them over the translation 39ee5d11ee2f182c… (all of the seat's roots in one cut). By AI agents, Wed Nov 11 2026. No macro, syntax, notation, axiom, sorry.
-/
import Derived.Test.YtodncecnbpldeaaChecked
import GoSem.Claim
import GoSem.ClaimJoined
import GoSem.ClaimMapViews
import Derived.JoinedTies
import Derived.KernelRfl
namespace Go.Proofs.Ytodncecnbpldeaa
/- THE CELL 'sum', in the pinned program and in every row, IS THE sha256 OF THE DUMP (.gsa) THAT YtodncecnbpldeaaProg.lean LOADS. Nothing in Lean hashes anything: it is a label: what it is worth is what the hold of that sum in a sandbox is worth. -/
noncomputable def Try.pinned : Pinned := { name := "ytodncecnbpldeaa", sum := "39ee5d11ee2f182ccd6efe3cb4986cd806ffcf3d7e851143f66060029b179c3d", checked := Try.checked }
namespace Rows
def none {H : Type} : Left H := { results := [], args := [] }

/-- 'laws.FnChains': WHATEVER THE INPUT: true; the input reads as it did. -/
def fnChainsSpec : ChangeSpec := { name := "fnChains", fn := fun _ => fun
  | [d] => { results := [.lit (.bool true)], args := [d] }
  | _ => none }
def fnChainsRow : OpenClaim := { program := "ytodncecnbpldeaa", sum := "39ee5d11ee2f182ccd6efe3cb4986cd806ffcf3d7e851143f66060029b179c3d", func := "loop.example/g00038/laws.FnChains", spec := "fnChains", unfollowed := true, recurses := true, apart := false }
def FnChainsSaid : Prop := fnChainsRow.holds Try.pinned (OpenSpec.ofChange fnChainsSpec)

/-- ITS FALSE NEIGHBOUR: 'it returns false'. Refute it at one input. -/
def fnChainsWrong : ChangeSpec := { name := "fnChains", fn := fun _ => fun
  | [d] => { results := [.lit (.bool false)], args := [d] }
  | _ => none }
def FnChainsWrongFalsely : Prop := fnChainsRow.holds Try.pinned (OpenSpec.ofChange fnChainsWrong)

/-- 'laws.FnSpread': WHATEVER THE INPUT: true; the input reads as it did. -/
def fnSpreadSpec : ChangeSpec := { name := "fnSpread", fn := fun _ => fun
  | [d] => { results := [.lit (.bool true)], args := [d] }
  | _ => none }
def fnSpreadRow : OpenClaim := { program := "ytodncecnbpldeaa", sum := "39ee5d11ee2f182ccd6efe3cb4986cd806ffcf3d7e851143f66060029b179c3d", func := "loop.example/g00038/laws.FnSpread", spec := "fnSpread", apart := false }
def FnSpreadSaid : Prop := fnSpreadRow.holds Try.pinned (OpenSpec.ofChange fnSpreadSpec)

/-- ITS FALSE NEIGHBOUR: 'it returns false'. Refute it at one input. -/
def fnSpreadWrong : ChangeSpec := { name := "fnSpread", fn := fun _ => fun
  | [d] => { results := [.lit (.bool false)], args := [d] }
  | _ => none }
def FnSpreadWrongFalsely : Prop := fnSpreadRow.holds Try.pinned (OpenSpec.ofChange fnSpreadWrong)

/-- 'laws.FnExactQueueFault': WHATEVER THE INPUT: true; the input reads as it did. -/
def fnExactQueueFaultSpec : ChangeSpec := { name := "fnExactQueueFault", fn := fun _ => fun
  | [d1, d2] => { results := [.lit (.bool true)], args := [d1, d2] }
  | _ => none }
def fnExactQueueFaultRow : OpenClaim := { program := "ytodncecnbpldeaa", sum := "39ee5d11ee2f182ccd6efe3cb4986cd806ffcf3d7e851143f66060029b179c3d", func := "loop.example/g00038/laws.FnExactQueueFault", spec := "fnExactQueueFault", apart := false }
def FnExactQueueFaultSaid : Prop := fnExactQueueFaultRow.holds Try.pinned (OpenSpec.ofChange fnExactQueueFaultSpec)

/-- ITS FALSE NEIGHBOUR: 'it returns false'. Refute it at one input. -/
def fnExactQueueFaultWrong : ChangeSpec := { name := "fnExactQueueFault", fn := fun _ => fun
  | [d1, d2] => { results := [.lit (.bool false)], args := [d1, d2] }
  | _ => none }
def FnExactQueueFaultWrongFalsely : Prop := fnExactQueueFaultRow.holds Try.pinned (OpenSpec.ofChange fnExactQueueFaultWrong)

/-- 'laws.FnExactReadChain': WHATEVER THE INPUT: true; the input reads as it did. -/
def fnExactReadChainSpec : ChangeSpec := { name := "fnExactReadChain", fn := fun _ => fun
  | [d1, d2, d3] => { results := [.lit (.bool true)], args := [d1, d2, d3] }
  | _ => none }
def fnExactReadChainRow : OpenClaim := { program := "ytodncecnbpldeaa", sum := "39ee5d11ee2f182ccd6efe3cb4986cd806ffcf3d7e851143f66060029b179c3d", func := "loop.example/g00038/laws.FnExactReadChain", spec := "fnExactReadChain", unfollowed := true, recurses := true, apart := false }
def FnExactReadChainSaid : Prop := fnExactReadChainRow.holds Try.pinned (OpenSpec.ofChange fnExactReadChainSpec)

/-- ITS FALSE NEIGHBOUR: 'it returns false'. Refute it at one input. -/
def fnExactReadChainWrong : ChangeSpec := { name := "fnExactReadChain", fn := fun _ => fun
  | [d1, d2, d3] => { results := [.lit (.bool false)], args := [d1, d2, d3] }
  | _ => none }
def FnExactReadChainWrongFalsely : Prop := fnExactReadChainRow.holds Try.pinned (OpenSpec.ofChange fnExactReadChainWrong)

/-- 'laws.FnExactTakeChain': WHATEVER THE INPUT: true; the input reads as it did. -/
def fnExactTakeChainSpec : ChangeSpec := { name := "fnExactTakeChain", fn := fun _ => fun
  | [d1, d2] => { results := [.lit (.bool true)], args := [d1, d2] }
  | _ => none }
def fnExactTakeChainRow : OpenClaim := { program := "ytodncecnbpldeaa", sum := "39ee5d11ee2f182ccd6efe3cb4986cd806ffcf3d7e851143f66060029b179c3d", func := "loop.example/g00038/laws.FnExactTakeChain", spec := "fnExactTakeChain", unfollowed := true, recurses := true, apart := false }
def FnExactTakeChainSaid : Prop := fnExactTakeChainRow.holds Try.pinned (OpenSpec.ofChange fnExactTakeChainSpec)

/-- ITS FALSE NEIGHBOUR: 'it returns false'. Refute it at one input. -/
def fnExactTakeChainWrong : ChangeSpec := { name := "fnExactTakeChain", fn := fun _ => fun
  | [d1, d2] => { results := [.lit (.bool false)], args := [d1, d2] }
  | _ => none }
def FnExactTakeChainWrongFalsely : Prop := fnExactTakeChainRow.holds Try.pinned (OpenSpec.ofChange fnExactTakeChainWrong)

/-- 'laws.FnExactGiveChain': WHATEVER THE INPUT: true; the input reads as it did. -/
def fnExactGiveChainSpec : ChangeSpec := { name := "fnExactGiveChain", fn := fun _ => fun
  | [d1, d2, d3, d4] => { results := [.lit (.bool true)], args := [d1, d2, d3, d4] }
  | _ => none }
def fnExactGiveChainRow : OpenClaim := { program := "ytodncecnbpldeaa", sum := "39ee5d11ee2f182ccd6efe3cb4986cd806ffcf3d7e851143f66060029b179c3d", func := "loop.example/g00038/laws.FnExactGiveChain", spec := "fnExactGiveChain", apart := false }
def FnExactGiveChainSaid : Prop := fnExactGiveChainRow.holds Try.pinned (OpenSpec.ofChange fnExactGiveChainSpec)

/-- ITS FALSE NEIGHBOUR: 'it returns false'. Refute it at one input. -/
def fnExactGiveChainWrong : ChangeSpec := { name := "fnExactGiveChain", fn := fun _ => fun
  | [d1, d2, d3, d4] => { results := [.lit (.bool false)], args := [d1, d2, d3, d4] }
  | _ => none }
def FnExactGiveChainWrongFalsely : Prop := fnExactGiveChainRow.holds Try.pinned (OpenSpec.ofChange fnExactGiveChainWrong)

/- THE SECOND FORM. 'bulk': how many values and letters a reading holds, each counted each time it is reached (what is shared counts as often as it is met; a slice's spare places count too). A statement '..UptoSaid' is the law's where the arguments, and the package variables that the reading takes, are together of bulk at most 1048576: NARROWER than '..Said'. Prove '..Said' where nothing that the law and all that it calls make is longer than what came in: it says more and counts as full. Else prove '..UptoSaid'. A law counts once. -/
mutual
def uptoBulk {H : Type} : DataW H → Nat
  | .lit (.string bytes) => bytes.length + 1
  | .lit _ => 1
  | .nil => 1
  | .ptr d => uptoBulk d + 1
  | .slice elems spare => uptoBulkAll elems + uptoBulkAll spare + 1
  | .agg parts => uptoBulkAll parts + 1
  | .iface _ d => uptoBulk d + 1
  | .map entries => uptoBulkEntries entries + 1
  | .held _ => 1
def uptoBulkAll {H : Type} : List (DataW H) → Nat
  | [] => 0
  | d :: r => uptoBulk d + uptoBulkAll r
def uptoBulkEntries {H : Type} : List (Lit × DataW H) → Nat
  | [] => 0
  | x :: r => uptoBulkEntry x + uptoBulkEntries r
def uptoBulkEntry {H : Type} : Lit × DataW H → Nat
  | (.string bytes, d) => bytes.length + uptoBulk d + 1
  | (_, d) => uptoBulk d + 1
 end
def uptoSmall : (H : Type) → List (DataW H) → Bool := fun _ ds => decide (uptoBulkAll ds ≤ 1048576)
def OpenSpec.upto (s : _root_.Go.ChangeSpec) : _root_.Go.OpenSpec := { _root_.Go.OpenSpec.ofChange s with cond := some uptoSmall }

/-- 'laws.FnChains', WHERE WHAT IT READS IS OF BULK AT MOST 1048576: true; the input reads as it did. -/
def fnChainsUptoRow : OpenClaim := { program := "ytodncecnbpldeaa", sum := "39ee5d11ee2f182ccd6efe3cb4986cd806ffcf3d7e851143f66060029b179c3d", func := "loop.example/g00038/laws.FnChains", spec := "fnChains", unfollowed := true, recurses := true, apart := false, narrowed := true }
def FnChainsUptoSaid : Prop := fnChainsUptoRow.holds Try.pinned (OpenSpec.upto fnChainsSpec)

/-- 'laws.FnSpread', WHERE WHAT IT READS IS OF BULK AT MOST 1048576: true; the input reads as it did. -/
def fnSpreadUptoRow : OpenClaim := { program := "ytodncecnbpldeaa", sum := "39ee5d11ee2f182ccd6efe3cb4986cd806ffcf3d7e851143f66060029b179c3d", func := "loop.example/g00038/laws.FnSpread", spec := "fnSpread", apart := false, narrowed := true }
def FnSpreadUptoSaid : Prop := fnSpreadUptoRow.holds Try.pinned (OpenSpec.upto fnSpreadSpec)

/-- 'laws.FnExactQueueFault', WHERE WHAT IT READS IS OF BULK AT MOST 1048576: true; the input reads as it did. -/
def fnExactQueueFaultUptoRow : OpenClaim := { program := "ytodncecnbpldeaa", sum := "39ee5d11ee2f182ccd6efe3cb4986cd806ffcf3d7e851143f66060029b179c3d", func := "loop.example/g00038/laws.FnExactQueueFault", spec := "fnExactQueueFault", apart := false, narrowed := true }
def FnExactQueueFaultUptoSaid : Prop := fnExactQueueFaultUptoRow.holds Try.pinned (OpenSpec.upto fnExactQueueFaultSpec)

/-- 'laws.FnExactReadChain', WHERE WHAT IT READS IS OF BULK AT MOST 1048576: true; the input reads as it did. -/
def fnExactReadChainUptoRow : OpenClaim := { program := "ytodncecnbpldeaa", sum := "39ee5d11ee2f182ccd6efe3cb4986cd806ffcf3d7e851143f66060029b179c3d", func := "loop.example/g00038/laws.FnExactReadChain", spec := "fnExactReadChain", unfollowed := true, recurses := true, apart := false, narrowed := true }
def FnExactReadChainUptoSaid : Prop := fnExactReadChainUptoRow.holds Try.pinned (OpenSpec.upto fnExactReadChainSpec)

/-- 'laws.FnExactTakeChain', WHERE WHAT IT READS IS OF BULK AT MOST 1048576: true; the input reads as it did. -/
def fnExactTakeChainUptoRow : OpenClaim := { program := "ytodncecnbpldeaa", sum := "39ee5d11ee2f182ccd6efe3cb4986cd806ffcf3d7e851143f66060029b179c3d", func := "loop.example/g00038/laws.FnExactTakeChain", spec := "fnExactTakeChain", unfollowed := true, recurses := true, apart := false, narrowed := true }
def FnExactTakeChainUptoSaid : Prop := fnExactTakeChainUptoRow.holds Try.pinned (OpenSpec.upto fnExactTakeChainSpec)

/-- 'laws.FnExactGiveChain', WHERE WHAT IT READS IS OF BULK AT MOST 1048576: true; the input reads as it did. -/
def fnExactGiveChainUptoRow : OpenClaim := { program := "ytodncecnbpldeaa", sum := "39ee5d11ee2f182ccd6efe3cb4986cd806ffcf3d7e851143f66060029b179c3d", func := "loop.example/g00038/laws.FnExactGiveChain", spec := "fnExactGiveChain", apart := false, narrowed := true }
def FnExactGiveChainUptoSaid : Prop := fnExactGiveChainUptoRow.holds Try.pinned (OpenSpec.upto fnExactGiveChainSpec)

end Rows
end Go.Proofs.Ytodncecnbpldeaa
