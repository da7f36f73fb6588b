/-
  No cell of these rows narrows 'for every input' (looked for: loops, veiled, ifaces, maps, wideKeys, modest, calm, conditions, laid).
  DERIVED. THE GIVEN ROWS OF THIS SEAT. 5 by the template 'for every input the law returns true; each argument reads behind the call as it read before'; 0 by the template 'total and deterministic' (their statements: YtmaknoakknpopaaTotals.lean).
  GIVEN WITH THE SEED: the statements are not yours to turn. If you find one false, say at which input.
  Laid BY PROGRAM, IN A SANDBOX (cutbox-rows.mjs): the forced cells as the released guide's own fill.sh prints them over the translation 22da6966ae9238ef… (all of the seat's roots in one cut). By AI agents, Wed Nov 11 2026. No macro, syntax, notation, axiom, sorry.
-/
import Derived.Test.YtmaknoakknpopaaChecked
import GoSem.Claim
import GoSem.ClaimJoined
import GoSem.ClaimMapViews
import Derived.JoinedTies
import Derived.KernelRfl
namespace Go.Proofs.Ytmaknoakknpopaa
/- THE CELL 'sum', in the pinned program and in every row, IS THE sha256 OF THE DUMP (.gsa) THAT YtmaknoakknpopaaProg.lean LOADS. Nothing in Lean hashes anything: it is a label: what it is worth is what the hold of that sum in a sandbox is worth. -/
noncomputable def Try.pinned : Pinned := { name := "ytmaknoakknpopaa", sum := "22da6966ae9238efc075387b1467012ce12a931b1fc6c86018142ed3626c749e", checked := Try.checked }
namespace Rows
def none {H : Type} : Left H := { results := [], args := [] }

/-- 'laws.FnExactImageFault': WHATEVER THE INPUT: true; the input reads as it did. -/
def fnExactImageFaultSpec : ChangeSpec := { name := "fnExactImageFault", fn := fun _ => fun
  | [d] => { results := [.lit (.bool true)], args := [d] }
  | _ => none }
def fnExactImageFaultRow : OpenClaim := { program := "ytmaknoakknpopaa", sum := "22da6966ae9238efc075387b1467012ce12a931b1fc6c86018142ed3626c749e", func := "loop.example/g00038/laws.FnExactImageFault", spec := "fnExactImageFault", unfollowed := true, recurses := true, apart := false }
def FnExactImageFaultSaid : Prop := fnExactImageFaultRow.holds Try.pinned (OpenSpec.ofChange fnExactImageFaultSpec)

/-- ITS FALSE NEIGHBOUR: 'it returns false'. Refute it at one input. -/
def fnExactImageFaultWrong : ChangeSpec := { name := "fnExactImageFault", fn := fun _ => fun
  | [d] => { results := [.lit (.bool false)], args := [d] }
  | _ => none }
def FnExactImageFaultWrongFalsely : Prop := fnExactImageFaultRow.holds Try.pinned (OpenSpec.ofChange fnExactImageFaultWrong)

/-- 'laws.FnExactChainFault': WHATEVER THE INPUT: true; the input reads as it did. -/
def fnExactChainFaultSpec : ChangeSpec := { name := "fnExactChainFault", fn := fun _ => fun
  | [d] => { results := [.lit (.bool true)], args := [d] }
  | _ => none }
def fnExactChainFaultRow : OpenClaim := { program := "ytmaknoakknpopaa", sum := "22da6966ae9238efc075387b1467012ce12a931b1fc6c86018142ed3626c749e", func := "loop.example/g00038/laws.FnExactChainFault", spec := "fnExactChainFault", unfollowed := true, recurses := true, apart := false }
def FnExactChainFaultSaid : Prop := fnExactChainFaultRow.holds Try.pinned (OpenSpec.ofChange fnExactChainFaultSpec)

/-- ITS FALSE NEIGHBOUR: 'it returns false'. Refute it at one input. -/
def fnExactChainFaultWrong : ChangeSpec := { name := "fnExactChainFault", fn := fun _ => fun
  | [d] => { results := [.lit (.bool false)], args := [d] }
  | _ => none }
def FnExactChainFaultWrongFalsely : Prop := fnExactChainFaultRow.holds Try.pinned (OpenSpec.ofChange fnExactChainFaultWrong)

/-- 'laws.FnExactReadImage': WHATEVER THE INPUT: true; the input reads as it did. -/
def fnExactReadImageSpec : ChangeSpec := { name := "fnExactReadImage", fn := fun _ => fun
  | [d1, d2, d3, d4] => { results := [.lit (.bool true)], args := [d1, d2, d3, d4] }
  | _ => none }
def fnExactReadImageRow : OpenClaim := { program := "ytmaknoakknpopaa", sum := "22da6966ae9238efc075387b1467012ce12a931b1fc6c86018142ed3626c749e", func := "loop.example/g00038/laws.FnExactReadImage", spec := "fnExactReadImage", inPlace := ["internal/abi.NoEscape", "internal/bytealg.MakeNoZero"], unfollowed := true, recurses := true, apart := false }
def FnExactReadImageSaid : Prop := fnExactReadImageRow.holds Try.pinned (OpenSpec.ofChange fnExactReadImageSpec)

/-- ITS FALSE NEIGHBOUR: 'it returns false'. Refute it at one input. -/
def fnExactReadImageWrong : ChangeSpec := { name := "fnExactReadImage", fn := fun _ => fun
  | [d1, d2, d3, d4] => { results := [.lit (.bool false)], args := [d1, d2, d3, d4] }
  | _ => none }
def FnExactReadImageWrongFalsely : Prop := fnExactReadImageRow.holds Try.pinned (OpenSpec.ofChange fnExactReadImageWrong)

/-- 'laws.FnExactDiskOf': WHATEVER THE INPUT: true; the input reads as it did. -/
def fnExactDiskOfSpec : ChangeSpec := { name := "fnExactDiskOf", fn := fun _ => fun
  | [d1, d2] => { results := [.lit (.bool true)], args := [d1, d2] }
  | _ => none }
def fnExactDiskOfRow : OpenClaim := { program := "ytmaknoakknpopaa", sum := "22da6966ae9238efc075387b1467012ce12a931b1fc6c86018142ed3626c749e", func := "loop.example/g00038/laws.FnExactDiskOf", spec := "fnExactDiskOf", inPlace := ["internal/abi.NoEscape", "internal/bytealg.MakeNoZero"], unfollowed := true, recurses := true, apart := false }
def FnExactDiskOfSaid : Prop := fnExactDiskOfRow.holds Try.pinned (OpenSpec.ofChange fnExactDiskOfSpec)

/-- ITS FALSE NEIGHBOUR: 'it returns false'. Refute it at one input. -/
def fnExactDiskOfWrong : ChangeSpec := { name := "fnExactDiskOf", fn := fun _ => fun
  | [d1, d2] => { results := [.lit (.bool false)], args := [d1, d2] }
  | _ => none }
def FnExactDiskOfWrongFalsely : Prop := fnExactDiskOfRow.holds Try.pinned (OpenSpec.ofChange fnExactDiskOfWrong)

/-- 'laws.FnExactPackImage': WHATEVER THE INPUT: true; the input reads as it did. -/
def fnExactPackImageSpec : ChangeSpec := { name := "fnExactPackImage", fn := fun _ => fun
  | [d] => { results := [.lit (.bool true)], args := [d] }
  | _ => none }
def fnExactPackImageRow : OpenClaim := { program := "ytmaknoakknpopaa", sum := "22da6966ae9238efc075387b1467012ce12a931b1fc6c86018142ed3626c749e", func := "loop.example/g00038/laws.FnExactPackImage", spec := "fnExactPackImage", unfollowed := true, recurses := true, apart := false }
def FnExactPackImageSaid : Prop := fnExactPackImageRow.holds Try.pinned (OpenSpec.ofChange fnExactPackImageSpec)

/-- ITS FALSE NEIGHBOUR: 'it returns false'. Refute it at one input. -/
def fnExactPackImageWrong : ChangeSpec := { name := "fnExactPackImage", fn := fun _ => fun
  | [d] => { results := [.lit (.bool false)], args := [d] }
  | _ => none }
def FnExactPackImageWrongFalsely : Prop := fnExactPackImageRow.holds Try.pinned (OpenSpec.ofChange fnExactPackImageWrong)

/- THE SECOND FORM. 'bulk': how many values and letters a reading holds, each counted each time it is reached (what is shared counts as often as it is met; a slice's spare places count too). A statement '..UptoSaid' is the law's where the arguments, and the package variables that the reading takes, are together of bulk at most 1048576: NARROWER than '..Said'. Prove '..Said' where nothing that the law and all that it calls make is longer than what came in: it says more and counts as full. Else prove '..UptoSaid'. A law counts once. -/
mutual
def uptoBulk {H : Type} : DataW H → Nat
  | .lit (.string bytes) => bytes.length + 1
  | .lit _ => 1
  | .nil => 1
  | .ptr d => uptoBulk d + 1
  | .slice elems spare => uptoBulkAll elems + uptoBulkAll spare + 1
  | .agg parts => uptoBulkAll parts + 1
  | .iface _ d => uptoBulk d + 1
  | .map entries => uptoBulkEntries entries + 1
  | .held _ => 1
def uptoBulkAll {H : Type} : List (DataW H) → Nat
  | [] => 0
  | d :: r => uptoBulk d + uptoBulkAll r
def uptoBulkEntries {H : Type} : List (Lit × DataW H) → Nat
  | [] => 0
  | x :: r => uptoBulkEntry x + uptoBulkEntries r
def uptoBulkEntry {H : Type} : Lit × DataW H → Nat
  | (.string bytes, d) => bytes.length + uptoBulk d + 1
  | (_, d) => uptoBulk d + 1
 end
def uptoSmall : (H : Type) → List (DataW H) → Bool := fun _ ds => decide (uptoBulkAll ds ≤ 1048576)
def OpenSpec.upto (s : _root_.Go.ChangeSpec) : _root_.Go.OpenSpec := { _root_.Go.OpenSpec.ofChange s with cond := some uptoSmall }

/-- 'laws.FnExactImageFault', WHERE WHAT IT READS IS OF BULK AT MOST 1048576: true; the input reads as it did. -/
def fnExactImageFaultUptoRow : OpenClaim := { program := "ytmaknoakknpopaa", sum := "22da6966ae9238efc075387b1467012ce12a931b1fc6c86018142ed3626c749e", func := "loop.example/g00038/laws.FnExactImageFault", spec := "fnExactImageFault", unfollowed := true, recurses := true, apart := false, narrowed := true }
def FnExactImageFaultUptoSaid : Prop := fnExactImageFaultUptoRow.holds Try.pinned (OpenSpec.upto fnExactImageFaultSpec)

/-- 'laws.FnExactChainFault', WHERE WHAT IT READS IS OF BULK AT MOST 1048576: true; the input reads as it did. -/
def fnExactChainFaultUptoRow : OpenClaim := { program := "ytmaknoakknpopaa", sum := "22da6966ae9238efc075387b1467012ce12a931b1fc6c86018142ed3626c749e", func := "loop.example/g00038/laws.FnExactChainFault", spec := "fnExactChainFault", unfollowed := true, recurses := true, apart := false, narrowed := true }
def FnExactChainFaultUptoSaid : Prop := fnExactChainFaultUptoRow.holds Try.pinned (OpenSpec.upto fnExactChainFaultSpec)

/-- 'laws.FnExactReadImage', WHERE WHAT IT READS IS OF BULK AT MOST 1048576: true; the input reads as it did. -/
def fnExactReadImageUptoRow : OpenClaim := { program := "ytmaknoakknpopaa", sum := "22da6966ae9238efc075387b1467012ce12a931b1fc6c86018142ed3626c749e", func := "loop.example/g00038/laws.FnExactReadImage", spec := "fnExactReadImage", inPlace := ["internal/abi.NoEscape", "internal/bytealg.MakeNoZero"], unfollowed := true, recurses := true, apart := false, narrowed := true }
def FnExactReadImageUptoSaid : Prop := fnExactReadImageUptoRow.holds Try.pinned (OpenSpec.upto fnExactReadImageSpec)

/-- 'laws.FnExactDiskOf', WHERE WHAT IT READS IS OF BULK AT MOST 1048576: true; the input reads as it did. -/
def fnExactDiskOfUptoRow : OpenClaim := { program := "ytmaknoakknpopaa", sum := "22da6966ae9238efc075387b1467012ce12a931b1fc6c86018142ed3626c749e", func := "loop.example/g00038/laws.FnExactDiskOf", spec := "fnExactDiskOf", inPlace := ["internal/abi.NoEscape", "internal/bytealg.MakeNoZero"], unfollowed := true, recurses := true, apart := false, narrowed := true }
def FnExactDiskOfUptoSaid : Prop := fnExactDiskOfUptoRow.holds Try.pinned (OpenSpec.upto fnExactDiskOfSpec)

/-- 'laws.FnExactPackImage', WHERE WHAT IT READS IS OF BULK AT MOST 1048576: true; the input reads as it did. -/
def fnExactPackImageUptoRow : OpenClaim := { program := "ytmaknoakknpopaa", sum := "22da6966ae9238efc075387b1467012ce12a931b1fc6c86018142ed3626c749e", func := "loop.example/g00038/laws.FnExactPackImage", spec := "fnExactPackImage", unfollowed := true, recurses := true, apart := false, narrowed := true }
def FnExactPackImageUptoSaid : Prop := fnExactPackImageUptoRow.holds Try.pinned (OpenSpec.upto fnExactPackImageSpec)

end Rows
end Go.Proofs.Ytmaknoakknpopaa
