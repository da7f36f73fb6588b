/-
  No cell of these rows narrows 'for every input' (looked for: loops, veiled, ifaces, maps, wideKeys, modest, calm, conditions, laid).
  DERIVED. THE GIVEN ROWS OF THIS SEAT. 4 by the template 'for every input the law returns true; each argument reads behind the call as it read before'; 0 by the template 'total and deterministic' (their statements: YtnbohdninedjdaaTotals.lean).
  GIVEN WITH THE SEED: the statements are not yours to turn. If you find one false, say at which input.
  Laid BY PROGRAM, IN A SANDBOX (cutbox-rows.mjs): the forced cells as the released guide's own fill.sh prints them over the translation 243a36a8efa12b4e… (all of the seat's roots in one cut). By AI agents, Wed Nov 11 2026. No macro, syntax, notation, axiom, sorry.
-/
import Derived.Test.YtnbohdninedjdaaChecked
import GoSem.Claim
import GoSem.ClaimJoined
import GoSem.ClaimMapViews
import Derived.JoinedTies
import Derived.KernelRfl
namespace Go.Proofs.Ytnbohdninedjdaa
/- THE CELL 'sum', in the pinned program and in every row, IS THE sha256 OF THE DUMP (.gsa) THAT YtnbohdninedjdaaProg.lean LOADS. Nothing in Lean hashes anything: it is a label: what it is worth is what the hold of that sum in a sandbox is worth. -/
noncomputable def Try.pinned : Pinned := { name := "ytnbohdninedjdaa", sum := "243a36a8efa12b4e4c90779e37e06dfc99cf04a979d5014a351fd51625a566ec", checked := Try.checked }
namespace Rows
def none {H : Type} : Left H := { results := [], args := [] }

/-- 'laws.FnExactEventsFault': WHATEVER THE INPUT: true; the input reads as it did. -/
def fnExactEventsFaultSpec : ChangeSpec := { name := "fnExactEventsFault", fn := fun _ => fun
  | [d] => { results := [.lit (.bool true)], args := [d] }
  | _ => none }
def fnExactEventsFaultRow : OpenClaim := { program := "ytnbohdninedjdaa", sum := "243a36a8efa12b4e4c90779e37e06dfc99cf04a979d5014a351fd51625a566ec", func := "loop.example/g00038/laws.FnExactEventsFault", spec := "fnExactEventsFault", apart := false }
def FnExactEventsFaultSaid : Prop := fnExactEventsFaultRow.holds Try.pinned (OpenSpec.ofChange fnExactEventsFaultSpec)

/-- ITS FALSE NEIGHBOUR: 'it returns false'. Refute it at one input. -/
def fnExactEventsFaultWrong : ChangeSpec := { name := "fnExactEventsFault", fn := fun _ => fun
  | [d] => { results := [.lit (.bool false)], args := [d] }
  | _ => none }
def FnExactEventsFaultWrongFalsely : Prop := fnExactEventsFaultRow.holds Try.pinned (OpenSpec.ofChange fnExactEventsFaultWrong)

/-- 'laws.FnExactPackEvents': WHATEVER THE INPUT: true; the input reads as it did. -/
def fnExactPackEventsSpec : ChangeSpec := { name := "fnExactPackEvents", fn := fun _ => fun
  | [d] => { results := [.lit (.bool true)], args := [d] }
  | _ => none }
def fnExactPackEventsRow : OpenClaim := { program := "ytnbohdninedjdaa", sum := "243a36a8efa12b4e4c90779e37e06dfc99cf04a979d5014a351fd51625a566ec", func := "loop.example/g00038/laws.FnExactPackEvents", spec := "fnExactPackEvents", apart := false }
def FnExactPackEventsSaid : Prop := fnExactPackEventsRow.holds Try.pinned (OpenSpec.ofChange fnExactPackEventsSpec)

/-- ITS FALSE NEIGHBOUR: 'it returns false'. Refute it at one input. -/
def fnExactPackEventsWrong : ChangeSpec := { name := "fnExactPackEvents", fn := fun _ => fun
  | [d] => { results := [.lit (.bool false)], args := [d] }
  | _ => none }
def FnExactPackEventsWrongFalsely : Prop := fnExactPackEventsRow.holds Try.pinned (OpenSpec.ofChange fnExactPackEventsWrong)

/-- 'laws.FnExactUnpackEvents': WHATEVER THE INPUT: true; the input reads as it did. -/
def fnExactUnpackEventsSpec : ChangeSpec := { name := "fnExactUnpackEvents", fn := fun _ => fun
  | [d] => { results := [.lit (.bool true)], args := [d] }
  | _ => none }
def fnExactUnpackEventsRow : OpenClaim := { program := "ytnbohdninedjdaa", sum := "243a36a8efa12b4e4c90779e37e06dfc99cf04a979d5014a351fd51625a566ec", func := "loop.example/g00038/laws.FnExactUnpackEvents", spec := "fnExactUnpackEvents", apart := false }
def FnExactUnpackEventsSaid : Prop := fnExactUnpackEventsRow.holds Try.pinned (OpenSpec.ofChange fnExactUnpackEventsSpec)

/-- ITS FALSE NEIGHBOUR: 'it returns false'. Refute it at one input. -/
def fnExactUnpackEventsWrong : ChangeSpec := { name := "fnExactUnpackEvents", fn := fun _ => fun
  | [d] => { results := [.lit (.bool false)], args := [d] }
  | _ => none }
def FnExactUnpackEventsWrongFalsely : Prop := fnExactUnpackEventsRow.holds Try.pinned (OpenSpec.ofChange fnExactUnpackEventsWrong)

/-- 'laws.FnExactPackMachine': WHATEVER THE INPUT: true; the input reads as it did. -/
def fnExactPackMachineSpec : ChangeSpec := { name := "fnExactPackMachine", fn := fun _ => fun
  | [d] => { results := [.lit (.bool true)], args := [d] }
  | _ => none }
def fnExactPackMachineRow : OpenClaim := { program := "ytnbohdninedjdaa", sum := "243a36a8efa12b4e4c90779e37e06dfc99cf04a979d5014a351fd51625a566ec", func := "loop.example/g00038/laws.FnExactPackMachine", spec := "fnExactPackMachine", inPlace := ["internal/abi.NoEscape", "internal/bytealg.MakeNoZero"], unfollowed := true, recurses := true, apart := false }
def FnExactPackMachineSaid : Prop := fnExactPackMachineRow.holds Try.pinned (OpenSpec.ofChange fnExactPackMachineSpec)

/-- ITS FALSE NEIGHBOUR: 'it returns false'. Refute it at one input. -/
def fnExactPackMachineWrong : ChangeSpec := { name := "fnExactPackMachine", fn := fun _ => fun
  | [d] => { results := [.lit (.bool false)], args := [d] }
  | _ => none }
def FnExactPackMachineWrongFalsely : Prop := fnExactPackMachineRow.holds Try.pinned (OpenSpec.ofChange fnExactPackMachineWrong)

/- THE SECOND FORM. 'bulk': how many values and letters a reading holds, each counted each time it is reached (what is shared counts as often as it is met; a slice's spare places count too). A statement '..UptoSaid' is the law's where the arguments, and the package variables that the reading takes, are together of bulk at most 1048576: NARROWER than '..Said'. Prove '..Said' where nothing that the law and all that it calls make is longer than what came in: it says more and counts as full. Else prove '..UptoSaid'. A law counts once. -/
mutual
def uptoBulk {H : Type} : DataW H → Nat
  | .lit (.string bytes) => bytes.length + 1
  | .lit _ => 1
  | .nil => 1
  | .ptr d => uptoBulk d + 1
  | .slice elems spare => uptoBulkAll elems + uptoBulkAll spare + 1
  | .agg parts => uptoBulkAll parts + 1
  | .iface _ d => uptoBulk d + 1
  | .map entries => uptoBulkEntries entries + 1
  | .held _ => 1
def uptoBulkAll {H : Type} : List (DataW H) → Nat
  | [] => 0
  | d :: r => uptoBulk d + uptoBulkAll r
def uptoBulkEntries {H : Type} : List (Lit × DataW H) → Nat
  | [] => 0
  | x :: r => uptoBulkEntry x + uptoBulkEntries r
def uptoBulkEntry {H : Type} : Lit × DataW H → Nat
  | (.string bytes, d) => bytes.length + uptoBulk d + 1
  | (_, d) => uptoBulk d + 1
 end
def uptoSmall : (H : Type) → List (DataW H) → Bool := fun _ ds => decide (uptoBulkAll ds ≤ 1048576)
def OpenSpec.upto (s : _root_.Go.ChangeSpec) : _root_.Go.OpenSpec := { _root_.Go.OpenSpec.ofChange s with cond := some uptoSmall }

/-- 'laws.FnExactEventsFault', WHERE WHAT IT READS IS OF BULK AT MOST 1048576: true; the input reads as it did. -/
def fnExactEventsFaultUptoRow : OpenClaim := { program := "ytnbohdninedjdaa", sum := "243a36a8efa12b4e4c90779e37e06dfc99cf04a979d5014a351fd51625a566ec", func := "loop.example/g00038/laws.FnExactEventsFault", spec := "fnExactEventsFault", apart := false, narrowed := true }
def FnExactEventsFaultUptoSaid : Prop := fnExactEventsFaultUptoRow.holds Try.pinned (OpenSpec.upto fnExactEventsFaultSpec)

/-- 'laws.FnExactPackEvents', WHERE WHAT IT READS IS OF BULK AT MOST 1048576: true; the input reads as it did. -/
def fnExactPackEventsUptoRow : OpenClaim := { program := "ytnbohdninedjdaa", sum := "243a36a8efa12b4e4c90779e37e06dfc99cf04a979d5014a351fd51625a566ec", func := "loop.example/g00038/laws.FnExactPackEvents", spec := "fnExactPackEvents", apart := false, narrowed := true }
def FnExactPackEventsUptoSaid : Prop := fnExactPackEventsUptoRow.holds Try.pinned (OpenSpec.upto fnExactPackEventsSpec)

/-- 'laws.FnExactUnpackEvents', WHERE WHAT IT READS IS OF BULK AT MOST 1048576: true; the input reads as it did. -/
def fnExactUnpackEventsUptoRow : OpenClaim := { program := "ytnbohdninedjdaa", sum := "243a36a8efa12b4e4c90779e37e06dfc99cf04a979d5014a351fd51625a566ec", func := "loop.example/g00038/laws.FnExactUnpackEvents", spec := "fnExactUnpackEvents", apart := false, narrowed := true }
def FnExactUnpackEventsUptoSaid : Prop := fnExactUnpackEventsUptoRow.holds Try.pinned (OpenSpec.upto fnExactUnpackEventsSpec)

/-- 'laws.FnExactPackMachine', WHERE WHAT IT READS IS OF BULK AT MOST 1048576: true; the input reads as it did. -/
def fnExactPackMachineUptoRow : OpenClaim := { program := "ytnbohdninedjdaa", sum := "243a36a8efa12b4e4c90779e37e06dfc99cf04a979d5014a351fd51625a566ec", func := "loop.example/g00038/laws.FnExactPackMachine", spec := "fnExactPackMachine", inPlace := ["internal/abi.NoEscape", "internal/bytealg.MakeNoZero"], unfollowed := true, recurses := true, apart := false, narrowed := true }
def FnExactPackMachineUptoSaid : Prop := fnExactPackMachineUptoRow.holds Try.pinned (OpenSpec.upto fnExactPackMachineSpec)

end Rows
end Go.Proofs.Ytnbohdninedjdaa
