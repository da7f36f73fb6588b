/-
  No cell of these rows narrows 'for every input' (looked for: loops, veiled, ifaces, maps, wideKeys, modest, calm, conditions, laid).
  DERIVED. THE GIVEN ROWS OF THIS SEAT. 6 by the template 'for every input the law returns true; each argument reads behind the call as it read before'; 0 by the template 'total and deterministic' (their statements: YtmogemcbbcmeoabTotals.lean).
  GIVEN WITH THE SEED: the statements are not yours to turn. If you find one false, say at which input.
  Laid BY PROGRAM, IN A SANDBOX (cutbox-rows.mjs): the forced cells as the released guide's own fill.sh prints them over the translation e422e45c84b67728… (all of the seat's roots in one cut). By AI agents, Wed Nov 11 2026. No macro, syntax, notation, axiom, sorry.
-/
import Derived.Test.YtmogemcbbcmeoabChecked
import GoSem.Claim
import GoSem.ClaimJoined
import GoSem.ClaimMapViews
import Derived.JoinedTies
import Derived.KernelRfl
namespace Go.Proofs.Ytmogemcbbcmeoab
/- THE CELL 'sum', in the pinned program and in every row, IS THE sha256 OF THE DUMP (.gsa) THAT YtmogemcbbcmeoabProg.lean LOADS. Nothing in Lean hashes anything: it is a label: what it is worth is what the hold of that sum in a sandbox is worth. -/
noncomputable def Try.pinned : Pinned := { name := "ytmogemcbbcmeoab", sum := "e422e45c84b677288f46a0cc6e53dd8456fcafcd0f04fb17f0eeb68e1ca2f28b", checked := Try.checked }
namespace Rows
def none {H : Type} : Left H := { results := [], args := [] }

/-- 'laws.FnExactTlbFind': WHATEVER THE INPUT: true; the input reads as it did. -/
def fnExactTlbFindSpec : ChangeSpec := { name := "fnExactTlbFind", fn := fun _ => fun
  | [d1, d2, d3, d4, d5] => { results := [.lit (.bool true)], args := [d1, d2, d3, d4, d5] }
  | _ => none }
def fnExactTlbFindRow : OpenClaim := { program := "ytmogemcbbcmeoab", sum := "e422e45c84b677288f46a0cc6e53dd8456fcafcd0f04fb17f0eeb68e1ca2f28b", func := "loop.example/g00038/laws.FnExactTlbFind", spec := "fnExactTlbFind", unfollowed := true, recurses := true, apart := false }
def FnExactTlbFindSaid : Prop := fnExactTlbFindRow.holds Try.pinned (OpenSpec.ofChange fnExactTlbFindSpec)

/-- ITS FALSE NEIGHBOUR: 'it returns false'. Refute it at one input. -/
def fnExactTlbFindWrong : ChangeSpec := { name := "fnExactTlbFind", fn := fun _ => fun
  | [d1, d2, d3, d4, d5] => { results := [.lit (.bool false)], args := [d1, d2, d3, d4, d5] }
  | _ => none }
def FnExactTlbFindWrongFalsely : Prop := fnExactTlbFindRow.holds Try.pinned (OpenSpec.ofChange fnExactTlbFindWrong)

/-- 'laws.FnExactTlbPut': WHATEVER THE INPUT: true; the input reads as it did. -/
def fnExactTlbPutSpec : ChangeSpec := { name := "fnExactTlbPut", fn := fun _ => fun
  | [d1, d2] => { results := [.lit (.bool true)], args := [d1, d2] }
  | _ => none }
def fnExactTlbPutRow : OpenClaim := { program := "ytmogemcbbcmeoab", sum := "e422e45c84b677288f46a0cc6e53dd8456fcafcd0f04fb17f0eeb68e1ca2f28b", func := "loop.example/g00038/laws.FnExactTlbPut", spec := "fnExactTlbPut", unfollowed := true, recurses := true, apart := false }
def FnExactTlbPutSaid : Prop := fnExactTlbPutRow.holds Try.pinned (OpenSpec.ofChange fnExactTlbPutSpec)

/-- ITS FALSE NEIGHBOUR: 'it returns false'. Refute it at one input. -/
def fnExactTlbPutWrong : ChangeSpec := { name := "fnExactTlbPut", fn := fun _ => fun
  | [d1, d2] => { results := [.lit (.bool false)], args := [d1, d2] }
  | _ => none }
def FnExactTlbPutWrongFalsely : Prop := fnExactTlbPutRow.holds Try.pinned (OpenSpec.ofChange fnExactTlbPutWrong)

/-- 'laws.FnExactTlbFlush': WHATEVER THE INPUT: true; the input reads as it did. -/
def fnExactTlbFlushSpec : ChangeSpec := { name := "fnExactTlbFlush", fn := fun _ => fun
  | [d1, d2, d3] => { results := [.lit (.bool true)], args := [d1, d2, d3] }
  | _ => none }
def fnExactTlbFlushRow : OpenClaim := { program := "ytmogemcbbcmeoab", sum := "e422e45c84b677288f46a0cc6e53dd8456fcafcd0f04fb17f0eeb68e1ca2f28b", func := "loop.example/g00038/laws.FnExactTlbFlush", spec := "fnExactTlbFlush", unfollowed := true, recurses := true, apart := false }
def FnExactTlbFlushSaid : Prop := fnExactTlbFlushRow.holds Try.pinned (OpenSpec.ofChange fnExactTlbFlushSpec)

/-- ITS FALSE NEIGHBOUR: 'it returns false'. Refute it at one input. -/
def fnExactTlbFlushWrong : ChangeSpec := { name := "fnExactTlbFlush", fn := fun _ => fun
  | [d1, d2, d3] => { results := [.lit (.bool false)], args := [d1, d2, d3] }
  | _ => none }
def FnExactTlbFlushWrongFalsely : Prop := fnExactTlbFlushRow.holds Try.pinned (OpenSpec.ofChange fnExactTlbFlushWrong)

/-- 'laws.FnExactNewMachine': WHATEVER THE INPUT: true; the input reads as it did. -/
def fnExactNewMachineSpec : ChangeSpec := { name := "fnExactNewMachine", fn := fun _ => fun
  | [d] => { results := [.lit (.bool true)], args := [d] }
  | _ => none }
def fnExactNewMachineRow : OpenClaim := { program := "ytmogemcbbcmeoab", sum := "e422e45c84b677288f46a0cc6e53dd8456fcafcd0f04fb17f0eeb68e1ca2f28b", func := "loop.example/g00038/laws.FnExactNewMachine", spec := "fnExactNewMachine", apart := false }
def FnExactNewMachineSaid : Prop := fnExactNewMachineRow.holds Try.pinned (OpenSpec.ofChange fnExactNewMachineSpec)

/-- ITS FALSE NEIGHBOUR: 'it returns false'. Refute it at one input. -/
def fnExactNewMachineWrong : ChangeSpec := { name := "fnExactNewMachine", fn := fun _ => fun
  | [d] => { results := [.lit (.bool false)], args := [d] }
  | _ => none }
def FnExactNewMachineWrongFalsely : Prop := fnExactNewMachineRow.holds Try.pinned (OpenSpec.ofChange fnExactNewMachineWrong)

/-- 'laws.FnExactMachineFault': WHATEVER THE INPUT: true; the input reads as it did. -/
def fnExactMachineFaultSpec : ChangeSpec := { name := "fnExactMachineFault", fn := fun _ => fun
  | [d] => { results := [.lit (.bool true)], args := [d] }
  | _ => none }
def fnExactMachineFaultRow : OpenClaim := { program := "ytmogemcbbcmeoab", sum := "e422e45c84b677288f46a0cc6e53dd8456fcafcd0f04fb17f0eeb68e1ca2f28b", func := "loop.example/g00038/laws.FnExactMachineFault", spec := "fnExactMachineFault", unfollowed := true, recurses := true, apart := false }
def FnExactMachineFaultSaid : Prop := fnExactMachineFaultRow.holds Try.pinned (OpenSpec.ofChange fnExactMachineFaultSpec)

/-- ITS FALSE NEIGHBOUR: 'it returns false'. Refute it at one input. -/
def fnExactMachineFaultWrong : ChangeSpec := { name := "fnExactMachineFault", fn := fun _ => fun
  | [d] => { results := [.lit (.bool false)], args := [d] }
  | _ => none }
def FnExactMachineFaultWrongFalsely : Prop := fnExactMachineFaultRow.holds Try.pinned (OpenSpec.ofChange fnExactMachineFaultWrong)

/-- 'laws.FnExactRaiseLine': WHATEVER THE INPUT: true; the input reads as it did. -/
def fnExactRaiseLineSpec : ChangeSpec := { name := "fnExactRaiseLine", fn := fun _ => fun
  | [d1, d2] => { results := [.lit (.bool true)], args := [d1, d2] }
  | _ => none }
def fnExactRaiseLineRow : OpenClaim := { program := "ytmogemcbbcmeoab", sum := "e422e45c84b677288f46a0cc6e53dd8456fcafcd0f04fb17f0eeb68e1ca2f28b", func := "loop.example/g00038/laws.FnExactRaiseLine", spec := "fnExactRaiseLine", unfollowed := true, recurses := true, apart := false }
def FnExactRaiseLineSaid : Prop := fnExactRaiseLineRow.holds Try.pinned (OpenSpec.ofChange fnExactRaiseLineSpec)

/-- ITS FALSE NEIGHBOUR: 'it returns false'. Refute it at one input. -/
def fnExactRaiseLineWrong : ChangeSpec := { name := "fnExactRaiseLine", fn := fun _ => fun
  | [d1, d2] => { results := [.lit (.bool false)], args := [d1, d2] }
  | _ => none }
def FnExactRaiseLineWrongFalsely : Prop := fnExactRaiseLineRow.holds Try.pinned (OpenSpec.ofChange fnExactRaiseLineWrong)

/- THE SECOND FORM. 'bulk': how many values and letters a reading holds, each counted each time it is reached (what is shared counts as often as it is met; a slice's spare places count too). A statement '..UptoSaid' is the law's where the arguments, and the package variables that the reading takes, are together of bulk at most 1048576: NARROWER than '..Said'. Prove '..Said' where nothing that the law and all that it calls make is longer than what came in: it says more and counts as full. Else prove '..UptoSaid'. A law counts once. -/
mutual
def uptoBulk {H : Type} : DataW H → Nat
  | .lit (.string bytes) => bytes.length + 1
  | .lit _ => 1
  | .nil => 1
  | .ptr d => uptoBulk d + 1
  | .slice elems spare => uptoBulkAll elems + uptoBulkAll spare + 1
  | .agg parts => uptoBulkAll parts + 1
  | .iface _ d => uptoBulk d + 1
  | .map entries => uptoBulkEntries entries + 1
  | .held _ => 1
def uptoBulkAll {H : Type} : List (DataW H) → Nat
  | [] => 0
  | d :: r => uptoBulk d + uptoBulkAll r
def uptoBulkEntries {H : Type} : List (Lit × DataW H) → Nat
  | [] => 0
  | x :: r => uptoBulkEntry x + uptoBulkEntries r
def uptoBulkEntry {H : Type} : Lit × DataW H → Nat
  | (.string bytes, d) => bytes.length + uptoBulk d + 1
  | (_, d) => uptoBulk d + 1
 end
def uptoSmall : (H : Type) → List (DataW H) → Bool := fun _ ds => decide (uptoBulkAll ds ≤ 1048576)
def OpenSpec.upto (s : _root_.Go.ChangeSpec) : _root_.Go.OpenSpec := { _root_.Go.OpenSpec.ofChange s with cond := some uptoSmall }

/-- 'laws.FnExactTlbFind', WHERE WHAT IT READS IS OF BULK AT MOST 1048576: true; the input reads as it did. -/
def fnExactTlbFindUptoRow : OpenClaim := { program := "ytmogemcbbcmeoab", sum := "e422e45c84b677288f46a0cc6e53dd8456fcafcd0f04fb17f0eeb68e1ca2f28b", func := "loop.example/g00038/laws.FnExactTlbFind", spec := "fnExactTlbFind", unfollowed := true, recurses := true, apart := false, narrowed := true }
def FnExactTlbFindUptoSaid : Prop := fnExactTlbFindUptoRow.holds Try.pinned (OpenSpec.upto fnExactTlbFindSpec)

/-- 'laws.FnExactTlbPut', WHERE WHAT IT READS IS OF BULK AT MOST 1048576: true; the input reads as it did. -/
def fnExactTlbPutUptoRow : OpenClaim := { program := "ytmogemcbbcmeoab", sum := "e422e45c84b677288f46a0cc6e53dd8456fcafcd0f04fb17f0eeb68e1ca2f28b", func := "loop.example/g00038/laws.FnExactTlbPut", spec := "fnExactTlbPut", unfollowed := true, recurses := true, apart := false, narrowed := true }
def FnExactTlbPutUptoSaid : Prop := fnExactTlbPutUptoRow.holds Try.pinned (OpenSpec.upto fnExactTlbPutSpec)

/-- 'laws.FnExactTlbFlush', WHERE WHAT IT READS IS OF BULK AT MOST 1048576: true; the input reads as it did. -/
def fnExactTlbFlushUptoRow : OpenClaim := { program := "ytmogemcbbcmeoab", sum := "e422e45c84b677288f46a0cc6e53dd8456fcafcd0f04fb17f0eeb68e1ca2f28b", func := "loop.example/g00038/laws.FnExactTlbFlush", spec := "fnExactTlbFlush", unfollowed := true, recurses := true, apart := false, narrowed := true }
def FnExactTlbFlushUptoSaid : Prop := fnExactTlbFlushUptoRow.holds Try.pinned (OpenSpec.upto fnExactTlbFlushSpec)

/-- 'laws.FnExactNewMachine', WHERE WHAT IT READS IS OF BULK AT MOST 1048576: true; the input reads as it did. -/
def fnExactNewMachineUptoRow : OpenClaim := { program := "ytmogemcbbcmeoab", sum := "e422e45c84b677288f46a0cc6e53dd8456fcafcd0f04fb17f0eeb68e1ca2f28b", func := "loop.example/g00038/laws.FnExactNewMachine", spec := "fnExactNewMachine", apart := false, narrowed := true }
def FnExactNewMachineUptoSaid : Prop := fnExactNewMachineUptoRow.holds Try.pinned (OpenSpec.upto fnExactNewMachineSpec)

/-- 'laws.FnExactMachineFault', WHERE WHAT IT READS IS OF BULK AT MOST 1048576: true; the input reads as it did. -/
def fnExactMachineFaultUptoRow : OpenClaim := { program := "ytmogemcbbcmeoab", sum := "e422e45c84b677288f46a0cc6e53dd8456fcafcd0f04fb17f0eeb68e1ca2f28b", func := "loop.example/g00038/laws.FnExactMachineFault", spec := "fnExactMachineFault", unfollowed := true, recurses := true, apart := false, narrowed := true }
def FnExactMachineFaultUptoSaid : Prop := fnExactMachineFaultUptoRow.holds Try.pinned (OpenSpec.upto fnExactMachineFaultSpec)

/-- 'laws.FnExactRaiseLine', WHERE WHAT IT READS IS OF BULK AT MOST 1048576: true; the input reads as it did. -/
def fnExactRaiseLineUptoRow : OpenClaim := { program := "ytmogemcbbcmeoab", sum := "e422e45c84b677288f46a0cc6e53dd8456fcafcd0f04fb17f0eeb68e1ca2f28b", func := "loop.example/g00038/laws.FnExactRaiseLine", spec := "fnExactRaiseLine", unfollowed := true, recurses := true, apart := false, narrowed := true }
def FnExactRaiseLineUptoSaid : Prop := fnExactRaiseLineUptoRow.holds Try.pinned (OpenSpec.upto fnExactRaiseLineSpec)

end Rows
end Go.Proofs.Ytmogemcbbcmeoab
