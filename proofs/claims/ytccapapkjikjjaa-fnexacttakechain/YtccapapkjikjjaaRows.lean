/-
  No cell of these rows narrows 'for every input' (looked for: loops, veiled, ifaces, maps, wideKeys, modest, calm, conditions, laid).
  DERIVED. THE GIVEN ROWS OF THIS SEAT. 6 by the template 'for every input the law returns true; each argument reads behind the call as it read before'; 0 by the template 'total and deterministic' (their statements: YtccapapkjikjjaaTotals.lean).
  GIVEN WITH THE SEED: the statements are not yours to turn. If you find one false, say at which input.
  Laid BY PROGRAM, IN A SANDBOX (cutbox-rows.mjs): the forced cells as the released guide's own fill.sh prints them over the translation 4b6d2950f7b4d25c… (all of the seat's roots in one cut). By AI agents, Wed Nov 11 2026. No macro, syntax, notation, axiom, sorry.
-/
import Derived.Test.YtccapapkjikjjaaChecked
import GoSem.Claim
import GoSem.ClaimJoined
import GoSem.ClaimMapViews
import Derived.JoinedTies
import Derived.KernelRfl
namespace Go.Proofs.Ytccapapkjikjjaa
/- THE CELL 'sum', in the pinned program and in every row, IS THE sha256 OF THE DUMP (.gsa) THAT YtccapapkjikjjaaProg.lean LOADS. Nothing in Lean hashes anything: it is a label: what it is worth is what the hold of that sum in a sandbox is worth. -/
noncomputable def Try.pinned : Pinned := { name := "ytccapapkjikjjaa", sum := "4b6d2950f7b4d25c75ab70846f0ddee731543afcd31748d1ec438ce43f325faa", checked := Try.checked }
namespace Rows
def none {H : Type} : Left H := { results := [], args := [] }

/-- 'laws.FnExactRunSerial': WHATEVER THE INPUT: true; the input reads as it did. -/
def fnExactRunSerialSpec : ChangeSpec := { name := "fnExactRunSerial", fn := fun _ => fun
  | [d1, d2] => { results := [.lit (.bool true)], args := [d1, d2] }
  | _ => none }
def fnExactRunSerialRow : OpenClaim := { program := "ytccapapkjikjjaa", sum := "4b6d2950f7b4d25c75ab70846f0ddee731543afcd31748d1ec438ce43f325faa", func := "loop.example/g00038/laws.FnExactRunSerial", spec := "fnExactRunSerial", unfollowed := true, recurses := true, apart := false }
def FnExactRunSerialSaid : Prop := fnExactRunSerialRow.holds Try.pinned (OpenSpec.ofChange fnExactRunSerialSpec)

/-- ITS FALSE NEIGHBOUR: 'it returns false'. Refute it at one input. -/
def fnExactRunSerialWrong : ChangeSpec := { name := "fnExactRunSerial", fn := fun _ => fun
  | [d1, d2] => { results := [.lit (.bool false)], args := [d1, d2] }
  | _ => none }
def FnExactRunSerialWrongFalsely : Prop := fnExactRunSerialRow.holds Try.pinned (OpenSpec.ofChange fnExactRunSerialWrong)

/-- 'laws.FnSerialBytes': WHATEVER THE INPUT: true; the input reads as it did. -/
def fnSerialBytesSpec : ChangeSpec := { name := "fnSerialBytes", fn := fun _ => fun
  | [d] => { results := [.lit (.bool true)], args := [d] }
  | _ => none }
def fnSerialBytesRow : OpenClaim := { program := "ytccapapkjikjjaa", sum := "4b6d2950f7b4d25c75ab70846f0ddee731543afcd31748d1ec438ce43f325faa", func := "loop.example/g00038/laws.FnSerialBytes", spec := "fnSerialBytes", unfollowed := true, recurses := true, apart := false }
def FnSerialBytesSaid : Prop := fnSerialBytesRow.holds Try.pinned (OpenSpec.ofChange fnSerialBytesSpec)

/-- ITS FALSE NEIGHBOUR: 'it returns false'. Refute it at one input. -/
def fnSerialBytesWrong : ChangeSpec := { name := "fnSerialBytes", fn := fun _ => fun
  | [d] => { results := [.lit (.bool false)], args := [d] }
  | _ => none }
def FnSerialBytesWrongFalsely : Prop := fnSerialBytesRow.holds Try.pinned (OpenSpec.ofChange fnSerialBytesWrong)

/-- 'laws.FnExactReadChain': WHATEVER THE INPUT: true; the input reads as it did. -/
def fnExactReadChainSpec : ChangeSpec := { name := "fnExactReadChain", fn := fun _ => fun
  | [d1, d2, d3] => { results := [.lit (.bool true)], args := [d1, d2, d3] }
  | _ => none }
def fnExactReadChainRow : OpenClaim := { program := "ytccapapkjikjjaa", sum := "4b6d2950f7b4d25c75ab70846f0ddee731543afcd31748d1ec438ce43f325faa", func := "loop.example/g00038/laws.FnExactReadChain", spec := "fnExactReadChain", unfollowed := true, recurses := true, apart := false }
def FnExactReadChainSaid : Prop := fnExactReadChainRow.holds Try.pinned (OpenSpec.ofChange fnExactReadChainSpec)

/-- ITS FALSE NEIGHBOUR: 'it returns false'. Refute it at one input. -/
def fnExactReadChainWrong : ChangeSpec := { name := "fnExactReadChain", fn := fun _ => fun
  | [d1, d2, d3] => { results := [.lit (.bool false)], args := [d1, d2, d3] }
  | _ => none }
def FnExactReadChainWrongFalsely : Prop := fnExactReadChainRow.holds Try.pinned (OpenSpec.ofChange fnExactReadChainWrong)

/-- 'laws.FnExactTakeChain': WHATEVER THE INPUT: true; the input reads as it did. -/
def fnExactTakeChainSpec : ChangeSpec := { name := "fnExactTakeChain", fn := fun _ => fun
  | [d1, d2] => { results := [.lit (.bool true)], args := [d1, d2] }
  | _ => none }
def fnExactTakeChainRow : OpenClaim := { program := "ytccapapkjikjjaa", sum := "4b6d2950f7b4d25c75ab70846f0ddee731543afcd31748d1ec438ce43f325faa", func := "loop.example/g00038/laws.FnExactTakeChain", spec := "fnExactTakeChain", unfollowed := true, recurses := true, apart := false }
def FnExactTakeChainSaid : Prop := fnExactTakeChainRow.holds Try.pinned (OpenSpec.ofChange fnExactTakeChainSpec)

/-- ITS FALSE NEIGHBOUR: 'it returns false'. Refute it at one input. -/
def fnExactTakeChainWrong : ChangeSpec := { name := "fnExactTakeChain", fn := fun _ => fun
  | [d1, d2] => { results := [.lit (.bool false)], args := [d1, d2] }
  | _ => none }
def FnExactTakeChainWrongFalsely : Prop := fnExactTakeChainRow.holds Try.pinned (OpenSpec.ofChange fnExactTakeChainWrong)

/-- 'laws.FnExactPostChain': WHATEVER THE INPUT: true; the input reads as it did. -/
def fnExactPostChainSpec : ChangeSpec := { name := "fnExactPostChain", fn := fun _ => fun
  | [d1, d2, d3, d4] => { results := [.lit (.bool true)], args := [d1, d2, d3, d4] }
  | _ => none }
def fnExactPostChainRow : OpenClaim := { program := "ytccapapkjikjjaa", sum := "4b6d2950f7b4d25c75ab70846f0ddee731543afcd31748d1ec438ce43f325faa", func := "loop.example/g00038/laws.FnExactPostChain", spec := "fnExactPostChain", apart := false }
def FnExactPostChainSaid : Prop := fnExactPostChainRow.holds Try.pinned (OpenSpec.ofChange fnExactPostChainSpec)

/-- ITS FALSE NEIGHBOUR: 'it returns false'. Refute it at one input. -/
def fnExactPostChainWrong : ChangeSpec := { name := "fnExactPostChain", fn := fun _ => fun
  | [d1, d2, d3, d4] => { results := [.lit (.bool false)], args := [d1, d2, d3, d4] }
  | _ => none }
def FnExactPostChainWrongFalsely : Prop := fnExactPostChainRow.holds Try.pinned (OpenSpec.ofChange fnExactPostChainWrong)

/-- 'laws.FnExactReceiveFrame': WHATEVER THE INPUT: true; the input reads as it did. -/
def fnExactReceiveFrameSpec : ChangeSpec := { name := "fnExactReceiveFrame", fn := fun _ => fun
  | [d1, d2, d3] => { results := [.lit (.bool true)], args := [d1, d2, d3] }
  | _ => none }
def fnExactReceiveFrameRow : OpenClaim := { program := "ytccapapkjikjjaa", sum := "4b6d2950f7b4d25c75ab70846f0ddee731543afcd31748d1ec438ce43f325faa", func := "loop.example/g00038/laws.FnExactReceiveFrame", spec := "fnExactReceiveFrame", unfollowed := true, recurses := true, apart := false }
def FnExactReceiveFrameSaid : Prop := fnExactReceiveFrameRow.holds Try.pinned (OpenSpec.ofChange fnExactReceiveFrameSpec)

/-- ITS FALSE NEIGHBOUR: 'it returns false'. Refute it at one input. -/
def fnExactReceiveFrameWrong : ChangeSpec := { name := "fnExactReceiveFrame", fn := fun _ => fun
  | [d1, d2, d3] => { results := [.lit (.bool false)], args := [d1, d2, d3] }
  | _ => none }
def FnExactReceiveFrameWrongFalsely : Prop := fnExactReceiveFrameRow.holds Try.pinned (OpenSpec.ofChange fnExactReceiveFrameWrong)

/- THE SECOND FORM. 'bulk': how many values and letters a reading holds, each counted each time it is reached (what is shared counts as often as it is met; a slice's spare places count too). A statement '..UptoSaid' is the law's where the arguments, and the package variables that the reading takes, are together of bulk at most 1048576: NARROWER than '..Said'. Prove '..Said' where nothing that the law and all that it calls make is longer than what came in: it says more and counts as full. Else prove '..UptoSaid'. A law counts once. -/
mutual
def uptoBulk {H : Type} : DataW H → Nat
  | .lit (.string bytes) => bytes.length + 1
  | .lit _ => 1
  | .nil => 1
  | .ptr d => uptoBulk d + 1
  | .slice elems spare => uptoBulkAll elems + uptoBulkAll spare + 1
  | .agg parts => uptoBulkAll parts + 1
  | .iface _ d => uptoBulk d + 1
  | .map entries => uptoBulkEntries entries + 1
  | .held _ => 1
def uptoBulkAll {H : Type} : List (DataW H) → Nat
  | [] => 0
  | d :: r => uptoBulk d + uptoBulkAll r
def uptoBulkEntries {H : Type} : List (Lit × DataW H) → Nat
  | [] => 0
  | x :: r => uptoBulkEntry x + uptoBulkEntries r
def uptoBulkEntry {H : Type} : Lit × DataW H → Nat
  | (.string bytes, d) => bytes.length + uptoBulk d + 1
  | (_, d) => uptoBulk d + 1
 end
def uptoSmall : (H : Type) → List (DataW H) → Bool := fun _ ds => decide (uptoBulkAll ds ≤ 1048576)
def OpenSpec.upto (s : _root_.Go.ChangeSpec) : _root_.Go.OpenSpec := { _root_.Go.OpenSpec.ofChange s with cond := some uptoSmall }

/-- 'laws.FnExactRunSerial', WHERE WHAT IT READS IS OF BULK AT MOST 1048576: true; the input reads as it did. -/
def fnExactRunSerialUptoRow : OpenClaim := { program := "ytccapapkjikjjaa", sum := "4b6d2950f7b4d25c75ab70846f0ddee731543afcd31748d1ec438ce43f325faa", func := "loop.example/g00038/laws.FnExactRunSerial", spec := "fnExactRunSerial", unfollowed := true, recurses := true, apart := false, narrowed := true }
def FnExactRunSerialUptoSaid : Prop := fnExactRunSerialUptoRow.holds Try.pinned (OpenSpec.upto fnExactRunSerialSpec)

/-- 'laws.FnSerialBytes', WHERE WHAT IT READS IS OF BULK AT MOST 1048576: true; the input reads as it did. -/
def fnSerialBytesUptoRow : OpenClaim := { program := "ytccapapkjikjjaa", sum := "4b6d2950f7b4d25c75ab70846f0ddee731543afcd31748d1ec438ce43f325faa", func := "loop.example/g00038/laws.FnSerialBytes", spec := "fnSerialBytes", unfollowed := true, recurses := true, apart := false, narrowed := true }
def FnSerialBytesUptoSaid : Prop := fnSerialBytesUptoRow.holds Try.pinned (OpenSpec.upto fnSerialBytesSpec)

/-- 'laws.FnExactReadChain', WHERE WHAT IT READS IS OF BULK AT MOST 1048576: true; the input reads as it did. -/
def fnExactReadChainUptoRow : OpenClaim := { program := "ytccapapkjikjjaa", sum := "4b6d2950f7b4d25c75ab70846f0ddee731543afcd31748d1ec438ce43f325faa", func := "loop.example/g00038/laws.FnExactReadChain", spec := "fnExactReadChain", unfollowed := true, recurses := true, apart := false, narrowed := true }
def FnExactReadChainUptoSaid : Prop := fnExactReadChainUptoRow.holds Try.pinned (OpenSpec.upto fnExactReadChainSpec)

/-- 'laws.FnExactTakeChain', WHERE WHAT IT READS IS OF BULK AT MOST 1048576: true; the input reads as it did. -/
def fnExactTakeChainUptoRow : OpenClaim := { program := "ytccapapkjikjjaa", sum := "4b6d2950f7b4d25c75ab70846f0ddee731543afcd31748d1ec438ce43f325faa", func := "loop.example/g00038/laws.FnExactTakeChain", spec := "fnExactTakeChain", unfollowed := true, recurses := true, apart := false, narrowed := true }
def FnExactTakeChainUptoSaid : Prop := fnExactTakeChainUptoRow.holds Try.pinned (OpenSpec.upto fnExactTakeChainSpec)

/-- 'laws.FnExactPostChain', WHERE WHAT IT READS IS OF BULK AT MOST 1048576: true; the input reads as it did. -/
def fnExactPostChainUptoRow : OpenClaim := { program := "ytccapapkjikjjaa", sum := "4b6d2950f7b4d25c75ab70846f0ddee731543afcd31748d1ec438ce43f325faa", func := "loop.example/g00038/laws.FnExactPostChain", spec := "fnExactPostChain", apart := false, narrowed := true }
def FnExactPostChainUptoSaid : Prop := fnExactPostChainUptoRow.holds Try.pinned (OpenSpec.upto fnExactPostChainSpec)

/-- 'laws.FnExactReceiveFrame', WHERE WHAT IT READS IS OF BULK AT MOST 1048576: true; the input reads as it did. -/
def fnExactReceiveFrameUptoRow : OpenClaim := { program := "ytccapapkjikjjaa", sum := "4b6d2950f7b4d25c75ab70846f0ddee731543afcd31748d1ec438ce43f325faa", func := "loop.example/g00038/laws.FnExactReceiveFrame", spec := "fnExactReceiveFrame", unfollowed := true, recurses := true, apart := false, narrowed := true }
def FnExactReceiveFrameUptoSaid : Prop := fnExactReceiveFrameUptoRow.holds Try.pinned (OpenSpec.upto fnExactReceiveFrameSpec)

end Rows
end Go.Proofs.Ytccapapkjikjjaa
