/-
  No cell of these rows narrows 'for every input' (looked for: loops, veiled, ifaces, maps, wideKeys, modest, calm, conditions, laid).
  DERIVED. THE GIVEN ROWS OF THIS SEAT. 5 by the template 'for every input the law returns true; each argument reads behind the call as it read before'; 0 by the template 'total and deterministic' (their statements: YtdlodflinibaoaaTotals.lean).
  GIVEN WITH THE SEED: the statements are not yours to turn. If you find one false, say at which input.
  Laid BY PROGRAM, IN A SANDBOX (cutbox-rows.mjs): the forced cells as the released guide's own fill.sh prints them over the translation 032909edc10b52fd… (all of the seat's roots in one cut). By AI agents, Wed Nov 11 2026. No macro, syntax, notation, axiom, sorry.
-/
import Derived.Test.YtdlodflinibaoaaChecked
import GoSem.Claim
import GoSem.ClaimJoined
import GoSem.ClaimMapViews
import Derived.JoinedTies
import Derived.KernelRfl
namespace Go.Proofs.Ytdlodflinibaoaa
/- THE CELL 'sum', in the pinned program and in every row, IS THE sha256 OF THE DUMP (.gsa) THAT YtdlodflinibaoaaProg.lean LOADS. Nothing in Lean hashes anything: it is a label: what it is worth is what the hold of that sum in a sandbox is worth. -/
noncomputable def Try.pinned : Pinned := { name := "ytdlodflinibaoaa", sum := "032909edc10b52fd78fcf9094faecee0d02d7b71fdbeb365385abecf358efd69", checked := Try.checked }
namespace Rows
def none {H : Type} : Left H := { results := [], args := [] }

/-- 'laws.FnExactRunSerial': WHATEVER THE INPUT: true; the input reads as it did. -/
def fnExactRunSerialSpec : ChangeSpec := { name := "fnExactRunSerial", fn := fun _ => fun
  | [d1, d2] => { results := [.lit (.bool true)], args := [d1, d2] }
  | _ => none }
def fnExactRunSerialRow : OpenClaim := { program := "ytdlodflinibaoaa", sum := "032909edc10b52fd78fcf9094faecee0d02d7b71fdbeb365385abecf358efd69", func := "loop.example/g00038/laws.FnExactRunSerial", spec := "fnExactRunSerial", unfollowed := true, recurses := true, apart := false }
def FnExactRunSerialSaid : Prop := fnExactRunSerialRow.holds Try.pinned (OpenSpec.ofChange fnExactRunSerialSpec)

/-- ITS FALSE NEIGHBOUR: 'it returns false'. Refute it at one input. -/
def fnExactRunSerialWrong : ChangeSpec := { name := "fnExactRunSerial", fn := fun _ => fun
  | [d1, d2] => { results := [.lit (.bool false)], args := [d1, d2] }
  | _ => none }
def FnExactRunSerialWrongFalsely : Prop := fnExactRunSerialRow.holds Try.pinned (OpenSpec.ofChange fnExactRunSerialWrong)

/-- 'laws.FnExactDmaRead': WHATEVER THE INPUT: true; the input reads as it did. -/
def fnExactDmaReadSpec : ChangeSpec := { name := "fnExactDmaRead", fn := fun _ => fun
  | [d1, d2, d3, d4] => { results := [.lit (.bool true)], args := [d1, d2, d3, d4] }
  | _ => none }
def fnExactDmaReadRow : OpenClaim := { program := "ytdlodflinibaoaa", sum := "032909edc10b52fd78fcf9094faecee0d02d7b71fdbeb365385abecf358efd69", func := "loop.example/g00038/laws.FnExactDmaRead", spec := "fnExactDmaRead", unfollowed := true, recurses := true, apart := false }
def FnExactDmaReadSaid : Prop := fnExactDmaReadRow.holds Try.pinned (OpenSpec.ofChange fnExactDmaReadSpec)

/-- ITS FALSE NEIGHBOUR: 'it returns false'. Refute it at one input. -/
def fnExactDmaReadWrong : ChangeSpec := { name := "fnExactDmaRead", fn := fun _ => fun
  | [d1, d2, d3, d4] => { results := [.lit (.bool false)], args := [d1, d2, d3, d4] }
  | _ => none }
def FnExactDmaReadWrongFalsely : Prop := fnExactDmaReadRow.holds Try.pinned (OpenSpec.ofChange fnExactDmaReadWrong)

/-- 'laws.FnExactDmaWrite': WHATEVER THE INPUT: true; the input reads as it did. -/
def fnExactDmaWriteSpec : ChangeSpec := { name := "fnExactDmaWrite", fn := fun _ => fun
  | [d1, d2, d3, d4] => { results := [.lit (.bool true)], args := [d1, d2, d3, d4] }
  | _ => none }
def fnExactDmaWriteRow : OpenClaim := { program := "ytdlodflinibaoaa", sum := "032909edc10b52fd78fcf9094faecee0d02d7b71fdbeb365385abecf358efd69", func := "loop.example/g00038/laws.FnExactDmaWrite", spec := "fnExactDmaWrite", unfollowed := true, recurses := true, apart := false }
def FnExactDmaWriteSaid : Prop := fnExactDmaWriteRow.holds Try.pinned (OpenSpec.ofChange fnExactDmaWriteSpec)

/-- ITS FALSE NEIGHBOUR: 'it returns false'. Refute it at one input. -/
def fnExactDmaWriteWrong : ChangeSpec := { name := "fnExactDmaWrite", fn := fun _ => fun
  | [d1, d2, d3, d4] => { results := [.lit (.bool false)], args := [d1, d2, d3, d4] }
  | _ => none }
def FnExactDmaWriteWrongFalsely : Prop := fnExactDmaWriteRow.holds Try.pinned (OpenSpec.ofChange fnExactDmaWriteWrong)

/-- 'laws.FnSpread': WHATEVER THE INPUT: true; the input reads as it did. -/
def fnSpreadSpec : ChangeSpec := { name := "fnSpread", fn := fun _ => fun
  | [d] => { results := [.lit (.bool true)], args := [d] }
  | _ => none }
def fnSpreadRow : OpenClaim := { program := "ytdlodflinibaoaa", sum := "032909edc10b52fd78fcf9094faecee0d02d7b71fdbeb365385abecf358efd69", func := "loop.example/g00038/laws.FnSpread", spec := "fnSpread", apart := false }
def FnSpreadSaid : Prop := fnSpreadRow.holds Try.pinned (OpenSpec.ofChange fnSpreadSpec)

/-- ITS FALSE NEIGHBOUR: 'it returns false'. Refute it at one input. -/
def fnSpreadWrong : ChangeSpec := { name := "fnSpread", fn := fun _ => fun
  | [d] => { results := [.lit (.bool false)], args := [d] }
  | _ => none }
def FnSpreadWrongFalsely : Prop := fnSpreadRow.holds Try.pinned (OpenSpec.ofChange fnSpreadWrong)

/-- 'laws.FnChains': WHATEVER THE INPUT: true; the input reads as it did. -/
def fnChainsSpec : ChangeSpec := { name := "fnChains", fn := fun _ => fun
  | [d] => { results := [.lit (.bool true)], args := [d] }
  | _ => none }
def fnChainsRow : OpenClaim := { program := "ytdlodflinibaoaa", sum := "032909edc10b52fd78fcf9094faecee0d02d7b71fdbeb365385abecf358efd69", func := "loop.example/g00038/laws.FnChains", spec := "fnChains", unfollowed := true, recurses := true, apart := false }
def FnChainsSaid : Prop := fnChainsRow.holds Try.pinned (OpenSpec.ofChange fnChainsSpec)

/-- ITS FALSE NEIGHBOUR: 'it returns false'. Refute it at one input. -/
def fnChainsWrong : ChangeSpec := { name := "fnChains", fn := fun _ => fun
  | [d] => { results := [.lit (.bool false)], args := [d] }
  | _ => none }
def FnChainsWrongFalsely : Prop := fnChainsRow.holds Try.pinned (OpenSpec.ofChange fnChainsWrong)

/- THE SECOND FORM. 'bulk': how many values and letters a reading holds, each counted each time it is reached (what is shared counts as often as it is met; a slice's spare places count too). A statement '..UptoSaid' is the law's where the arguments, and the package variables that the reading takes, are together of bulk at most 1048576: NARROWER than '..Said'. Prove '..Said' where nothing that the law and all that it calls make is longer than what came in: it says more and counts as full. Else prove '..UptoSaid'. A law counts once. -/
mutual
def uptoBulk {H : Type} : DataW H → Nat
  | .lit (.string bytes) => bytes.length + 1
  | .lit _ => 1
  | .nil => 1
  | .ptr d => uptoBulk d + 1
  | .slice elems spare => uptoBulkAll elems + uptoBulkAll spare + 1
  | .agg parts => uptoBulkAll parts + 1
  | .iface _ d => uptoBulk d + 1
  | .map entries => uptoBulkEntries entries + 1
  | .held _ => 1
def uptoBulkAll {H : Type} : List (DataW H) → Nat
  | [] => 0
  | d :: r => uptoBulk d + uptoBulkAll r
def uptoBulkEntries {H : Type} : List (Lit × DataW H) → Nat
  | [] => 0
  | x :: r => uptoBulkEntry x + uptoBulkEntries r
def uptoBulkEntry {H : Type} : Lit × DataW H → Nat
  | (.string bytes, d) => bytes.length + uptoBulk d + 1
  | (_, d) => uptoBulk d + 1
 end
def uptoSmall : (H : Type) → List (DataW H) → Bool := fun _ ds => decide (uptoBulkAll ds ≤ 1048576)
def OpenSpec.upto (s : _root_.Go.ChangeSpec) : _root_.Go.OpenSpec := { _root_.Go.OpenSpec.ofChange s with cond := some uptoSmall }

/-- 'laws.FnExactRunSerial', WHERE WHAT IT READS IS OF BULK AT MOST 1048576: true; the input reads as it did. -/
def fnExactRunSerialUptoRow : OpenClaim := { program := "ytdlodflinibaoaa", sum := "032909edc10b52fd78fcf9094faecee0d02d7b71fdbeb365385abecf358efd69", func := "loop.example/g00038/laws.FnExactRunSerial", spec := "fnExactRunSerial", unfollowed := true, recurses := true, apart := false, narrowed := true }
def FnExactRunSerialUptoSaid : Prop := fnExactRunSerialUptoRow.holds Try.pinned (OpenSpec.upto fnExactRunSerialSpec)

/-- 'laws.FnExactDmaRead', WHERE WHAT IT READS IS OF BULK AT MOST 1048576: true; the input reads as it did. -/
def fnExactDmaReadUptoRow : OpenClaim := { program := "ytdlodflinibaoaa", sum := "032909edc10b52fd78fcf9094faecee0d02d7b71fdbeb365385abecf358efd69", func := "loop.example/g00038/laws.FnExactDmaRead", spec := "fnExactDmaRead", unfollowed := true, recurses := true, apart := false, narrowed := true }
def FnExactDmaReadUptoSaid : Prop := fnExactDmaReadUptoRow.holds Try.pinned (OpenSpec.upto fnExactDmaReadSpec)

/-- 'laws.FnExactDmaWrite', WHERE WHAT IT READS IS OF BULK AT MOST 1048576: true; the input reads as it did. -/
def fnExactDmaWriteUptoRow : OpenClaim := { program := "ytdlodflinibaoaa", sum := "032909edc10b52fd78fcf9094faecee0d02d7b71fdbeb365385abecf358efd69", func := "loop.example/g00038/laws.FnExactDmaWrite", spec := "fnExactDmaWrite", unfollowed := true, recurses := true, apart := false, narrowed := true }
def FnExactDmaWriteUptoSaid : Prop := fnExactDmaWriteUptoRow.holds Try.pinned (OpenSpec.upto fnExactDmaWriteSpec)

/-- 'laws.FnSpread', WHERE WHAT IT READS IS OF BULK AT MOST 1048576: true; the input reads as it did. -/
def fnSpreadUptoRow : OpenClaim := { program := "ytdlodflinibaoaa", sum := "032909edc10b52fd78fcf9094faecee0d02d7b71fdbeb365385abecf358efd69", func := "loop.example/g00038/laws.FnSpread", spec := "fnSpread", apart := false, narrowed := true }
def FnSpreadUptoSaid : Prop := fnSpreadUptoRow.holds Try.pinned (OpenSpec.upto fnSpreadSpec)

/-- 'laws.FnChains', WHERE WHAT IT READS IS OF BULK AT MOST 1048576: true; the input reads as it did. -/
def fnChainsUptoRow : OpenClaim := { program := "ytdlodflinibaoaa", sum := "032909edc10b52fd78fcf9094faecee0d02d7b71fdbeb365385abecf358efd69", func := "loop.example/g00038/laws.FnChains", spec := "fnChains", unfollowed := true, recurses := true, apart := false, narrowed := true }
def FnChainsUptoSaid : Prop := fnChainsUptoRow.holds Try.pinned (OpenSpec.upto fnChainsSpec)

end Rows
end Go.Proofs.Ytdlodflinibaoaa
