/-
  No cell of these rows narrows 'for every input' (looked for: loops, veiled, ifaces, maps, wideKeys, modest, calm, conditions, laid).
  DERIVED. THE GIVEN ROWS OF THIS SEAT. 6 by the template 'for every input the law returns true; each argument reads behind the call as it read before'; 0 by the template 'total and deterministic' (their statements: YtcglpigmellfcaaTotals.lean).
  GIVEN WITH THE SEED: the statements are not yours to turn. If you find one false, say at which input.
  Laid BY PROGRAM, IN A SANDBOX (cutbox-rows.mjs): the forced cells as the released guide's own fill.sh prints them over the translation 2f038cbe3bac6a7a… (all of the seat's roots in one cut). By AI agents, Wed Nov 11 2026. No macro, syntax, notation, axiom, sorry.
-/
import Derived.Test.YtcglpigmellfcaaChecked
import GoSem.Claim
import GoSem.ClaimJoined
import GoSem.ClaimMapViews
import Derived.JoinedTies
import Derived.KernelRfl
namespace Go.Proofs.Ytcglpigmellfcaa
/- THE CELL 'sum', in the pinned program and in every row, IS THE sha256 OF THE DUMP (.gsa) THAT YtcglpigmellfcaaProg.lean LOADS. Nothing in Lean hashes anything: it is a label: what it is worth is what the hold of that sum in a sandbox is worth. -/
noncomputable def Try.pinned : Pinned := { name := "ytcglpigmellfcaa", sum := "2f038cbe3bac6a7affe9007b6476db09cb0fdd0890d10989c152e8f45df5d643", checked := Try.checked }
namespace Rows
def none {H : Type} : Left H := { results := [], args := [] }

/-- 'laws.FnExactVcpusFault': WHATEVER THE INPUT: true; the input reads as it did. -/
def fnExactVcpusFaultSpec : ChangeSpec := { name := "fnExactVcpusFault", fn := fun _ => fun
  | [d1, d2] => { results := [.lit (.bool true)], args := [d1, d2] }
  | _ => none }
def fnExactVcpusFaultRow : OpenClaim := { program := "ytcglpigmellfcaa", sum := "2f038cbe3bac6a7affe9007b6476db09cb0fdd0890d10989c152e8f45df5d643", func := "loop.example/g00038/laws.FnExactVcpusFault", spec := "fnExactVcpusFault", unfollowed := true, recurses := true, apart := false }
def FnExactVcpusFaultSaid : Prop := fnExactVcpusFaultRow.holds Try.pinned (OpenSpec.ofChange fnExactVcpusFaultSpec)

/-- ITS FALSE NEIGHBOUR: 'it returns false'. Refute it at one input. -/
def fnExactVcpusFaultWrong : ChangeSpec := { name := "fnExactVcpusFault", fn := fun _ => fun
  | [d1, d2] => { results := [.lit (.bool false)], args := [d1, d2] }
  | _ => none }
def FnExactVcpusFaultWrongFalsely : Prop := fnExactVcpusFaultRow.holds Try.pinned (OpenSpec.ofChange fnExactVcpusFaultWrong)

/-- 'laws.FnExactAdmit': WHATEVER THE INPUT: true; the input reads as it did. -/
def fnExactAdmitSpec : ChangeSpec := { name := "fnExactAdmit", fn := fun _ => fun
  | [d] => { results := [.lit (.bool true)], args := [d] }
  | _ => none }
def fnExactAdmitRow : OpenClaim := { program := "ytcglpigmellfcaa", sum := "2f038cbe3bac6a7affe9007b6476db09cb0fdd0890d10989c152e8f45df5d643", func := "loop.example/g00038/laws.FnExactAdmit", spec := "fnExactAdmit", unfollowed := true, recurses := true, apart := false }
def FnExactAdmitSaid : Prop := fnExactAdmitRow.holds Try.pinned (OpenSpec.ofChange fnExactAdmitSpec)

/-- ITS FALSE NEIGHBOUR: 'it returns false'. Refute it at one input. -/
def fnExactAdmitWrong : ChangeSpec := { name := "fnExactAdmit", fn := fun _ => fun
  | [d] => { results := [.lit (.bool false)], args := [d] }
  | _ => none }
def FnExactAdmitWrongFalsely : Prop := fnExactAdmitRow.holds Try.pinned (OpenSpec.ofChange fnExactAdmitWrong)

/-- 'laws.FnExactRunDeadline': WHATEVER THE INPUT: true; the input reads as it did. -/
def fnExactRunDeadlineSpec : ChangeSpec := { name := "fnExactRunDeadline", fn := fun _ => fun
  | [d1, d2] => { results := [.lit (.bool true)], args := [d1, d2] }
  | _ => none }
def fnExactRunDeadlineRow : OpenClaim := { program := "ytcglpigmellfcaa", sum := "2f038cbe3bac6a7affe9007b6476db09cb0fdd0890d10989c152e8f45df5d643", func := "loop.example/g00038/laws.FnExactRunDeadline", spec := "fnExactRunDeadline", unfollowed := true, recurses := true, apart := false }
def FnExactRunDeadlineSaid : Prop := fnExactRunDeadlineRow.holds Try.pinned (OpenSpec.ofChange fnExactRunDeadlineSpec)

/-- ITS FALSE NEIGHBOUR: 'it returns false'. Refute it at one input. -/
def fnExactRunDeadlineWrong : ChangeSpec := { name := "fnExactRunDeadline", fn := fun _ => fun
  | [d1, d2] => { results := [.lit (.bool false)], args := [d1, d2] }
  | _ => none }
def FnExactRunDeadlineWrongFalsely : Prop := fnExactRunDeadlineRow.holds Try.pinned (OpenSpec.ofChange fnExactRunDeadlineWrong)

/-- 'laws.FnExactRunCredit': WHATEVER THE INPUT: true; the input reads as it did. -/
def fnExactRunCreditSpec : ChangeSpec := { name := "fnExactRunCredit", fn := fun _ => fun
  | [d1, d2, d3, d4] => { results := [.lit (.bool true)], args := [d1, d2, d3, d4] }
  | _ => none }
def fnExactRunCreditRow : OpenClaim := { program := "ytcglpigmellfcaa", sum := "2f038cbe3bac6a7affe9007b6476db09cb0fdd0890d10989c152e8f45df5d643", func := "loop.example/g00038/laws.FnExactRunCredit", spec := "fnExactRunCredit", inPlace := ["(*sync.WaitGroup).Add", "internal/race.ReleaseMerge", "internal/race.Disable", "internal/race.Enable", "internal/synctest.IsInBubble", "internal/synctest.Associate[sync.WaitGroup]", "sync.fatal", "sync/atomic.OrUint64", "sync/atomic.AddUint64", "internal/race.Read", "sync/atomic.LoadUint64", "sync/atomic.StoreUint64", "internal/synctest.Disassociate[sync.WaitGroup]", "sync.runtime_Semrelease", "(*sync.WaitGroup).Done", "(*sync.WaitGroup).Wait", "internal/race.Acquire", "internal/synctest.IsAssociated[sync.WaitGroup]", "sync/atomic.CompareAndSwapUint64", "internal/race.Write", "sync.runtime_SemacquireWaitGroup"], unfollowed := true, recurses := true, apart := false }
def FnExactRunCreditSaid : Prop := fnExactRunCreditRow.holds Try.pinned (OpenSpec.ofChange fnExactRunCreditSpec)

/-- ITS FALSE NEIGHBOUR: 'it returns false'. Refute it at one input. -/
def fnExactRunCreditWrong : ChangeSpec := { name := "fnExactRunCredit", fn := fun _ => fun
  | [d1, d2, d3, d4] => { results := [.lit (.bool false)], args := [d1, d2, d3, d4] }
  | _ => none }
def FnExactRunCreditWrongFalsely : Prop := fnExactRunCreditRow.holds Try.pinned (OpenSpec.ofChange fnExactRunCreditWrong)

/-- 'laws.FnExactRunFair': WHATEVER THE INPUT: true; the input reads as it did. -/
def fnExactRunFairSpec : ChangeSpec := { name := "fnExactRunFair", fn := fun _ => fun
  | [d1, d2, d3, d4] => { results := [.lit (.bool true)], args := [d1, d2, d3, d4] }
  | _ => none }
def fnExactRunFairRow : OpenClaim := { program := "ytcglpigmellfcaa", sum := "2f038cbe3bac6a7affe9007b6476db09cb0fdd0890d10989c152e8f45df5d643", func := "loop.example/g00038/laws.FnExactRunFair", spec := "fnExactRunFair", inPlace := ["(*sync.WaitGroup).Add", "internal/race.ReleaseMerge", "internal/race.Disable", "internal/race.Enable", "internal/synctest.IsInBubble", "internal/synctest.Associate[sync.WaitGroup]", "sync.fatal", "sync/atomic.OrUint64", "sync/atomic.AddUint64", "internal/race.Read", "sync/atomic.LoadUint64", "sync/atomic.StoreUint64", "internal/synctest.Disassociate[sync.WaitGroup]", "sync.runtime_Semrelease", "(*sync.WaitGroup).Done", "(*sync.WaitGroup).Wait", "internal/race.Acquire", "internal/synctest.IsAssociated[sync.WaitGroup]", "sync/atomic.CompareAndSwapUint64", "internal/race.Write", "sync.runtime_SemacquireWaitGroup"], unfollowed := true, recurses := true, apart := false }
def FnExactRunFairSaid : Prop := fnExactRunFairRow.holds Try.pinned (OpenSpec.ofChange fnExactRunFairSpec)

/-- ITS FALSE NEIGHBOUR: 'it returns false'. Refute it at one input. -/
def fnExactRunFairWrong : ChangeSpec := { name := "fnExactRunFair", fn := fun _ => fun
  | [d1, d2, d3, d4] => { results := [.lit (.bool false)], args := [d1, d2, d3, d4] }
  | _ => none }
def FnExactRunFairWrongFalsely : Prop := fnExactRunFairRow.holds Try.pinned (OpenSpec.ofChange fnExactRunFairWrong)

/-- 'laws.FnExactRunGang': WHATEVER THE INPUT: true; the input reads as it did. -/
def fnExactRunGangSpec : ChangeSpec := { name := "fnExactRunGang", fn := fun _ => fun
  | [d1, d2, d3, d4, d5] => { results := [.lit (.bool true)], args := [d1, d2, d3, d4, d5] }
  | _ => none }
def fnExactRunGangRow : OpenClaim := { program := "ytcglpigmellfcaa", sum := "2f038cbe3bac6a7affe9007b6476db09cb0fdd0890d10989c152e8f45df5d643", func := "loop.example/g00038/laws.FnExactRunGang", spec := "fnExactRunGang", inPlace := ["(*sync.WaitGroup).Add", "internal/race.ReleaseMerge", "internal/race.Disable", "internal/race.Enable", "internal/synctest.IsInBubble", "internal/synctest.Associate[sync.WaitGroup]", "sync.fatal", "sync/atomic.OrUint64", "sync/atomic.AddUint64", "internal/race.Read", "sync/atomic.LoadUint64", "sync/atomic.StoreUint64", "internal/synctest.Disassociate[sync.WaitGroup]", "sync.runtime_Semrelease", "(*sync.WaitGroup).Done", "(*sync.WaitGroup).Wait", "internal/race.Acquire", "internal/synctest.IsAssociated[sync.WaitGroup]", "sync/atomic.CompareAndSwapUint64", "internal/race.Write", "sync.runtime_SemacquireWaitGroup"], unfollowed := true, recurses := true, apart := false }
def FnExactRunGangSaid : Prop := fnExactRunGangRow.holds Try.pinned (OpenSpec.ofChange fnExactRunGangSpec)

/-- ITS FALSE NEIGHBOUR: 'it returns false'. Refute it at one input. -/
def fnExactRunGangWrong : ChangeSpec := { name := "fnExactRunGang", fn := fun _ => fun
  | [d1, d2, d3, d4, d5] => { results := [.lit (.bool false)], args := [d1, d2, d3, d4, d5] }
  | _ => none }
def FnExactRunGangWrongFalsely : Prop := fnExactRunGangRow.holds Try.pinned (OpenSpec.ofChange fnExactRunGangWrong)

/- THE SECOND FORM. 'bulk': how many values and letters a reading holds, each counted each time it is reached (what is shared counts as often as it is met; a slice's spare places count too). A statement '..UptoSaid' is the law's where the arguments, and the package variables that the reading takes, are together of bulk at most 1048576: NARROWER than '..Said'. Prove '..Said' where nothing that the law and all that it calls make is longer than what came in: it says more and counts as full. Else prove '..UptoSaid'. A law counts once. -/
mutual
def uptoBulk {H : Type} : DataW H → Nat
  | .lit (.string bytes) => bytes.length + 1
  | .lit _ => 1
  | .nil => 1
  | .ptr d => uptoBulk d + 1
  | .slice elems spare => uptoBulkAll elems + uptoBulkAll spare + 1
  | .agg parts => uptoBulkAll parts + 1
  | .iface _ d => uptoBulk d + 1
  | .map entries => uptoBulkEntries entries + 1
  | .held _ => 1
def uptoBulkAll {H : Type} : List (DataW H) → Nat
  | [] => 0
  | d :: r => uptoBulk d + uptoBulkAll r
def uptoBulkEntries {H : Type} : List (Lit × DataW H) → Nat
  | [] => 0
  | x :: r => uptoBulkEntry x + uptoBulkEntries r
def uptoBulkEntry {H : Type} : Lit × DataW H → Nat
  | (.string bytes, d) => bytes.length + uptoBulk d + 1
  | (_, d) => uptoBulk d + 1
 end
def uptoSmall : (H : Type) → List (DataW H) → Bool := fun _ ds => decide (uptoBulkAll ds ≤ 1048576)
def OpenSpec.upto (s : _root_.Go.ChangeSpec) : _root_.Go.OpenSpec := { _root_.Go.OpenSpec.ofChange s with cond := some uptoSmall }

/-- 'laws.FnExactVcpusFault', WHERE WHAT IT READS IS OF BULK AT MOST 1048576: true; the input reads as it did. -/
def fnExactVcpusFaultUptoRow : OpenClaim := { program := "ytcglpigmellfcaa", sum := "2f038cbe3bac6a7affe9007b6476db09cb0fdd0890d10989c152e8f45df5d643", func := "loop.example/g00038/laws.FnExactVcpusFault", spec := "fnExactVcpusFault", unfollowed := true, recurses := true, apart := false, narrowed := true }
def FnExactVcpusFaultUptoSaid : Prop := fnExactVcpusFaultUptoRow.holds Try.pinned (OpenSpec.upto fnExactVcpusFaultSpec)

/-- 'laws.FnExactAdmit', WHERE WHAT IT READS IS OF BULK AT MOST 1048576: true; the input reads as it did. -/
def fnExactAdmitUptoRow : OpenClaim := { program := "ytcglpigmellfcaa", sum := "2f038cbe3bac6a7affe9007b6476db09cb0fdd0890d10989c152e8f45df5d643", func := "loop.example/g00038/laws.FnExactAdmit", spec := "fnExactAdmit", unfollowed := true, recurses := true, apart := false, narrowed := true }
def FnExactAdmitUptoSaid : Prop := fnExactAdmitUptoRow.holds Try.pinned (OpenSpec.upto fnExactAdmitSpec)

/-- 'laws.FnExactRunDeadline', WHERE WHAT IT READS IS OF BULK AT MOST 1048576: true; the input reads as it did. -/
def fnExactRunDeadlineUptoRow : OpenClaim := { program := "ytcglpigmellfcaa", sum := "2f038cbe3bac6a7affe9007b6476db09cb0fdd0890d10989c152e8f45df5d643", func := "loop.example/g00038/laws.FnExactRunDeadline", spec := "fnExactRunDeadline", unfollowed := true, recurses := true, apart := false, narrowed := true }
def FnExactRunDeadlineUptoSaid : Prop := fnExactRunDeadlineUptoRow.holds Try.pinned (OpenSpec.upto fnExactRunDeadlineSpec)

/-- 'laws.FnExactRunCredit', WHERE WHAT IT READS IS OF BULK AT MOST 1048576: true; the input reads as it did. -/
def fnExactRunCreditUptoRow : OpenClaim := { program := "ytcglpigmellfcaa", sum := "2f038cbe3bac6a7affe9007b6476db09cb0fdd0890d10989c152e8f45df5d643", func := "loop.example/g00038/laws.FnExactRunCredit", spec := "fnExactRunCredit", inPlace := ["(*sync.WaitGroup).Add", "internal/race.ReleaseMerge", "internal/race.Disable", "internal/race.Enable", "internal/synctest.IsInBubble", "internal/synctest.Associate[sync.WaitGroup]", "sync.fatal", "sync/atomic.OrUint64", "sync/atomic.AddUint64", "internal/race.Read", "sync/atomic.LoadUint64", "sync/atomic.StoreUint64", "internal/synctest.Disassociate[sync.WaitGroup]", "sync.runtime_Semrelease", "(*sync.WaitGroup).Done", "(*sync.WaitGroup).Wait", "internal/race.Acquire", "internal/synctest.IsAssociated[sync.WaitGroup]", "sync/atomic.CompareAndSwapUint64", "internal/race.Write", "sync.runtime_SemacquireWaitGroup"], unfollowed := true, recurses := true, apart := false, narrowed := true }
def FnExactRunCreditUptoSaid : Prop := fnExactRunCreditUptoRow.holds Try.pinned (OpenSpec.upto fnExactRunCreditSpec)

/-- 'laws.FnExactRunFair', WHERE WHAT IT READS IS OF BULK AT MOST 1048576: true; the input reads as it did. -/
def fnExactRunFairUptoRow : OpenClaim := { program := "ytcglpigmellfcaa", sum := "2f038cbe3bac6a7affe9007b6476db09cb0fdd0890d10989c152e8f45df5d643", func := "loop.example/g00038/laws.FnExactRunFair", spec := "fnExactRunFair", inPlace := ["(*sync.WaitGroup).Add", "internal/race.ReleaseMerge", "internal/race.Disable", "internal/race.Enable", "internal/synctest.IsInBubble", "internal/synctest.Associate[sync.WaitGroup]", "sync.fatal", "sync/atomic.OrUint64", "sync/atomic.AddUint64", "internal/race.Read", "sync/atomic.LoadUint64", "sync/atomic.StoreUint64", "internal/synctest.Disassociate[sync.WaitGroup]", "sync.runtime_Semrelease", "(*sync.WaitGroup).Done", "(*sync.WaitGroup).Wait", "internal/race.Acquire", "internal/synctest.IsAssociated[sync.WaitGroup]", "sync/atomic.CompareAndSwapUint64", "internal/race.Write", "sync.runtime_SemacquireWaitGroup"], unfollowed := true, recurses := true, apart := false, narrowed := true }
def FnExactRunFairUptoSaid : Prop := fnExactRunFairUptoRow.holds Try.pinned (OpenSpec.upto fnExactRunFairSpec)

/-- 'laws.FnExactRunGang', WHERE WHAT IT READS IS OF BULK AT MOST 1048576: true; the input reads as it did. -/
def fnExactRunGangUptoRow : OpenClaim := { program := "ytcglpigmellfcaa", sum := "2f038cbe3bac6a7affe9007b6476db09cb0fdd0890d10989c152e8f45df5d643", func := "loop.example/g00038/laws.FnExactRunGang", spec := "fnExactRunGang", inPlace := ["(*sync.WaitGroup).Add", "internal/race.ReleaseMerge", "internal/race.Disable", "internal/race.Enable", "internal/synctest.IsInBubble", "internal/synctest.Associate[sync.WaitGroup]", "sync.fatal", "sync/atomic.OrUint64", "sync/atomic.AddUint64", "internal/race.Read", "sync/atomic.LoadUint64", "sync/atomic.StoreUint64", "internal/synctest.Disassociate[sync.WaitGroup]", "sync.runtime_Semrelease", "(*sync.WaitGroup).Done", "(*sync.WaitGroup).Wait", "internal/race.Acquire", "internal/synctest.IsAssociated[sync.WaitGroup]", "sync/atomic.CompareAndSwapUint64", "internal/race.Write", "sync.runtime_SemacquireWaitGroup"], unfollowed := true, recurses := true, apart := false, narrowed := true }
def FnExactRunGangUptoSaid : Prop := fnExactRunGangUptoRow.holds Try.pinned (OpenSpec.upto fnExactRunGangSpec)

end Rows
end Go.Proofs.Ytcglpigmellfcaa
