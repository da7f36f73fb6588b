/-
  No cell of these rows narrows 'for every input' (looked for: loops, veiled, ifaces, maps, wideKeys, modest, calm, conditions, laid).
  DERIVED. THE GIVEN ROWS OF THIS SEAT. 4 by the template 'for every input the law returns true; each argument reads behind the call as it read before'; 0 by the template 'total and deterministic' (their statements: YtoihmaefdchicaaTotals.lean).
  GIVEN WITH THE SEED: the statements are not yours to turn. If you find one false, say at which input.
  Laid BY PROGRAM, IN A SANDBOX (cutbox-rows.mjs): the forced cells as the released guide's own fill.sh prints them over the translation eba0b13f3f1a13bd… (all of the seat's roots in one cut). By AI agents, Wed Nov 11 2026. No macro, syntax, notation, axiom, sorry.
-/
import Derived.Test.YtoihmaefdchicaaChecked
import GoSem.Claim
import GoSem.ClaimJoined
import GoSem.ClaimMapViews
import Derived.JoinedTies
import Derived.KernelRfl
namespace Go.Proofs.Ytoihmaefdchicaa
/- THE CELL 'sum', in the pinned program and in every row, IS THE sha256 OF THE DUMP (.gsa) THAT YtoihmaefdchicaaProg.lean LOADS. Nothing in Lean hashes anything: it is a label: what it is worth is what the hold of that sum in a sandbox is worth. -/
noncomputable def Try.pinned : Pinned := { name := "ytoihmaefdchicaa", sum := "eba0b13f3f1a13bd0e43e8fef7ac1d865da72415afc35f5dd8e12d895f1c6ce3", checked := Try.checked }
namespace Rows
def none {H : Type} : Left H := { results := [], args := [] }

/-- 'laws.FnMapped': WHATEVER THE INPUT: true; the input reads as it did. -/
def fnMappedSpec : ChangeSpec := { name := "fnMapped", fn := fun _ => fun
  | [d] => { results := [.lit (.bool true)], args := [d] }
  | _ => none }
def fnMappedRow : OpenClaim := { program := "ytoihmaefdchicaa", sum := "eba0b13f3f1a13bd0e43e8fef7ac1d865da72415afc35f5dd8e12d895f1c6ce3", func := "loop.example/g00038/laws.FnMapped", spec := "fnMapped", unfollowed := true, recurses := true, apart := false }
def FnMappedSaid : Prop := fnMappedRow.holds Try.pinned (OpenSpec.ofChange fnMappedSpec)

/-- ITS FALSE NEIGHBOUR: 'it returns false'. Refute it at one input. -/
def fnMappedWrong : ChangeSpec := { name := "fnMapped", fn := fun _ => fun
  | [d] => { results := [.lit (.bool false)], args := [d] }
  | _ => none }
def FnMappedWrongFalsely : Prop := fnMappedRow.holds Try.pinned (OpenSpec.ofChange fnMappedWrong)

/-- 'laws.FnWalked': WHATEVER THE INPUT: true; the input reads as it did. -/
def fnWalkedSpec : ChangeSpec := { name := "fnWalked", fn := fun _ => fun
  | [d] => { results := [.lit (.bool true)], args := [d] }
  | _ => none }
def fnWalkedRow : OpenClaim := { program := "ytoihmaefdchicaa", sum := "eba0b13f3f1a13bd0e43e8fef7ac1d865da72415afc35f5dd8e12d895f1c6ce3", func := "loop.example/g00038/laws.FnWalked", spec := "fnWalked", unfollowed := true, recurses := true, apart := false }
def FnWalkedSaid : Prop := fnWalkedRow.holds Try.pinned (OpenSpec.ofChange fnWalkedSpec)

/-- ITS FALSE NEIGHBOUR: 'it returns false'. Refute it at one input. -/
def fnWalkedWrong : ChangeSpec := { name := "fnWalked", fn := fun _ => fun
  | [d] => { results := [.lit (.bool false)], args := [d] }
  | _ => none }
def FnWalkedWrongFalsely : Prop := fnWalkedRow.holds Try.pinned (OpenSpec.ofChange fnWalkedWrong)

/-- 'laws.FnTwoWalks': WHATEVER THE INPUT: true; the input reads as it did. -/
def fnTwoWalksSpec : ChangeSpec := { name := "fnTwoWalks", fn := fun _ => fun
  | [d] => { results := [.lit (.bool true)], args := [d] }
  | _ => none }
def fnTwoWalksRow : OpenClaim := { program := "ytoihmaefdchicaa", sum := "eba0b13f3f1a13bd0e43e8fef7ac1d865da72415afc35f5dd8e12d895f1c6ce3", func := "loop.example/g00038/laws.FnTwoWalks", spec := "fnTwoWalks", unfollowed := true, recurses := true, apart := false }
def FnTwoWalksSaid : Prop := fnTwoWalksRow.holds Try.pinned (OpenSpec.ofChange fnTwoWalksSpec)

/-- ITS FALSE NEIGHBOUR: 'it returns false'. Refute it at one input. -/
def fnTwoWalksWrong : ChangeSpec := { name := "fnTwoWalks", fn := fun _ => fun
  | [d] => { results := [.lit (.bool false)], args := [d] }
  | _ => none }
def FnTwoWalksWrongFalsely : Prop := fnTwoWalksRow.holds Try.pinned (OpenSpec.ofChange fnTwoWalksWrong)

/-- 'laws.FnCached': WHATEVER THE INPUT: true; the input reads as it did. -/
def fnCachedSpec : ChangeSpec := { name := "fnCached", fn := fun _ => fun
  | [d1, d2] => { results := [.lit (.bool true)], args := [d1, d2] }
  | _ => none }
def fnCachedRow : OpenClaim := { program := "ytoihmaefdchicaa", sum := "eba0b13f3f1a13bd0e43e8fef7ac1d865da72415afc35f5dd8e12d895f1c6ce3", func := "loop.example/g00038/laws.FnCached", spec := "fnCached", unfollowed := true, recurses := true, apart := false }
def FnCachedSaid : Prop := fnCachedRow.holds Try.pinned (OpenSpec.ofChange fnCachedSpec)

/-- ITS FALSE NEIGHBOUR: 'it returns false'. Refute it at one input. -/
def fnCachedWrong : ChangeSpec := { name := "fnCached", fn := fun _ => fun
  | [d1, d2] => { results := [.lit (.bool false)], args := [d1, d2] }
  | _ => none }
def FnCachedWrongFalsely : Prop := fnCachedRow.holds Try.pinned (OpenSpec.ofChange fnCachedWrong)

/- THE SECOND FORM. 'bulk': how many values and letters a reading holds, each counted each time it is reached (what is shared counts as often as it is met; a slice's spare places count too). A statement '..UptoSaid' is the law's where the arguments, and the package variables that the reading takes, are together of bulk at most 1048576: NARROWER than '..Said'. Prove '..Said' where nothing that the law and all that it calls make is longer than what came in: it says more and counts as full. Else prove '..UptoSaid'. A law counts once. -/
mutual
def uptoBulk {H : Type} : DataW H → Nat
  | .lit (.string bytes) => bytes.length + 1
  | .lit _ => 1
  | .nil => 1
  | .ptr d => uptoBulk d + 1
  | .slice elems spare => uptoBulkAll elems + uptoBulkAll spare + 1
  | .agg parts => uptoBulkAll parts + 1
  | .iface _ d => uptoBulk d + 1
  | .map entries => uptoBulkEntries entries + 1
  | .held _ => 1
def uptoBulkAll {H : Type} : List (DataW H) → Nat
  | [] => 0
  | d :: r => uptoBulk d + uptoBulkAll r
def uptoBulkEntries {H : Type} : List (Lit × DataW H) → Nat
  | [] => 0
  | x :: r => uptoBulkEntry x + uptoBulkEntries r
def uptoBulkEntry {H : Type} : Lit × DataW H → Nat
  | (.string bytes, d) => bytes.length + uptoBulk d + 1
  | (_, d) => uptoBulk d + 1
 end
def uptoSmall : (H : Type) → List (DataW H) → Bool := fun _ ds => decide (uptoBulkAll ds ≤ 1048576)
def OpenSpec.upto (s : _root_.Go.ChangeSpec) : _root_.Go.OpenSpec := { _root_.Go.OpenSpec.ofChange s with cond := some uptoSmall }

/-- 'laws.FnMapped', WHERE WHAT IT READS IS OF BULK AT MOST 1048576: true; the input reads as it did. -/
def fnMappedUptoRow : OpenClaim := { program := "ytoihmaefdchicaa", sum := "eba0b13f3f1a13bd0e43e8fef7ac1d865da72415afc35f5dd8e12d895f1c6ce3", func := "loop.example/g00038/laws.FnMapped", spec := "fnMapped", unfollowed := true, recurses := true, apart := false, narrowed := true }
def FnMappedUptoSaid : Prop := fnMappedUptoRow.holds Try.pinned (OpenSpec.upto fnMappedSpec)

/-- 'laws.FnWalked', WHERE WHAT IT READS IS OF BULK AT MOST 1048576: true; the input reads as it did. -/
def fnWalkedUptoRow : OpenClaim := { program := "ytoihmaefdchicaa", sum := "eba0b13f3f1a13bd0e43e8fef7ac1d865da72415afc35f5dd8e12d895f1c6ce3", func := "loop.example/g00038/laws.FnWalked", spec := "fnWalked", unfollowed := true, recurses := true, apart := false, narrowed := true }
def FnWalkedUptoSaid : Prop := fnWalkedUptoRow.holds Try.pinned (OpenSpec.upto fnWalkedSpec)

/-- 'laws.FnTwoWalks', WHERE WHAT IT READS IS OF BULK AT MOST 1048576: true; the input reads as it did. -/
def fnTwoWalksUptoRow : OpenClaim := { program := "ytoihmaefdchicaa", sum := "eba0b13f3f1a13bd0e43e8fef7ac1d865da72415afc35f5dd8e12d895f1c6ce3", func := "loop.example/g00038/laws.FnTwoWalks", spec := "fnTwoWalks", unfollowed := true, recurses := true, apart := false, narrowed := true }
def FnTwoWalksUptoSaid : Prop := fnTwoWalksUptoRow.holds Try.pinned (OpenSpec.upto fnTwoWalksSpec)

/-- 'laws.FnCached', WHERE WHAT IT READS IS OF BULK AT MOST 1048576: true; the input reads as it did. -/
def fnCachedUptoRow : OpenClaim := { program := "ytoihmaefdchicaa", sum := "eba0b13f3f1a13bd0e43e8fef7ac1d865da72415afc35f5dd8e12d895f1c6ce3", func := "loop.example/g00038/laws.FnCached", spec := "fnCached", unfollowed := true, recurses := true, apart := false, narrowed := true }
def FnCachedUptoSaid : Prop := fnCachedUptoRow.holds Try.pinned (OpenSpec.upto fnCachedSpec)

end Rows
end Go.Proofs.Ytoihmaefdchicaa
