/-
  No cell of these rows narrows 'for every input' (looked for: loops, veiled, ifaces, maps, wideKeys, modest, calm, conditions, laid).
  DERIVED. THE GIVEN ROWS OF THIS SEAT. 6 by the template 'for every input the law returns true; each argument reads behind the call as it read before'; 0 by the template 'total and deterministic' (their statements: YtnjilcmahooabakTotals.lean).
  GIVEN WITH THE SEED: the statements are not yours to turn. If you find one false, say at which input.
  Laid BY PROGRAM, IN A SANDBOX (cutbox-rows.mjs): the forced cells as the released guide's own fill.sh prints them over the translation 5bb9dcf594ddbaa8… (all of the seat's roots in one cut). By AI agents, Wed Nov 11 2026. No macro, syntax, notation, axiom, sorry.
-/
import Derived.Test.YtnjilcmahooabakChecked
import GoSem.Claim
import GoSem.ClaimJoined
import GoSem.ClaimMapViews
import Derived.JoinedTies
import Derived.KernelRfl
namespace Go.Proofs.Ytnjilcmahooabak
/- THE CELL 'sum', in the pinned program and in every row, IS THE sha256 OF THE DUMP (.gsa) THAT YtnjilcmahooabakProg.lean LOADS. Nothing in Lean hashes anything: it is a label: what it is worth is what the hold of that sum in a sandbox is worth. -/
noncomputable def Try.pinned : Pinned := { name := "ytnjilcmahooabak", sum := "5bb9dcf594ddbaa8408a1f7a9bcfe6a10717d5c119d4f2db0639d08ded412764", checked := Try.checked }
namespace Rows
def none {H : Type} : Left H := { results := [], args := [] }

/-- 'laws.FnExactField': WHATEVER THE INPUT: true; the input reads as it did. -/
def fnExactFieldSpec : ChangeSpec := { name := "fnExactField", fn := fun _ => fun
  | [d1, d2, d3] => { results := [.lit (.bool true)], args := [d1, d2, d3] }
  | _ => none }
def fnExactFieldRow : OpenClaim := { program := "ytnjilcmahooabak", sum := "5bb9dcf594ddbaa8408a1f7a9bcfe6a10717d5c119d4f2db0639d08ded412764", func := "loop.example/g00038/laws.FnExactField", spec := "fnExactField", apart := false }
def FnExactFieldSaid : Prop := fnExactFieldRow.holds Try.pinned (OpenSpec.ofChange fnExactFieldSpec)

/-- ITS FALSE NEIGHBOUR: 'it returns false'. Refute it at one input. -/
def fnExactFieldWrong : ChangeSpec := { name := "fnExactField", fn := fun _ => fun
  | [d1, d2, d3] => { results := [.lit (.bool false)], args := [d1, d2, d3] }
  | _ => none }
def FnExactFieldWrongFalsely : Prop := fnExactFieldRow.holds Try.pinned (OpenSpec.ofChange fnExactFieldWrong)

/-- 'laws.FnExactWithField': WHATEVER THE INPUT: true; the input reads as it did. -/
def fnExactWithFieldSpec : ChangeSpec := { name := "fnExactWithField", fn := fun _ => fun
  | [d1, d2, d3, d4] => { results := [.lit (.bool true)], args := [d1, d2, d3, d4] }
  | _ => none }
def fnExactWithFieldRow : OpenClaim := { program := "ytnjilcmahooabak", sum := "5bb9dcf594ddbaa8408a1f7a9bcfe6a10717d5c119d4f2db0639d08ded412764", func := "loop.example/g00038/laws.FnExactWithField", spec := "fnExactWithField", apart := false }
def FnExactWithFieldSaid : Prop := fnExactWithFieldRow.holds Try.pinned (OpenSpec.ofChange fnExactWithFieldSpec)

/-- ITS FALSE NEIGHBOUR: 'it returns false'. Refute it at one input. -/
def fnExactWithFieldWrong : ChangeSpec := { name := "fnExactWithField", fn := fun _ => fun
  | [d1, d2, d3, d4] => { results := [.lit (.bool false)], args := [d1, d2, d3, d4] }
  | _ => none }
def FnExactWithFieldWrongFalsely : Prop := fnExactWithFieldRow.holds Try.pinned (OpenSpec.ofChange fnExactWithFieldWrong)

/-- 'laws.FnExactPutWord': WHATEVER THE INPUT: true; the input reads as it did. -/
def fnExactPutWordSpec : ChangeSpec := { name := "fnExactPutWord", fn := fun _ => fun
  | [d] => { results := [.lit (.bool true)], args := [d] }
  | _ => none }
def fnExactPutWordRow : OpenClaim := { program := "ytnjilcmahooabak", sum := "5bb9dcf594ddbaa8408a1f7a9bcfe6a10717d5c119d4f2db0639d08ded412764", func := "loop.example/g00038/laws.FnExactPutWord", spec := "fnExactPutWord", apart := false }
def FnExactPutWordSaid : Prop := fnExactPutWordRow.holds Try.pinned (OpenSpec.ofChange fnExactPutWordSpec)

/-- ITS FALSE NEIGHBOUR: 'it returns false'. Refute it at one input. -/
def fnExactPutWordWrong : ChangeSpec := { name := "fnExactPutWord", fn := fun _ => fun
  | [d] => { results := [.lit (.bool false)], args := [d] }
  | _ => none }
def FnExactPutWordWrongFalsely : Prop := fnExactPutWordRow.holds Try.pinned (OpenSpec.ofChange fnExactPutWordWrong)

/-- 'laws.FnExactGetWord': WHATEVER THE INPUT: true; the input reads as it did. -/
def fnExactGetWordSpec : ChangeSpec := { name := "fnExactGetWord", fn := fun _ => fun
  | [d1, d2] => { results := [.lit (.bool true)], args := [d1, d2] }
  | _ => none }
def fnExactGetWordRow : OpenClaim := { program := "ytnjilcmahooabak", sum := "5bb9dcf594ddbaa8408a1f7a9bcfe6a10717d5c119d4f2db0639d08ded412764", func := "loop.example/g00038/laws.FnExactGetWord", spec := "fnExactGetWord", apart := false }
def FnExactGetWordSaid : Prop := fnExactGetWordRow.holds Try.pinned (OpenSpec.ofChange fnExactGetWordSpec)

/-- ITS FALSE NEIGHBOUR: 'it returns false'. Refute it at one input. -/
def fnExactGetWordWrong : ChangeSpec := { name := "fnExactGetWord", fn := fun _ => fun
  | [d1, d2] => { results := [.lit (.bool false)], args := [d1, d2] }
  | _ => none }
def FnExactGetWordWrongFalsely : Prop := fnExactGetWordRow.holds Try.pinned (OpenSpec.ofChange fnExactGetWordWrong)

/-- 'laws.FnExactSetWord': WHATEVER THE INPUT: true; the input reads as it did. -/
def fnExactSetWordSpec : ChangeSpec := { name := "fnExactSetWord", fn := fun _ => fun
  | [d1, d2, d3] => { results := [.lit (.bool true)], args := [d1, d2, d3] }
  | _ => none }
def fnExactSetWordRow : OpenClaim := { program := "ytnjilcmahooabak", sum := "5bb9dcf594ddbaa8408a1f7a9bcfe6a10717d5c119d4f2db0639d08ded412764", func := "loop.example/g00038/laws.FnExactSetWord", spec := "fnExactSetWord", apart := false }
def FnExactSetWordSaid : Prop := fnExactSetWordRow.holds Try.pinned (OpenSpec.ofChange fnExactSetWordSpec)

/-- ITS FALSE NEIGHBOUR: 'it returns false'. Refute it at one input. -/
def fnExactSetWordWrong : ChangeSpec := { name := "fnExactSetWord", fn := fun _ => fun
  | [d1, d2, d3] => { results := [.lit (.bool false)], args := [d1, d2, d3] }
  | _ => none }
def FnExactSetWordWrongFalsely : Prop := fnExactSetWordRow.holds Try.pinned (OpenSpec.ofChange fnExactSetWordWrong)

/-- 'laws.FnExactPutBit': WHATEVER THE INPUT: true; the input reads as it did. -/
def fnExactPutBitSpec : ChangeSpec := { name := "fnExactPutBit", fn := fun _ => fun
  | [d1, d2, d3] => { results := [.lit (.bool true)], args := [d1, d2, d3] }
  | _ => none }
def fnExactPutBitRow : OpenClaim := { program := "ytnjilcmahooabak", sum := "5bb9dcf594ddbaa8408a1f7a9bcfe6a10717d5c119d4f2db0639d08ded412764", func := "loop.example/g00038/laws.FnExactPutBit", spec := "fnExactPutBit", inPlace := ["internal/abi.NoEscape", "internal/bytealg.MakeNoZero"], apart := false }
def FnExactPutBitSaid : Prop := fnExactPutBitRow.holds Try.pinned (OpenSpec.ofChange fnExactPutBitSpec)

/-- ITS FALSE NEIGHBOUR: 'it returns false'. Refute it at one input. -/
def fnExactPutBitWrong : ChangeSpec := { name := "fnExactPutBit", fn := fun _ => fun
  | [d1, d2, d3] => { results := [.lit (.bool false)], args := [d1, d2, d3] }
  | _ => none }
def FnExactPutBitWrongFalsely : Prop := fnExactPutBitRow.holds Try.pinned (OpenSpec.ofChange fnExactPutBitWrong)

/- THE SECOND FORM. 'bulk': how many values and letters a reading holds, each counted each time it is reached (what is shared counts as often as it is met; a slice's spare places count too). A statement '..UptoSaid' is the law's where the arguments, and the package variables that the reading takes, are together of bulk at most 1048576: NARROWER than '..Said'. Prove '..Said' where nothing that the law and all that it calls make is longer than what came in: it says more and counts as full. Else prove '..UptoSaid'. A law counts once. -/
mutual
def uptoBulk {H : Type} : DataW H → Nat
  | .lit (.string bytes) => bytes.length + 1
  | .lit _ => 1
  | .nil => 1
  | .ptr d => uptoBulk d + 1
  | .slice elems spare => uptoBulkAll elems + uptoBulkAll spare + 1
  | .agg parts => uptoBulkAll parts + 1
  | .iface _ d => uptoBulk d + 1
  | .map entries => uptoBulkEntries entries + 1
  | .held _ => 1
def uptoBulkAll {H : Type} : List (DataW H) → Nat
  | [] => 0
  | d :: r => uptoBulk d + uptoBulkAll r
def uptoBulkEntries {H : Type} : List (Lit × DataW H) → Nat
  | [] => 0
  | x :: r => uptoBulkEntry x + uptoBulkEntries r
def uptoBulkEntry {H : Type} : Lit × DataW H → Nat
  | (.string bytes, d) => bytes.length + uptoBulk d + 1
  | (_, d) => uptoBulk d + 1
 end
def uptoSmall : (H : Type) → List (DataW H) → Bool := fun _ ds => decide (uptoBulkAll ds ≤ 1048576)
def OpenSpec.upto (s : _root_.Go.ChangeSpec) : _root_.Go.OpenSpec := { _root_.Go.OpenSpec.ofChange s with cond := some uptoSmall }

/-- 'laws.FnExactField', WHERE WHAT IT READS IS OF BULK AT MOST 1048576: true; the input reads as it did. -/
def fnExactFieldUptoRow : OpenClaim := { program := "ytnjilcmahooabak", sum := "5bb9dcf594ddbaa8408a1f7a9bcfe6a10717d5c119d4f2db0639d08ded412764", func := "loop.example/g00038/laws.FnExactField", spec := "fnExactField", apart := false, narrowed := true }
def FnExactFieldUptoSaid : Prop := fnExactFieldUptoRow.holds Try.pinned (OpenSpec.upto fnExactFieldSpec)

/-- 'laws.FnExactWithField', WHERE WHAT IT READS IS OF BULK AT MOST 1048576: true; the input reads as it did. -/
def fnExactWithFieldUptoRow : OpenClaim := { program := "ytnjilcmahooabak", sum := "5bb9dcf594ddbaa8408a1f7a9bcfe6a10717d5c119d4f2db0639d08ded412764", func := "loop.example/g00038/laws.FnExactWithField", spec := "fnExactWithField", apart := false, narrowed := true }
def FnExactWithFieldUptoSaid : Prop := fnExactWithFieldUptoRow.holds Try.pinned (OpenSpec.upto fnExactWithFieldSpec)

/-- 'laws.FnExactPutWord', WHERE WHAT IT READS IS OF BULK AT MOST 1048576: true; the input reads as it did. -/
def fnExactPutWordUptoRow : OpenClaim := { program := "ytnjilcmahooabak", sum := "5bb9dcf594ddbaa8408a1f7a9bcfe6a10717d5c119d4f2db0639d08ded412764", func := "loop.example/g00038/laws.FnExactPutWord", spec := "fnExactPutWord", apart := false, narrowed := true }
def FnExactPutWordUptoSaid : Prop := fnExactPutWordUptoRow.holds Try.pinned (OpenSpec.upto fnExactPutWordSpec)

/-- 'laws.FnExactGetWord', WHERE WHAT IT READS IS OF BULK AT MOST 1048576: true; the input reads as it did. -/
def fnExactGetWordUptoRow : OpenClaim := { program := "ytnjilcmahooabak", sum := "5bb9dcf594ddbaa8408a1f7a9bcfe6a10717d5c119d4f2db0639d08ded412764", func := "loop.example/g00038/laws.FnExactGetWord", spec := "fnExactGetWord", apart := false, narrowed := true }
def FnExactGetWordUptoSaid : Prop := fnExactGetWordUptoRow.holds Try.pinned (OpenSpec.upto fnExactGetWordSpec)

/-- 'laws.FnExactSetWord', WHERE WHAT IT READS IS OF BULK AT MOST 1048576: true; the input reads as it did. -/
def fnExactSetWordUptoRow : OpenClaim := { program := "ytnjilcmahooabak", sum := "5bb9dcf594ddbaa8408a1f7a9bcfe6a10717d5c119d4f2db0639d08ded412764", func := "loop.example/g00038/laws.FnExactSetWord", spec := "fnExactSetWord", apart := false, narrowed := true }
def FnExactSetWordUptoSaid : Prop := fnExactSetWordUptoRow.holds Try.pinned (OpenSpec.upto fnExactSetWordSpec)

/-- 'laws.FnExactPutBit', WHERE WHAT IT READS IS OF BULK AT MOST 1048576: true; the input reads as it did. -/
def fnExactPutBitUptoRow : OpenClaim := { program := "ytnjilcmahooabak", sum := "5bb9dcf594ddbaa8408a1f7a9bcfe6a10717d5c119d4f2db0639d08ded412764", func := "loop.example/g00038/laws.FnExactPutBit", spec := "fnExactPutBit", inPlace := ["internal/abi.NoEscape", "internal/bytealg.MakeNoZero"], apart := false, narrowed := true }
def FnExactPutBitUptoSaid : Prop := fnExactPutBitUptoRow.holds Try.pinned (OpenSpec.upto fnExactPutBitSpec)

end Rows
end Go.Proofs.Ytnjilcmahooabak
