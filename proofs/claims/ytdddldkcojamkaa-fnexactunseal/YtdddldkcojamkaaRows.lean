/-
  No cell of these rows narrows 'for every input' (looked for: loops, veiled, ifaces, maps, wideKeys, modest, calm, conditions, laid).
  DERIVED. THE GIVEN ROWS OF THIS SEAT. 6 by the template 'for every input the law returns true; each argument reads behind the call as it read before'; 0 by the template 'total and deterministic' (their statements: YtdddldkcojamkaaTotals.lean).
  GIVEN WITH THE SEED: the statements are not yours to turn. If you find one false, say at which input.
  Laid BY PROGRAM, IN A SANDBOX (cutbox-rows.mjs): the forced cells as the released guide's own fill.sh prints them over the translation 6eb0a752ed79b9f4… (all of the seat's roots in one cut). By AI agents, Wed Nov 11 2026. No macro, syntax, notation, axiom, sorry.
-/
import Derived.Test.YtdddldkcojamkaaChecked
import GoSem.Claim
import GoSem.ClaimJoined
import GoSem.ClaimMapViews
import Derived.JoinedTies
import Derived.KernelRfl
namespace Go.Proofs.Ytdddldkcojamkaa
/- THE CELL 'sum', in the pinned program and in every row, IS THE sha256 OF THE DUMP (.gsa) THAT YtdddldkcojamkaaProg.lean LOADS. Nothing in Lean hashes anything: it is a label: what it is worth is what the hold of that sum in a sandbox is worth. -/
noncomputable def Try.pinned : Pinned := { name := "ytdddldkcojamkaa", sum := "6eb0a752ed79b9f45bd98a1f48936424b3a7b1cb27c454b62d5e1afc4b8e257a", checked := Try.checked }
namespace Rows
def none {H : Type} : Left H := { results := [], args := [] }

/-- 'laws.FnExactMix': WHATEVER THE INPUT: true; the input reads as it did. -/
def fnExactMixSpec : ChangeSpec := { name := "fnExactMix", fn := fun _ => fun
  | [d1, d2] => { results := [.lit (.bool true)], args := [d1, d2] }
  | _ => none }
def fnExactMixRow : OpenClaim := { program := "ytdddldkcojamkaa", sum := "6eb0a752ed79b9f45bd98a1f48936424b3a7b1cb27c454b62d5e1afc4b8e257a", func := "loop.example/g00038/laws.FnExactMix", spec := "fnExactMix", apart := false }
def FnExactMixSaid : Prop := fnExactMixRow.holds Try.pinned (OpenSpec.ofChange fnExactMixSpec)

/-- ITS FALSE NEIGHBOUR: 'it returns false'. Refute it at one input. -/
def fnExactMixWrong : ChangeSpec := { name := "fnExactMix", fn := fun _ => fun
  | [d1, d2] => { results := [.lit (.bool false)], args := [d1, d2] }
  | _ => none }
def FnExactMixWrongFalsely : Prop := fnExactMixRow.holds Try.pinned (OpenSpec.ofChange fnExactMixWrong)

/-- 'laws.FnExactCrypt': WHATEVER THE INPUT: true; the input reads as it did. -/
def fnExactCryptSpec : ChangeSpec := { name := "fnExactCrypt", fn := fun _ => fun
  | [d1, d2, d3] => { results := [.lit (.bool true)], args := [d1, d2, d3] }
  | _ => none }
def fnExactCryptRow : OpenClaim := { program := "ytdddldkcojamkaa", sum := "6eb0a752ed79b9f45bd98a1f48936424b3a7b1cb27c454b62d5e1afc4b8e257a", func := "loop.example/g00038/laws.FnExactCrypt", spec := "fnExactCrypt", unfollowed := true, recurses := true, apart := false }
def FnExactCryptSaid : Prop := fnExactCryptRow.holds Try.pinned (OpenSpec.ofChange fnExactCryptSpec)

/-- ITS FALSE NEIGHBOUR: 'it returns false'. Refute it at one input. -/
def fnExactCryptWrong : ChangeSpec := { name := "fnExactCrypt", fn := fun _ => fun
  | [d1, d2, d3] => { results := [.lit (.bool false)], args := [d1, d2, d3] }
  | _ => none }
def FnExactCryptWrongFalsely : Prop := fnExactCryptRow.holds Try.pinned (OpenSpec.ofChange fnExactCryptWrong)

/-- 'laws.FnExactTagOf': WHATEVER THE INPUT: true; the input reads as it did. -/
def fnExactTagOfSpec : ChangeSpec := { name := "fnExactTagOf", fn := fun _ => fun
  | [d1, d2] => { results := [.lit (.bool true)], args := [d1, d2] }
  | _ => none }
def fnExactTagOfRow : OpenClaim := { program := "ytdddldkcojamkaa", sum := "6eb0a752ed79b9f45bd98a1f48936424b3a7b1cb27c454b62d5e1afc4b8e257a", func := "loop.example/g00038/laws.FnExactTagOf", spec := "fnExactTagOf", unfollowed := true, recurses := true, apart := false }
def FnExactTagOfSaid : Prop := fnExactTagOfRow.holds Try.pinned (OpenSpec.ofChange fnExactTagOfSpec)

/-- ITS FALSE NEIGHBOUR: 'it returns false'. Refute it at one input. -/
def fnExactTagOfWrong : ChangeSpec := { name := "fnExactTagOf", fn := fun _ => fun
  | [d1, d2] => { results := [.lit (.bool false)], args := [d1, d2] }
  | _ => none }
def FnExactTagOfWrongFalsely : Prop := fnExactTagOfRow.holds Try.pinned (OpenSpec.ofChange fnExactTagOfWrong)

/-- 'laws.FnExactMeasure': WHATEVER THE INPUT: true; the input reads as it did. -/
def fnExactMeasureSpec : ChangeSpec := { name := "fnExactMeasure", fn := fun _ => fun
  | [d1, d2] => { results := [.lit (.bool true)], args := [d1, d2] }
  | _ => none }
def fnExactMeasureRow : OpenClaim := { program := "ytdddldkcojamkaa", sum := "6eb0a752ed79b9f45bd98a1f48936424b3a7b1cb27c454b62d5e1afc4b8e257a", func := "loop.example/g00038/laws.FnExactMeasure", spec := "fnExactMeasure", unfollowed := true, recurses := true, apart := false }
def FnExactMeasureSaid : Prop := fnExactMeasureRow.holds Try.pinned (OpenSpec.ofChange fnExactMeasureSpec)

/-- ITS FALSE NEIGHBOUR: 'it returns false'. Refute it at one input. -/
def fnExactMeasureWrong : ChangeSpec := { name := "fnExactMeasure", fn := fun _ => fun
  | [d1, d2] => { results := [.lit (.bool false)], args := [d1, d2] }
  | _ => none }
def FnExactMeasureWrongFalsely : Prop := fnExactMeasureRow.holds Try.pinned (OpenSpec.ofChange fnExactMeasureWrong)

/-- 'laws.FnExactSeal': WHATEVER THE INPUT: true; the input reads as it did. -/
def fnExactSealSpec : ChangeSpec := { name := "fnExactSeal", fn := fun _ => fun
  | [d1, d2, d3, d4] => { results := [.lit (.bool true)], args := [d1, d2, d3, d4] }
  | _ => none }
def fnExactSealRow : OpenClaim := { program := "ytdddldkcojamkaa", sum := "6eb0a752ed79b9f45bd98a1f48936424b3a7b1cb27c454b62d5e1afc4b8e257a", func := "loop.example/g00038/laws.FnExactSeal", spec := "fnExactSeal", unfollowed := true, recurses := true, apart := false }
def FnExactSealSaid : Prop := fnExactSealRow.holds Try.pinned (OpenSpec.ofChange fnExactSealSpec)

/-- ITS FALSE NEIGHBOUR: 'it returns false'. Refute it at one input. -/
def fnExactSealWrong : ChangeSpec := { name := "fnExactSeal", fn := fun _ => fun
  | [d1, d2, d3, d4] => { results := [.lit (.bool false)], args := [d1, d2, d3, d4] }
  | _ => none }
def FnExactSealWrongFalsely : Prop := fnExactSealRow.holds Try.pinned (OpenSpec.ofChange fnExactSealWrong)

/-- 'laws.FnExactUnseal': WHATEVER THE INPUT: true; the input reads as it did. -/
def fnExactUnsealSpec : ChangeSpec := { name := "fnExactUnseal", fn := fun _ => fun
  | [d1, d2, d3] => { results := [.lit (.bool true)], args := [d1, d2, d3] }
  | _ => none }
def fnExactUnsealRow : OpenClaim := { program := "ytdddldkcojamkaa", sum := "6eb0a752ed79b9f45bd98a1f48936424b3a7b1cb27c454b62d5e1afc4b8e257a", func := "loop.example/g00038/laws.FnExactUnseal", spec := "fnExactUnseal", unfollowed := true, recurses := true, apart := false }
def FnExactUnsealSaid : Prop := fnExactUnsealRow.holds Try.pinned (OpenSpec.ofChange fnExactUnsealSpec)

/-- ITS FALSE NEIGHBOUR: 'it returns false'. Refute it at one input. -/
def fnExactUnsealWrong : ChangeSpec := { name := "fnExactUnseal", fn := fun _ => fun
  | [d1, d2, d3] => { results := [.lit (.bool false)], args := [d1, d2, d3] }
  | _ => none }
def FnExactUnsealWrongFalsely : Prop := fnExactUnsealRow.holds Try.pinned (OpenSpec.ofChange fnExactUnsealWrong)

/- THE SECOND FORM. 'bulk': how many values and letters a reading holds, each counted each time it is reached (what is shared counts as often as it is met; a slice's spare places count too). A statement '..UptoSaid' is the law's where the arguments, and the package variables that the reading takes, are together of bulk at most 1048576: NARROWER than '..Said'. Prove '..Said' where nothing that the law and all that it calls make is longer than what came in: it says more and counts as full. Else prove '..UptoSaid'. A law counts once. -/
mutual
def uptoBulk {H : Type} : DataW H → Nat
  | .lit (.string bytes) => bytes.length + 1
  | .lit _ => 1
  | .nil => 1
  | .ptr d => uptoBulk d + 1
  | .slice elems spare => uptoBulkAll elems + uptoBulkAll spare + 1
  | .agg parts => uptoBulkAll parts + 1
  | .iface _ d => uptoBulk d + 1
  | .map entries => uptoBulkEntries entries + 1
  | .held _ => 1
def uptoBulkAll {H : Type} : List (DataW H) → Nat
  | [] => 0
  | d :: r => uptoBulk d + uptoBulkAll r
def uptoBulkEntries {H : Type} : List (Lit × DataW H) → Nat
  | [] => 0
  | x :: r => uptoBulkEntry x + uptoBulkEntries r
def uptoBulkEntry {H : Type} : Lit × DataW H → Nat
  | (.string bytes, d) => bytes.length + uptoBulk d + 1
  | (_, d) => uptoBulk d + 1
 end
def uptoSmall : (H : Type) → List (DataW H) → Bool := fun _ ds => decide (uptoBulkAll ds ≤ 1048576)
def OpenSpec.upto (s : _root_.Go.ChangeSpec) : _root_.Go.OpenSpec := { _root_.Go.OpenSpec.ofChange s with cond := some uptoSmall }

/-- 'laws.FnExactMix', WHERE WHAT IT READS IS OF BULK AT MOST 1048576: true; the input reads as it did. -/
def fnExactMixUptoRow : OpenClaim := { program := "ytdddldkcojamkaa", sum := "6eb0a752ed79b9f45bd98a1f48936424b3a7b1cb27c454b62d5e1afc4b8e257a", func := "loop.example/g00038/laws.FnExactMix", spec := "fnExactMix", apart := false, narrowed := true }
def FnExactMixUptoSaid : Prop := fnExactMixUptoRow.holds Try.pinned (OpenSpec.upto fnExactMixSpec)

/-- 'laws.FnExactCrypt', WHERE WHAT IT READS IS OF BULK AT MOST 1048576: true; the input reads as it did. -/
def fnExactCryptUptoRow : OpenClaim := { program := "ytdddldkcojamkaa", sum := "6eb0a752ed79b9f45bd98a1f48936424b3a7b1cb27c454b62d5e1afc4b8e257a", func := "loop.example/g00038/laws.FnExactCrypt", spec := "fnExactCrypt", unfollowed := true, recurses := true, apart := false, narrowed := true }
def FnExactCryptUptoSaid : Prop := fnExactCryptUptoRow.holds Try.pinned (OpenSpec.upto fnExactCryptSpec)

/-- 'laws.FnExactTagOf', WHERE WHAT IT READS IS OF BULK AT MOST 1048576: true; the input reads as it did. -/
def fnExactTagOfUptoRow : OpenClaim := { program := "ytdddldkcojamkaa", sum := "6eb0a752ed79b9f45bd98a1f48936424b3a7b1cb27c454b62d5e1afc4b8e257a", func := "loop.example/g00038/laws.FnExactTagOf", spec := "fnExactTagOf", unfollowed := true, recurses := true, apart := false, narrowed := true }
def FnExactTagOfUptoSaid : Prop := fnExactTagOfUptoRow.holds Try.pinned (OpenSpec.upto fnExactTagOfSpec)

/-- 'laws.FnExactMeasure', WHERE WHAT IT READS IS OF BULK AT MOST 1048576: true; the input reads as it did. -/
def fnExactMeasureUptoRow : OpenClaim := { program := "ytdddldkcojamkaa", sum := "6eb0a752ed79b9f45bd98a1f48936424b3a7b1cb27c454b62d5e1afc4b8e257a", func := "loop.example/g00038/laws.FnExactMeasure", spec := "fnExactMeasure", unfollowed := true, recurses := true, apart := false, narrowed := true }
def FnExactMeasureUptoSaid : Prop := fnExactMeasureUptoRow.holds Try.pinned (OpenSpec.upto fnExactMeasureSpec)

/-- 'laws.FnExactSeal', WHERE WHAT IT READS IS OF BULK AT MOST 1048576: true; the input reads as it did. -/
def fnExactSealUptoRow : OpenClaim := { program := "ytdddldkcojamkaa", sum := "6eb0a752ed79b9f45bd98a1f48936424b3a7b1cb27c454b62d5e1afc4b8e257a", func := "loop.example/g00038/laws.FnExactSeal", spec := "fnExactSeal", unfollowed := true, recurses := true, apart := false, narrowed := true }
def FnExactSealUptoSaid : Prop := fnExactSealUptoRow.holds Try.pinned (OpenSpec.upto fnExactSealSpec)

/-- 'laws.FnExactUnseal', WHERE WHAT IT READS IS OF BULK AT MOST 1048576: true; the input reads as it did. -/
def fnExactUnsealUptoRow : OpenClaim := { program := "ytdddldkcojamkaa", sum := "6eb0a752ed79b9f45bd98a1f48936424b3a7b1cb27c454b62d5e1afc4b8e257a", func := "loop.example/g00038/laws.FnExactUnseal", spec := "fnExactUnseal", unfollowed := true, recurses := true, apart := false, narrowed := true }
def FnExactUnsealUptoSaid : Prop := fnExactUnsealUptoRow.holds Try.pinned (OpenSpec.upto fnExactUnsealSpec)

end Rows
end Go.Proofs.Ytdddldkcojamkaa
