/-
  No cell of these rows narrows 'for every input' (looked for: loops, veiled, ifaces, maps, wideKeys, modest, calm, conditions, laid).
  DERIVED. THE GIVEN ROWS OF THIS SEAT. 6 by the template 'for every input the law returns true; each argument reads behind the call as it read before'; 0 by the template 'total and deterministic' (their statements: YtdddldkcojamkabTotals.lean).
  GIVEN WITH THE SEED: the statements are not yours to turn. If you find one false, say at which input.
  Laid BY PROGRAM, IN A SANDBOX (cutbox-rows.mjs): the forced cells as the released guide's own fill.sh prints them over the translation 33445784aaba2d2c… (all of the seat's roots in one cut). By AI agents, Wed Nov 11 2026. No macro, syntax, notation, axiom, sorry.
-/
import Derived.Test.YtdddldkcojamkabChecked
import GoSem.Claim
import GoSem.ClaimJoined
import GoSem.ClaimMapViews
import Derived.JoinedTies
import Derived.KernelRfl
namespace Go.Proofs.Ytdddldkcojamkab
/- THE CELL 'sum', in the pinned program and in every row, IS THE sha256 OF THE DUMP (.gsa) THAT YtdddldkcojamkabProg.lean LOADS. Nothing in Lean hashes anything: it is a label: what it is worth is what the hold of that sum in a sandbox is worth. -/
noncomputable def Try.pinned : Pinned := { name := "ytdddldkcojamkab", sum := "33445784aaba2d2ce4c8381d164bd5c828ee82bc696fedbfa3a281ab64347564", checked := Try.checked }
namespace Rows
def none {H : Type} : Left H := { results := [], args := [] }

/-- 'laws.FnExactPublicOf': WHATEVER THE INPUT: true; the input reads as it did. -/
def fnExactPublicOfSpec : ChangeSpec := { name := "fnExactPublicOf", fn := fun _ => fun
  | [d] => { results := [.lit (.bool true)], args := [d] }
  | _ => none }
def fnExactPublicOfRow : OpenClaim := { program := "ytdddldkcojamkab", sum := "33445784aaba2d2ce4c8381d164bd5c828ee82bc696fedbfa3a281ab64347564", func := "loop.example/g00038/laws.FnExactPublicOf", spec := "fnExactPublicOf", apart := false }
def FnExactPublicOfSaid : Prop := fnExactPublicOfRow.holds Try.pinned (OpenSpec.ofChange fnExactPublicOfSpec)

/-- ITS FALSE NEIGHBOUR: 'it returns false'. Refute it at one input. -/
def fnExactPublicOfWrong : ChangeSpec := { name := "fnExactPublicOf", fn := fun _ => fun
  | [d] => { results := [.lit (.bool false)], args := [d] }
  | _ => none }
def FnExactPublicOfWrongFalsely : Prop := fnExactPublicOfRow.holds Try.pinned (OpenSpec.ofChange fnExactPublicOfWrong)

/-- 'laws.FnExactQuoteOf': WHATEVER THE INPUT: true; the input reads as it did. -/
def fnExactQuoteOfSpec : ChangeSpec := { name := "fnExactQuoteOf", fn := fun _ => fun
  | [d1, d2, d3] => { results := [.lit (.bool true)], args := [d1, d2, d3] }
  | _ => none }
def fnExactQuoteOfRow : OpenClaim := { program := "ytdddldkcojamkab", sum := "33445784aaba2d2ce4c8381d164bd5c828ee82bc696fedbfa3a281ab64347564", func := "loop.example/g00038/laws.FnExactQuoteOf", spec := "fnExactQuoteOf", unfollowed := true, recurses := true, apart := false }
def FnExactQuoteOfSaid : Prop := fnExactQuoteOfRow.holds Try.pinned (OpenSpec.ofChange fnExactQuoteOfSpec)

/-- ITS FALSE NEIGHBOUR: 'it returns false'. Refute it at one input. -/
def fnExactQuoteOfWrong : ChangeSpec := { name := "fnExactQuoteOf", fn := fun _ => fun
  | [d1, d2, d3] => { results := [.lit (.bool false)], args := [d1, d2, d3] }
  | _ => none }
def FnExactQuoteOfWrongFalsely : Prop := fnExactQuoteOfRow.holds Try.pinned (OpenSpec.ofChange fnExactQuoteOfWrong)

/-- 'laws.FnExactCheckQuote': WHATEVER THE INPUT: true; the input reads as it did. -/
def fnExactCheckQuoteSpec : ChangeSpec := { name := "fnExactCheckQuote", fn := fun _ => fun
  | [d1, d2, d3, d4] => { results := [.lit (.bool true)], args := [d1, d2, d3, d4] }
  | _ => none }
def fnExactCheckQuoteRow : OpenClaim := { program := "ytdddldkcojamkab", sum := "33445784aaba2d2ce4c8381d164bd5c828ee82bc696fedbfa3a281ab64347564", func := "loop.example/g00038/laws.FnExactCheckQuote", spec := "fnExactCheckQuote", unfollowed := true, recurses := true, apart := false }
def FnExactCheckQuoteSaid : Prop := fnExactCheckQuoteRow.holds Try.pinned (OpenSpec.ofChange fnExactCheckQuoteSpec)

/-- ITS FALSE NEIGHBOUR: 'it returns false'. Refute it at one input. -/
def fnExactCheckQuoteWrong : ChangeSpec := { name := "fnExactCheckQuote", fn := fun _ => fun
  | [d1, d2, d3, d4] => { results := [.lit (.bool false)], args := [d1, d2, d3, d4] }
  | _ => none }
def FnExactCheckQuoteWrongFalsely : Prop := fnExactCheckQuoteRow.holds Try.pinned (OpenSpec.ofChange fnExactCheckQuoteWrong)

/-- 'laws.FnExactVolumeFault': WHATEVER THE INPUT: true; the input reads as it did. -/
def fnExactVolumeFaultSpec : ChangeSpec := { name := "fnExactVolumeFault", fn := fun _ => fun
  | [d] => { results := [.lit (.bool true)], args := [d] }
  | _ => none }
def fnExactVolumeFaultRow : OpenClaim := { program := "ytdddldkcojamkab", sum := "33445784aaba2d2ce4c8381d164bd5c828ee82bc696fedbfa3a281ab64347564", func := "loop.example/g00038/laws.FnExactVolumeFault", spec := "fnExactVolumeFault", unfollowed := true, recurses := true, apart := false }
def FnExactVolumeFaultSaid : Prop := fnExactVolumeFaultRow.holds Try.pinned (OpenSpec.ofChange fnExactVolumeFaultSpec)

/-- ITS FALSE NEIGHBOUR: 'it returns false'. Refute it at one input. -/
def fnExactVolumeFaultWrong : ChangeSpec := { name := "fnExactVolumeFault", fn := fun _ => fun
  | [d] => { results := [.lit (.bool false)], args := [d] }
  | _ => none }
def FnExactVolumeFaultWrongFalsely : Prop := fnExactVolumeFaultRow.holds Try.pinned (OpenSpec.ofChange fnExactVolumeFaultWrong)

/-- 'laws.FnExactCryptDisk': WHATEVER THE INPUT: true; the input reads as it did. -/
def fnExactCryptDiskSpec : ChangeSpec := { name := "fnExactCryptDisk", fn := fun _ => fun
  | [d1, d2] => { results := [.lit (.bool true)], args := [d1, d2] }
  | _ => none }
def fnExactCryptDiskRow : OpenClaim := { program := "ytdddldkcojamkab", sum := "33445784aaba2d2ce4c8381d164bd5c828ee82bc696fedbfa3a281ab64347564", func := "loop.example/g00038/laws.FnExactCryptDisk", spec := "fnExactCryptDisk", unfollowed := true, recurses := true, apart := false }
def FnExactCryptDiskSaid : Prop := fnExactCryptDiskRow.holds Try.pinned (OpenSpec.ofChange fnExactCryptDiskSpec)

/-- ITS FALSE NEIGHBOUR: 'it returns false'. Refute it at one input. -/
def fnExactCryptDiskWrong : ChangeSpec := { name := "fnExactCryptDisk", fn := fun _ => fun
  | [d1, d2] => { results := [.lit (.bool false)], args := [d1, d2] }
  | _ => none }
def FnExactCryptDiskWrongFalsely : Prop := fnExactCryptDiskRow.holds Try.pinned (OpenSpec.ofChange fnExactCryptDiskWrong)

/-- 'laws.FnCrypted': WHATEVER THE INPUT: true; the input reads as it did. -/
def fnCryptedSpec : ChangeSpec := { name := "fnCrypted", fn := fun _ => fun
  | [d] => { results := [.lit (.bool true)], args := [d] }
  | _ => none }
def fnCryptedRow : OpenClaim := { program := "ytdddldkcojamkab", sum := "33445784aaba2d2ce4c8381d164bd5c828ee82bc696fedbfa3a281ab64347564", func := "loop.example/g00038/laws.FnCrypted", spec := "fnCrypted", unfollowed := true, recurses := true, apart := false }
def FnCryptedSaid : Prop := fnCryptedRow.holds Try.pinned (OpenSpec.ofChange fnCryptedSpec)

/-- ITS FALSE NEIGHBOUR: 'it returns false'. Refute it at one input. -/
def fnCryptedWrong : ChangeSpec := { name := "fnCrypted", fn := fun _ => fun
  | [d] => { results := [.lit (.bool false)], args := [d] }
  | _ => none }
def FnCryptedWrongFalsely : Prop := fnCryptedRow.holds Try.pinned (OpenSpec.ofChange fnCryptedWrong)

/- THE SECOND FORM. 'bulk': how many values and letters a reading holds, each counted each time it is reached (what is shared counts as often as it is met; a slice's spare places count too). A statement '..UptoSaid' is the law's where the arguments, and the package variables that the reading takes, are together of bulk at most 1048576: NARROWER than '..Said'. Prove '..Said' where nothing that the law and all that it calls make is longer than what came in: it says more and counts as full. Else prove '..UptoSaid'. A law counts once. -/
mutual
def uptoBulk {H : Type} : DataW H → Nat
  | .lit (.string bytes) => bytes.length + 1
  | .lit _ => 1
  | .nil => 1
  | .ptr d => uptoBulk d + 1
  | .slice elems spare => uptoBulkAll elems + uptoBulkAll spare + 1
  | .agg parts => uptoBulkAll parts + 1
  | .iface _ d => uptoBulk d + 1
  | .map entries => uptoBulkEntries entries + 1
  | .held _ => 1
def uptoBulkAll {H : Type} : List (DataW H) → Nat
  | [] => 0
  | d :: r => uptoBulk d + uptoBulkAll r
def uptoBulkEntries {H : Type} : List (Lit × DataW H) → Nat
  | [] => 0
  | x :: r => uptoBulkEntry x + uptoBulkEntries r
def uptoBulkEntry {H : Type} : Lit × DataW H → Nat
  | (.string bytes, d) => bytes.length + uptoBulk d + 1
  | (_, d) => uptoBulk d + 1
 end
def uptoSmall : (H : Type) → List (DataW H) → Bool := fun _ ds => decide (uptoBulkAll ds ≤ 1048576)
def OpenSpec.upto (s : _root_.Go.ChangeSpec) : _root_.Go.OpenSpec := { _root_.Go.OpenSpec.ofChange s with cond := some uptoSmall }

/-- 'laws.FnExactPublicOf', WHERE WHAT IT READS IS OF BULK AT MOST 1048576: true; the input reads as it did. -/
def fnExactPublicOfUptoRow : OpenClaim := { program := "ytdddldkcojamkab", sum := "33445784aaba2d2ce4c8381d164bd5c828ee82bc696fedbfa3a281ab64347564", func := "loop.example/g00038/laws.FnExactPublicOf", spec := "fnExactPublicOf", apart := false, narrowed := true }
def FnExactPublicOfUptoSaid : Prop := fnExactPublicOfUptoRow.holds Try.pinned (OpenSpec.upto fnExactPublicOfSpec)

/-- 'laws.FnExactQuoteOf', WHERE WHAT IT READS IS OF BULK AT MOST 1048576: true; the input reads as it did. -/
def fnExactQuoteOfUptoRow : OpenClaim := { program := "ytdddldkcojamkab", sum := "33445784aaba2d2ce4c8381d164bd5c828ee82bc696fedbfa3a281ab64347564", func := "loop.example/g00038/laws.FnExactQuoteOf", spec := "fnExactQuoteOf", unfollowed := true, recurses := true, apart := false, narrowed := true }
def FnExactQuoteOfUptoSaid : Prop := fnExactQuoteOfUptoRow.holds Try.pinned (OpenSpec.upto fnExactQuoteOfSpec)

/-- 'laws.FnExactCheckQuote', WHERE WHAT IT READS IS OF BULK AT MOST 1048576: true; the input reads as it did. -/
def fnExactCheckQuoteUptoRow : OpenClaim := { program := "ytdddldkcojamkab", sum := "33445784aaba2d2ce4c8381d164bd5c828ee82bc696fedbfa3a281ab64347564", func := "loop.example/g00038/laws.FnExactCheckQuote", spec := "fnExactCheckQuote", unfollowed := true, recurses := true, apart := false, narrowed := true }
def FnExactCheckQuoteUptoSaid : Prop := fnExactCheckQuoteUptoRow.holds Try.pinned (OpenSpec.upto fnExactCheckQuoteSpec)

/-- 'laws.FnExactVolumeFault', WHERE WHAT IT READS IS OF BULK AT MOST 1048576: true; the input reads as it did. -/
def fnExactVolumeFaultUptoRow : OpenClaim := { program := "ytdddldkcojamkab", sum := "33445784aaba2d2ce4c8381d164bd5c828ee82bc696fedbfa3a281ab64347564", func := "loop.example/g00038/laws.FnExactVolumeFault", spec := "fnExactVolumeFault", unfollowed := true, recurses := true, apart := false, narrowed := true }
def FnExactVolumeFaultUptoSaid : Prop := fnExactVolumeFaultUptoRow.holds Try.pinned (OpenSpec.upto fnExactVolumeFaultSpec)

/-- 'laws.FnExactCryptDisk', WHERE WHAT IT READS IS OF BULK AT MOST 1048576: true; the input reads as it did. -/
def fnExactCryptDiskUptoRow : OpenClaim := { program := "ytdddldkcojamkab", sum := "33445784aaba2d2ce4c8381d164bd5c828ee82bc696fedbfa3a281ab64347564", func := "loop.example/g00038/laws.FnExactCryptDisk", spec := "fnExactCryptDisk", unfollowed := true, recurses := true, apart := false, narrowed := true }
def FnExactCryptDiskUptoSaid : Prop := fnExactCryptDiskUptoRow.holds Try.pinned (OpenSpec.upto fnExactCryptDiskSpec)

/-- 'laws.FnCrypted', WHERE WHAT IT READS IS OF BULK AT MOST 1048576: true; the input reads as it did. -/
def fnCryptedUptoRow : OpenClaim := { program := "ytdddldkcojamkab", sum := "33445784aaba2d2ce4c8381d164bd5c828ee82bc696fedbfa3a281ab64347564", func := "loop.example/g00038/laws.FnCrypted", spec := "fnCrypted", unfollowed := true, recurses := true, apart := false, narrowed := true }
def FnCryptedUptoSaid : Prop := fnCryptedUptoRow.holds Try.pinned (OpenSpec.upto fnCryptedSpec)

end Rows
end Go.Proofs.Ytdddldkcojamkab
