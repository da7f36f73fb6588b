import Derived.Test.YtlmeakelcajlbaaDoorRowVMC4
import Derived.OpenShut
import Derived.WalkKit
import Derived.ProofKit
namespace Go.Proofs.YtlmeakelcajlbaaDoor
open Go.ChangeShapes Go.WideShapes Go.ChangeAt Go.RowKit

set_option maxRecDepth 100000 in
theorem open_VM {H : Type} {enc : TypeId × Value → H} {W : World} {base : Nat} {v : Value} {d : DataW H} {p : List MemPlace} (hv : Value.okWide Tryd.prog W .any base 23 v)
    (h : DataW.Trod enc Tryd.prog W 0 (fun _ => true) true 23 v d p) : ∃ (s : VMC) (_ : Unit), v = .agg #[.string s.name, .int .i64 s.tenant, .int .i64 s.cpu, .int .i64 s.mem, .int .i64 s.zone, .int .i64 s.apart, .string s.node, .int .i64 s.epoch] ∧ True ∧ (s.name.size ≤ maxLen ∧ s.node.size ≤ maxLen) := by
  obtain ⟨cs, rfl, _⟩ := okWide_struct Tryd.underlying23 hv
  obtain ⟨fuel, hf⟩ := h
  obtain ⟨z, hz, b1, b2⟩ := vmc_one hf
  refine ⟨z, (), ?_, trivial, b1, b2⟩
  obtain ⟨l⟩ := cs
  have e : l = vmcC z := by simpa [Value.cells] using hz
  rw [e]
  rfl
end Go.Proofs.YtlmeakelcajlbaaDoor
