import Derived.Test.YthncnffnjjclfabSk6
import Derived.Test.YthncnffnjjclfabVo1
import Derived.Test.YthncnffnjjclfabHl
namespace Go.Proofs.Ythncnffnjjclfab
open Go.ChangeShapes Go.WideShapes Go.ChangeAt Go.RowKit

/-- What is opened: a code, the data. -/
structure OPn where
  code : Int
  data : ByteArray
def opA (x : OPn) : Value := .agg #[.int .i64 x.code, .string x.data]
/-- What the slots give for a pass. -/
def opF (p c : ByteArray) : List KS → OPn
  | [] => ⟨7, ⟨#[]⟩⟩
  | z :: zs => if (tgoV p z.key).toList == z.tag.toList then (if (tgoV (cryV p z.salt z.key) ⟨#[]⟩).toList == c.toList then ⟨0, cryV p z.salt z.key⟩ else opF p c zs) else opF p c zs
def opV (zs : List KS) (c p : ByteArray) : OPn := if ovB p = true then ⟨2, ⟨#[]⟩⟩ else if vfB zs c = true then opF p c zs else ⟨1, ⟨#[]⟩⟩
theorem opF_at (p c : ByteArray) (zs : List KS) (k : Nat) (h : k < zs.length) : opF p c (zs.drop k) = if (tgoV p zs[k].key).toList == zs[k].tag.toList then (if (tgoV (cryV p zs[k].salt zs[k].key) ⟨#[]⟩).toList == c.toList then ⟨0, cryV p zs[k].salt zs[k].key⟩ else opF p c (zs.drop (k + 1))) else opF p c (zs.drop (k + 1)) := by
  rw [List.drop_eq_getElem_cons h, opF]
theorem vfB_key {zs : List KS} {c : ByteArray} (h : vfB zs c = true) : zs.length ≤ 4 ∧ ∀ z ∈ zs, z.key.size = 16 ∧ z.tag.size = 8 := by
  simp only [vfB, Bool.and_eq_true, Bool.not_eq_true', List.all_eq_true] at h
  obtain ⟨h1, h2⟩ := h
  obtain ⟨_, q2, _⟩ := vhB_no h1
  have := of_decide_eq_false q2
  refine ⟨by omega, fun z hz => ?_⟩
  have h3 := h2 z hz
  simp only [ksB, Bool.and_eq_true, beq_iff_eq] at h3
  omega
end Go.Proofs.Ythncnffnjjclfab
