import Derived.Test.YthncnffnjjclfabVm1
import Derived.Test.YthncnffnjjclfabVo2
import Derived.Test.YthncnffnjjclfabOv1
namespace Go.Proofs.Ythncnffnjjclfab
open Go.ChangeShapes Go.WideShapes Go.ChangeAt Go.RowKit

def slV (m p : ByteArray) (st : Int) : KS := ⟨st, cryV p st m, tgoV p (cryV p st m)⟩
/-- A volume as an answer: its code, its slots, its check; the slots' row is its own, behind w. -/
structure VR where
  code : Int
  zs : List KS
  check : ByteArray
def vrA (sv : Value) (x : VR) : Value := .agg #[.int .i64 x.code, sv, .string x.check]
def mkR (m p : ByteArray) (st : Int) : VR := if ovB m = true ∨ ovB p = true then ⟨2, [], ⟨#[]⟩⟩ else if ((m.size : Int) != 16) = true ∨ isW st = false then ⟨1, [], ⟨#[]⟩⟩ else ⟨0, [slV m p st], tgoV m ⟨#[]⟩⟩
theorem own_one (u : World) (z : KS) (B : Nat) (hB : B ≤ u.heap.size) : (u.alloc (.cells #[.int .i64 z.salt, .string z.key, .string z.tag] 79)).ownsRow B 79 3 (.slice (some ⟨u.heap.size, 0, none⟩) 1 1) 1 (ksR [z]) := by
  refine ⟨by simp [ksR, ksC], .inr ⟨u.heap.size, 1, _, rfl, hB, heap_new _ _, Nat.le_refl _, by unfold maxLen; omega, rfl, ?_⟩⟩
  simp [ksR, ksC]
end Go.Proofs.Ythncnffnjjclfab
