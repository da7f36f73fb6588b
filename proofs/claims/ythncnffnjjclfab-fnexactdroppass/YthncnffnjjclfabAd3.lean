import Derived.Test.YthncnffnjjclfabAd2
import Derived.Deep.DeepCutAuto
namespace Go.Proofs.Ythncnffnjjclfab
open Go.ChangeShapes Go.WideShapes Go.ChangeAt Go.RowKit

def adR (zs : List KS) (c o p : ByteArray) (st : Int) : VR := if ovB o = true ∨ ovB p = true then ⟨2, [], ⟨#[]⟩⟩ else if ((opV zs c o).code != 0) = true then ⟨(opV zs c o).code, [], ⟨#[]⟩⟩ else if isW st = false then ⟨1, [], ⟨#[]⟩⟩ else if ((zs.length : Int) == 4) = true then ⟨4, [], ⟨#[]⟩⟩ else ⟨0, zs ++ [slV (opV zs c o).data p st], c⟩
theorem opV_len {zs : List KS} {c o : ByteArray} (h : (opV zs c o).code = 0) : zs.length ≤ 4 := by
  unfold opV at h
  split at h
  · exact absurd h (by decide)
  · split at h
    · rename_i _ h2
      exact (vfB_key h2).1
    · exact absurd h (by decide)
end Go.Proofs.Ythncnffnjjclfab
