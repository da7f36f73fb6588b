import Derived.Test.YtmbdclbddbbdpaaPMem
import Derived.Lib.LazyBuf
import Derived.OwnWalk
namespace Go.Proofs.Ytmbdclbddbbdpaa
open Go.ChangeShapes Go.WideShapes Go.ChangeAt Go.RowKit

theorem cells8_one (l : List UInt8) : ∀ v ∈ cells8 l, v.oneCell' = true := by
  intro v hv
  simp only [cells8, List.mem_map] at hv
  obtain ⟨b, _, rfl⟩ := hv
  rfl
theorem u8info : (Try.prog.info? 5).map (·.size) = some 1 := by kernel_rfl
/-- A string goes over a row's cells, as far as there is room. -/
theorem run_copy_str (w : World) (ty g o dLen dCap m : Nat) (s : ByteArray) (cur : Array Value) (t : TypeId)
    (hg : w.heap[g]? = some (.cells cur t (0, 0))) (hm : Nat.min s.size dLen = m) (hfit : o + m ≤ cur.size) :
    (Builtin.copy_ #[61, 9] ty #[.slice (some ⟨g, o, none⟩) dLen dCap, .string s]).run Try.prog w =
      .ok (goInt m) (w.setRow g (cur.toList.take o ++ (cells8 s.data.toList).take m ++ cur.toList.drop (o + m)).toArray) := by
  have hl : ((cells8 s.data.toList).take m).length = m := by
    rw [List.length_take]
    have : (cells8 s.data.toList).length = s.size := by
      rw [← bsize]
      simp [cells8]
    rw [this, ← hm]
    exact Nat.min_eq_left (Nat.min_le_left _ _)
  have hst := run_storeCells_at Try.prog g o t ((cells8 s.data.toList).take m) 0 cur w hg (by rw [hl]; simpa using hfit) (fun v hv => cells8_one _ v (List.mem_of_mem_take hv))
  rw [hl] at hst
  simp only [Nat.add_zero] at hst
  have htk : List.take m (List.map (fun b : UInt8 => Value.int IntKind.u8 (b.toNat : Int)) s.data.toList) = (cells8 s.data.toList).take m := rfl
  obtain ⟨i0, hi, hz0, hz1, hz2⟩ := info_parts Try.info5
  simp [Builtin.copy_, run_underlying Try.underlying61, Builtin.lenOf, Builtin.firstCells, sizeOf, typeInfo, hi, hm]
  rw [htk, hst]
  simp [Result.andThen]
theorem step_copy_str {ops : Array Oper} {o : Oper} {a : Act} {w : World} {K : Act → World → Prop} {Q : Exit → Act → World → Prop} {E : Prop}
    (hgd : o.guard = none) (d x : Operand) (hop : o.op = Op.call { callee := Callee.builtin Builtin.copy, args := #[d, x], argTypes := #[61, 9] })
    (g off dLen dCap m : Nat) (hd : a.eval d = .slice (some ⟨g, off, none⟩) dLen dCap) (s : ByteArray) (hx : a.eval x = .string s) (cur : Array Value) (t : TypeId)
    (hg : w.heap[g]? = some (.cells cur t (0, 0))) (hm : Nat.min s.size dLen = m) (hfit : off + m ≤ cur.size)
    (hK : K (a.put o.dst (goInt m)) (w.setRow g (cur.toList.take off ++ (cells8 s.data.toList).take m ++ cur.toList.drop (off + m)).toArray)) :
    if Region.wanted o (yielded ops a.tmps) = true then Oper.wp Try.prog o a w K Q else E := by
  have hw : Region.wanted o (yielded ops a.tmps) = true := by simp [Region.wanted, hgd]
  rw [if_pos hw]
  have hrun := run_copy_str w o.type g off dLen dCap m s cur t hg hm hfit
  unfold Oper.wp
  rw [List.append_assoc] at hK
  simp [execOp, hop, resolve, invoke, builtin, hd, hx, hrun, Result.andThen]
  exact hK
theorem MemAt.row {w : World} {b : Nat} {s s' : ByteArray} (h : MemAt w b s) {cs : Array Value} (hc : cs = mcel s') : MemAt (w.setRow b cs) b s' := by
  subst hc
  exact setRow_heap w b _ _ _ _ h
theorem mcel_set (s : ByteArray) (k : Nat) (n : Int) : ((mcel s).toList.take k ++ (cells8 (pw n).data.toList).take 4 ++ (mcel s).toList.drop (k + 4)).toArray = mcel (setv s k n) := by
  have hp : ((pw n).data.toList).length = 4 := by rw [bsize]; rfl
  have e4 : (cells8 (pw n).data.toList).take 4 = cells8 (pw n).data.toList := by
    apply List.take_of_length_le
    simp [cells8, hp]
  rw [e4]
  unfold mcel setv
  congr 1
  have e5 : (s.data.toList.drop (k + 4)).take (s.size - (k + 4)) = s.data.toList.drop (k + 4) := by
    apply List.take_of_length_le
    rw [List.length_drop, bsize]
    exact Nat.le_refl _
  have e6 : (s.extract 0 k ++ pw n ++ s.extract (k + 4) s.size).data.toList = s.data.toList.take k ++ (pw n).data.toList ++ s.data.toList.drop (k + 4) := by
    simp only [ByteArray.data_append, Array.toList_append, ByteArray.data_extract, Array.toList_extract, List.extract_eq_take_drop, e5]
    simp
  rw [e6]
  simp [cells8]
end Go.Proofs.Ytmbdclbddbbdpaa
