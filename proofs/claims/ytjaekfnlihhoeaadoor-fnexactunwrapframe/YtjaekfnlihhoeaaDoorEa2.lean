import Derived.Test.YtjaekfnlihhoeaaDoorEa1
namespace Go.Proofs.YtjaekfnlihhoeaaDoor
open Go.ChangeShapes Go.WideShapes Go.ChangeAt Go.RowKit Go.Extern.Stop Go.Stop Go.Extern

theorem xNil_eq : xNil = ReflectliteValue.method (ReflectliteValue.valueError "reflectlite.Value.IsNil" 0) ReflectliteValue.isNil := by kernel_rfl
theorem xEl_eq : xEl = ReflectliteValue.method (ReflectliteValue.valueError "reflectlite.Value.Elem" 0) ReflectliteValue.elem := by kernel_rfl
theorem xSet_eq : xSet = ReflectliteValue.set := by kernel_rfl
theorem parts_pp (q : Addr) (w : World) : (ReflectliteValue.parts (.agg #[hnd 43, .pointer (some q), .int .u64 150])).run Tryd.prog w = .ok (some (43, q, 150)) w := by kernel_rfl
theorem parts_p (q : Addr) (w : World) : (ReflectliteValue.parts (.agg #[hnd 41, .pointer (some q), .int .u64 150])).run Tryd.prog w = .ok (some (41, q, 150)) w := by kernel_rfl
theorem parts_d (q : Addr) (w : World) : (ReflectliteValue.parts (.agg #[hnd 41, .pointer (some q), .int .u64 406])).run Tryd.prog w = .ok (some (41, q, 406)) w := by kernel_rfl
theorem agg_pp (w : World) : (isAgg 43).run Tryd.prog w = .ok false w := by kernel_rfl
theorem agg_p (w : World) : (isAgg 41).run Tryd.prog w = .ok false w := by kernel_rfl
theorem sz_p (w : World) : (sizeOf 41).run Tryd.prog w = .ok 1 w := by kernel_rfl
theorem lv_pp {q : Addr} {v : Value} {w : World} (h : w.cell? q = some v) : (loadVar 43 q).run Tryd.prog w = .ok v w := by
  unfold loadVar
  rw [Sem.run_bind, agg_pp]
  simp [h, Result.andThen]
theorem lv_p {q : Addr} {v : Value} {w : World} (h : w.cell? q = some v) : (loadVar 41 q).run Tryd.prog w = .ok v w := by
  unfold loadVar
  rw [Sem.run_bind, agg_p]
  simp [h, Result.andThen]
theorem da_p (w : World) : (Rtype.directlyAssignable 41 41).run Tryd.prog w = .ok true w := by kernel_rfl
theorem elem_pp (w : World) : (Rtype.elem? 43).run Tryd.prog w = .ok (some 41) w := by kernel_rfl
theorem mk_d (b : Addr) (w : World) : (ReflectliteValue.mk 41 b ReflectliteValue.flagAddr).run Tryd.prog w = .ok (.agg #[hnd 41, .pointer (some b), .int .u64 406]) w := by kernel_rfl
theorem nil_run (q b : Addr) (w : World) (h : w.cell? q = some (.pointer (some b))) : (xNil #[.agg #[hnd 43, .pointer (some q), .int .u64 150]]).run Tryd.prog w = .ok (.bool false) w := by
  rw [xNil_eq]
  show Sem.run Tryd.prog (ReflectliteValue.parts (.agg #[hnd 43, .pointer (some q), .int .u64 150]) >>= _) w = _
  rw [Sem.run_bind, parts_pp]
  simp [ Result.andThen, ReflectliteValue.isNil, lv_pp h]
theorem elv_run (q b : Addr) (w : World) (h : w.cell? q = some (.pointer (some b))) : (xEl #[.agg #[hnd 43, .pointer (some q), .int .u64 150]]).run Tryd.prog w = .ok (.agg #[hnd 41, .pointer (some b), .int .u64 406]) w := by
  rw [xEl_eq]
  show Sem.run Tryd.prog (ReflectliteValue.parts (.agg #[hnd 43, .pointer (some q), .int .u64 150]) >>= _) w = _
  rw [Sem.run_bind, parts_pp]
  simp [ Result.andThen, ReflectliteValue.elem, lv_pp h, elem_pp, mk_d]
set_option maxRecDepth 100000 in
theorem set_run (bb : Nat) (q e : Addr) (w : World) (h : w.cell? q = some (.pointer (some e))) (hb : w.cell? ⟨bb, 0, none⟩ = some (.pointer none)) (hf : w.frozen? ⟨bb, 0, none⟩ = false) : (xSet #[.agg #[hnd 41, .pointer (some ⟨bb, 0, none⟩), .int .u64 406], .agg #[hnd 41, .pointer (some q), .int .u64 150]]).run Tryd.prog w = .ok (.tuple #[]) (w.setCell ⟨bb, 0, none⟩ (.pointer (some e))) := by
  rw [xSet_eq]
  show Sem.run Tryd.prog (ReflectliteValue.parts (.agg #[hnd 41, .pointer (some ⟨bb, 0, none⟩), .int .u64 406]) >>= _) w = _
  rw [Sem.run_bind, parts_d, Result.andThen_ok]
  show Sem.run Tryd.prog (ReflectliteValue.parts (.agg #[hnd 41, .pointer (some q), .int .u64 150]) >>= _) w = _
  rw [Sem.run_bind, parts_p, Result.andThen_ok]
  have hst : (store ⟨bb, 0, none⟩ (.pointer (some e))).run Tryd.prog w = .ok () (w.setCell ⟨bb, 0, none⟩ (.pointer (some e))) := by
    rw [run_store _ _ _ _ _ rfl, hb, hf]
    rfl
  simp [Result.andThen, ReflectliteValue.flagAddr, lv_p h, da_p, storeVar, Value.cells, storeCells, hst, Addr.add_lit]
end Go.Proofs.YtjaekfnlihhoeaaDoor
