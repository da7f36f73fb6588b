import Derived.Test.YtmmodmanfoipiaaDoorOwnB
import Derived.LaidEql
import Derived.Stop.Asserts
import Derived.RowKitTokens
import Derived.Laws.Externs
import Derived.Test.YtmmodmanfoipiaaDoorBx
import Derived.Deep.DeepCutAuto
import Derived.WalkKit
import Derived.ProofKit
namespace Go.Proofs.YtmmodmanfoipiaaDoor
open Go.ChangeShapes Go.WideShapes Go.ChangeAt Go.RowKit Go.Extern.Stop Go.Stop Go.Extern

/-- A type's handle. -/
def hnd (t : Nat) : Value := .pointer (some ⟨1, t, none⟩)
def rty (t : Nat) : Value := .iface 105 (.agg #[hnd t])
/-- A stop as an error; where one is put. -/
def sV (e : Addr) : Value := .iface 53 (.pointer (some e))
def tV (b : Nat) : Value := .iface 55 (.pointer (some ⟨b, 0, none⟩))
noncomputable def xVo : Array Value → Sem Value := (find Tryd.f47).getD Extern.ReflectliteType.typeOf
noncomputable def xTy : Array Value → Sem Value := (find Tryd.f48).getD Extern.ReflectliteType.typeOf
noncomputable def xNil : Array Value → Sem Value := (find Tryd.f49).getD Extern.ReflectliteType.typeOf
noncomputable def xEl : Array Value → Sem Value := (find Tryd.f57).getD Extern.ReflectliteType.typeOf
noncomputable def xSet : Array Value → Sem Value := (find Tryd.f58).getD Extern.ReflectliteType.typeOf
noncomputable def rKind : Array Value → Sem Value := (find Tryd.f76).getD Extern.ReflectliteType.typeOf
noncomputable def rEl : Array Value → Sem Value := (find Tryd.f90).getD Extern.ReflectliteType.typeOf
noncomputable def rImp : Array Value → Sem Value := (find Tryd.f91).getD Extern.ReflectliteType.typeOf
noncomputable def rAss : Array Value → Sem Value := (find Tryd.f88).getD Extern.ReflectliteType.typeOf
theorem vo_run (b : Addr) (w : World) : (xVo #[.iface 55 (.pointer (some b))]).run Tryd.prog w = .ok (.agg #[hnd 55, .pointer (some ⟨w.heap.size, 0, none⟩), .int .u64 150]) (w.alloc (.cells #[.pointer (some b)] 55)) := by kernel_rfl
theorem vo_run2 (b : Addr) (w : World) : (xVo #[.iface 53 (.pointer (some b))]).run Tryd.prog w = .ok (.agg #[hnd 53, .pointer (some ⟨w.heap.size, 0, none⟩), .int .u64 150]) (w.alloc (.cells #[.pointer (some b)] 53)) := by kernel_rfl
theorem ty_run (q : Addr) (w : World) : (xTy #[.agg #[hnd 55, .pointer (some q), .int .u64 150]]).run Tryd.prog w = .ok (rty 55) w := by kernel_rfl
theorem kind_run (w : World) : (rKind #[hnd 55]).run Tryd.prog w = .ok (.int .u8 22) w := by kernel_rfl
theorem kind_run2 (w : World) : (rKind #[hnd 53]).run Tryd.prog w = .ok (.int .u8 22) w := by kernel_rfl
theorem el_run (w : World) : (rEl #[.agg #[hnd 55]]).run Tryd.prog w = .ok (rty 53) w := by kernel_rfl
theorem imp_run (w : World) : (rImp #[.agg #[hnd 53], rty 50]).run Tryd.prog w = .ok (.bool true) w := by kernel_rfl
theorem ass_run (w : World) : (rAss #[.agg #[hnd 53], rty 53]).run Tryd.prog w = .ok (.bool true) w := by kernel_rfl
theorem to_run (v : Value) (w : World) : (Extern.ReflectliteType.typeOf #[.iface 53 v]).run Tryd.prog w = .ok (rty 53) w := by kernel_rfl
theorem mKind (t : Nat) (w : World) : (Go.method 251 105 (.agg #[hnd t]) "Kind").run Tryd.prog w = .ok (76, hnd t) w := by kernel_rfl
theorem mElem (v : Value) (w : World) : (Go.method 251 105 v "Elem").run Tryd.prog w = .ok (90, v) w := by kernel_rfl
theorem mImp (v : Value) (w : World) : (Go.method 251 105 v "Implements").run Tryd.prog w = .ok (91, v) w := by kernel_rfl
theorem mAss (v : Value) (w : World) : (Go.method 251 105 v "AssignableTo").run Tryd.prog w = .ok (88, v) w := by kernel_rfl
end Go.Proofs.YtmmodmanfoipiaaDoor
namespace Go.Proofs.YtmmodmanfoipiaaDoor
open Go.ChangeShapes Go.WideShapes Go.ChangeAt Go.RowKit Go.Extern.Stop Go.Stop Go.Extern

theorem xNil_eq : xNil = ReflectliteValue.method (ReflectliteValue.valueError "reflectlite.Value.IsNil" 0) ReflectliteValue.isNil := by kernel_rfl
theorem xEl_eq : xEl = ReflectliteValue.method (ReflectliteValue.valueError "reflectlite.Value.Elem" 0) ReflectliteValue.elem := by kernel_rfl
theorem xSet_eq : xSet = ReflectliteValue.set := by kernel_rfl
theorem parts_pp (q : Addr) (w : World) : (ReflectliteValue.parts (.agg #[hnd 55, .pointer (some q), .int .u64 150])).run Tryd.prog w = .ok (some (55, q, 150)) w := by kernel_rfl
theorem parts_p (q : Addr) (w : World) : (ReflectliteValue.parts (.agg #[hnd 53, .pointer (some q), .int .u64 150])).run Tryd.prog w = .ok (some (53, q, 150)) w := by kernel_rfl
theorem parts_d (q : Addr) (w : World) : (ReflectliteValue.parts (.agg #[hnd 53, .pointer (some q), .int .u64 406])).run Tryd.prog w = .ok (some (53, q, 406)) w := by kernel_rfl
theorem agg_pp (w : World) : (isAgg 55).run Tryd.prog w = .ok false w := by kernel_rfl
theorem agg_p (w : World) : (isAgg 53).run Tryd.prog w = .ok false w := by kernel_rfl
theorem sz_p (w : World) : (sizeOf 53).run Tryd.prog w = .ok 1 w := by kernel_rfl
theorem lv_pp {q : Addr} {v : Value} {w : World} (h : w.cell? q = some v) : (loadVar 55 q).run Tryd.prog w = .ok v w := by
  unfold loadVar
  rw [Sem.run_bind, agg_pp]
  simp [h, Result.andThen]
theorem lv_p {q : Addr} {v : Value} {w : World} (h : w.cell? q = some v) : (loadVar 53 q).run Tryd.prog w = .ok v w := by
  unfold loadVar
  rw [Sem.run_bind, agg_p]
  simp [h, Result.andThen]
theorem da_p (w : World) : (Rtype.directlyAssignable 53 53).run Tryd.prog w = .ok true w := by kernel_rfl
theorem elem_pp (w : World) : (Rtype.elem? 55).run Tryd.prog w = .ok (some 53) w := by kernel_rfl
theorem mk_d (b : Addr) (w : World) : (ReflectliteValue.mk 53 b ReflectliteValue.flagAddr).run Tryd.prog w = .ok (.agg #[hnd 53, .pointer (some b), .int .u64 406]) w := by kernel_rfl
theorem nil_run (q b : Addr) (w : World) (h : w.cell? q = some (.pointer (some b))) : (xNil #[.agg #[hnd 55, .pointer (some q), .int .u64 150]]).run Tryd.prog w = .ok (.bool false) w := by
  rw [xNil_eq]
  show Sem.run Tryd.prog (ReflectliteValue.parts (.agg #[hnd 55, .pointer (some q), .int .u64 150]) >>= _) w = _
  rw [Sem.run_bind, parts_pp]
  simp [ Result.andThen, ReflectliteValue.isNil, lv_pp h]
theorem elv_run (q b : Addr) (w : World) (h : w.cell? q = some (.pointer (some b))) : (xEl #[.agg #[hnd 55, .pointer (some q), .int .u64 150]]).run Tryd.prog w = .ok (.agg #[hnd 53, .pointer (some b), .int .u64 406]) w := by
  rw [xEl_eq]
  show Sem.run Tryd.prog (ReflectliteValue.parts (.agg #[hnd 55, .pointer (some q), .int .u64 150]) >>= _) w = _
  rw [Sem.run_bind, parts_pp]
  simp [ Result.andThen, ReflectliteValue.elem, lv_pp h, elem_pp, mk_d]
set_option maxRecDepth 100000 in
theorem set_run (bb : Nat) (q e : Addr) (w : World) (h : w.cell? q = some (.pointer (some e))) (hb : w.cell? ⟨bb, 0, none⟩ = some (.pointer none)) (hf : w.frozen? ⟨bb, 0, none⟩ = false) : (xSet #[.agg #[hnd 53, .pointer (some ⟨bb, 0, none⟩), .int .u64 406], .agg #[hnd 53, .pointer (some q), .int .u64 150]]).run Tryd.prog w = .ok (.tuple #[]) (w.setCell ⟨bb, 0, none⟩ (.pointer (some e))) := by
  rw [xSet_eq]
  show Sem.run Tryd.prog (ReflectliteValue.parts (.agg #[hnd 53, .pointer (some ⟨bb, 0, none⟩), .int .u64 406]) >>= _) w = _
  rw [Sem.run_bind, parts_d, Result.andThen_ok]
  show Sem.run Tryd.prog (ReflectliteValue.parts (.agg #[hnd 53, .pointer (some q), .int .u64 150]) >>= _) w = _
  rw [Sem.run_bind, parts_p, Result.andThen_ok]
  have hst : (store ⟨bb, 0, none⟩ (.pointer (some e))).run Tryd.prog w = .ok () (w.setCell ⟨bb, 0, none⟩ (.pointer (some e))) := by
    rw [run_store _ _ _ _ _ rfl, hb, hf]
    rfl
  simp [Result.andThen, ReflectliteValue.flagAddr, lv_p h, da_p, storeVar, Value.cells, storeCells, hst, Addr.add_lit]
end Go.Proofs.YtmmodmanfoipiaaDoor
namespace Go.Proofs.YtmmodmanfoipiaaDoor
open Go.ChangeShapes Go.WideShapes Go.ChangeAt Go.RowKit Go.Extern.Stop Go.Stop Go.Extern

set_option maxRecDepth 100000 in
set_option maxHeartbeats 8000000 in
theorem as_some (e : Addr) (q b : Nat) (w : World) (hq : w.cell? ⟨q, 0, none⟩ = some (.pointer (some ⟨b, 0, none⟩))) (hb : w.cell? ⟨b, 0, none⟩ = some (.pointer none)) (hf : w.frozen? ⟨b, 0, none⟩ = false) : Calls Tryd.prog 50 #[sV e, tV b, .agg #[hnd 55, .pointer (some ⟨q, 0, none⟩), .int .u64 150], rty 53] w fun r w' => r = .returned (.bool true) ∧ w'.cell? ⟨b, 0, none⟩ = some (.pointer (some e)) ∧ w.grownBy w' (some b) := by
  have hql := World.block_lt_of_cell? w _ hq
  have hbl := World.block_lt_of_cell? w _ hb
  obtain ⟨U0, hU0⟩ : ∃ U, w.alloc (.cells #[hnd 55, .pointer (some ⟨q, 0, none⟩), .int .u64 150] 89) = U := ⟨_, rfl⟩
  have hB0 : Below w.heap.size w U0 := hU0 ▸ bx1 _ _
  have hq0 : U0.cell? ⟨q, 0, none⟩ = some (.pointer (some ⟨b, 0, none⟩)) := (World.cell?_of_block (hB0.block q hql)).trans hq
  have hb0 : U0.cell? ⟨b, 0, none⟩ = some (.pointer none) := (World.cell?_of_block (hB0.block b hbl)).trans hb
  have hf0 : U0.frozen? ⟨b, 0, none⟩ = false := by
    unfold World.frozen? at hf ⊢
    rw [hB0.block b hbl]
    exact hf
  obtain ⟨U1, hU1⟩ : ∃ U, U0.alloc (.cells #[.pointer (some e)] 53) = U := ⟨_, rfl⟩
  have hB1 : Below U0.heap.size U0 U1 := hU1 ▸ bx1 _ _
  have hb1 : U1.cell? ⟨b, 0, none⟩ = some (.pointer none) := (World.cell?_of_block (hB1.block b (World.block_lt_of_cell? _ _ hb0))).trans hb0
  have hf1 : U1.frozen? ⟨b, 0, none⟩ = false := by
    unfold World.frozen? at hf0 ⊢
    rw [hB1.block b (World.block_lt_of_cell? _ _ hb0)]
    exact hf0
  have hq1 : U1.cell? ⟨U0.heap.size, 0, none⟩ = some (.pointer (some e)) := by
    have h9 := heap_new U0 (.cells #[.pointer (some e)] 53)
    rw [hU1] at h9
    simp [World.cell?, h9]
  have h8 := heap_new w (.cells #[hnd 55, .pointer (some ⟨q, 0, none⟩), .int .u64 150] 89)
  rw [hU0] at h8
  have x0 : U0.cell? ⟨w.heap.size, 0, none⟩ = some (.pointer (some ⟨1, 55, none⟩)) := by simp [World.cell?, h8, hnd]
  have x1 : U0.cell? ⟨w.heap.size, 1, none⟩ = some (.pointer (some ⟨q, 0, none⟩)) := by simp [World.cell?, h8]
  have x2 : U0.cell? ⟨w.heap.size, 2, none⟩ = some (.int .u64 150) := by simp [World.cell?, h8]
  have xl : w.heap.size < U0.heap.size := (Array.getElem?_eq_some_iff.1 h8).1
  clear h8
  have gEl := elv_run ⟨q, 0, none⟩ ⟨b, 0, none⟩ U0 hq0
  have gVo := vo_run2 e U0
  rw [hU1] at gVo
  have gSet := set_run b ⟨U0.heap.size, 0, none⟩ e U1 hq1 hb1 hf1
  have h35 := @run_callFunc_extern Tryd.prog 56 _ Extern.ReflectliteType.typeOf Tryd.func56 (by kernel_rfl) (by kernel_rfl) (by kernel_rfl) (by kernel_rfl)
  have h70 := @run_callFunc_extern Tryd.prog 88 _ rAss Tryd.func88 (by kernel_rfl) (by kernel_rfl) (by kernel_rfl) (by kernel_rfl)
  have h36 := @run_callFunc_extern Tryd.prog 57 _ xEl Tryd.func57 (by kernel_rfl) (by kernel_rfl) (by kernel_rfl) (by kernel_rfl)
  have h22 := @run_callFunc_extern Tryd.prog 47 _ xVo Tryd.func47 (by kernel_rfl) (by kernel_rfl) (by kernel_rfl) (by kernel_rfl)
  have h37 := @run_callFunc_extern Tryd.prog 58 _ xSet Tryd.func58 (by kernel_rfl) (by kernel_rfl) (by kernel_rfl) (by kernel_rfl)
  have gTo := to_run
  have gMa := mAss
  have gAs := ass_run
  have HBW : Hid (Below w.heap.size w U1) := hB0.trans (hB1.mono hB0.size)
  have HB1 : Hid (U1.cell? ⟨b, 0, none⟩ = some (.pointer none)) := hb1
  have HBL : Hid (b < w.heap.size) := hbl
  unfold sV tV rty hnd
  unfold rty hnd at gTo gAs
  unfold hnd at gEl gVo gSet hU0
  clear hq hb hf hB0 hq0 hb0 hf0 hB1 hb1 hf1 hq1 hql hbl
  go_enter Tryd.func50, Tryd.ntmps50
  go_upto_region 1 with fail
  refine wp_loop_rounds 1 ?_
  rw [rounds_succ]
  go_wp2
  go_ret
  refine ⟨rfl, ?_, ?_⟩
  · have h1 := HB1.out
    obtain ⟨o, ho⟩ : ∃ o, U1.heap[b]? = some o := by
      cases hh : U1.heap[b]? with
      | none => simp [World.cell?, hh] at h1
      | some o => exact ⟨o, rfl⟩
    cases o with
    | cells cs t fr =>
      simp only [World.cell?, ho] at h1
      simp only [World.cell?, World.setCell, Array.getElem?_modify, ho, if_true, Option.map_some]
      have : 0 < cs.size := by
        cases cs with
        | mk l => cases l <;> simp_all
      simp_all
    | _ => simp [World.cell?, ho] at h1
  · exact ⟨HBW.out.os, HBW.out.tape, HBW.out.output, by have := HBW.out.size; simpa [World.setCell] using this, fun k hk hn => (Below.heap_setCell _ _ _ _ (fun h => hn (congrArg some h))).trans (HBW.out.block k hk)⟩
end Go.Proofs.YtmmodmanfoipiaaDoor
namespace Go.Proofs.YtmmodmanfoipiaaDoor
open Go.ChangeShapes Go.WideShapes Go.ChangeAt Go.RowKit Go.Extern.Stop Go.Stop Go.Extern

set_option maxRecDepth 100000 in
set_option maxHeartbeats 4000000 in
theorem as_nil (b : Nat) (w : World) : Calls Tryd.prog 26 #[.nilIface, tV b] w fun r w' => r = .returned (.bool false) ∧ w' = w := by
  unfold tV
  go_enter Tryd.func26, Tryd.ntmps26
  go_wp2
  go_ret
  exact ⟨rfl, rfl⟩
/-- The type error, where it is laid. -/
def ErrT (w : World) : Prop := w.cell? ⟨0, 0, none⟩ = some (rty 50)
set_option maxRecDepth 100000 in
set_option maxHeartbeats 8000000 in
theorem as_stop (e : Addr) (b : Nat) (w : World) (hT : ErrT w) (hb : w.cell? ⟨b, 0, none⟩ = some (.pointer none)) (hf : w.frozen? ⟨b, 0, none⟩ = false) : Calls Tryd.prog 26 #[sV e, tV b] w fun r w' => r = .returned (.bool true) ∧ w'.cell? ⟨b, 0, none⟩ = some (.pointer (some e)) ∧ w.grownBy w' (some b) := by
  have hbl := World.block_lt_of_cell? w _ hb
  have hTl := World.block_lt_of_cell? w _ hT
  obtain ⟨U0, hU0⟩ : ∃ U, w.alloc (.cells #[.pointer (some ⟨b, 0, none⟩)] 55) = U := ⟨_, rfl⟩
  have hB0 : Below w.heap.size w U0 := hU0 ▸ bx1 _ _
  have hq0 : U0.cell? ⟨w.heap.size, 0, none⟩ = some (.pointer (some ⟨b, 0, none⟩)) := by
    have h9 := heap_new w (.cells #[.pointer (some ⟨b, 0, none⟩)] 55)
    rw [hU0] at h9
    simp [World.cell?, h9]
  obtain ⟨U1, hU1⟩ : ∃ U, U0.alloc (.cells #[hnd 55, .pointer (some ⟨w.heap.size, 0, none⟩), .int .u64 150] 89) = U := ⟨_, rfl⟩
  have hB1 : Below U0.heap.size U0 U1 := hU1 ▸ bx1 _ _
  have hBB : Below w.heap.size w U1 := hB0.trans (hB1.mono hB0.size)
  have hq1 : U1.cell? ⟨w.heap.size, 0, none⟩ = some (.pointer (some ⟨b, 0, none⟩)) := (World.cell?_of_block (hB1.block w.heap.size (World.block_lt_of_cell? _ _ hq0))).trans hq0
  have hb1 : U1.cell? ⟨b, 0, none⟩ = some (.pointer none) := (World.cell?_of_block (hBB.block b hbl)).trans hb
  have hf1 : U1.frozen? ⟨b, 0, none⟩ = false := by
    unfold World.frozen? at hf ⊢
    rw [hBB.block b hbl]
    exact hf
  have hT1 : U1.cell? ⟨0, 0, none⟩ = some (rty 50) := (World.cell?_of_block (hBB.block _ hTl)).trans hT
  have h8 := heap_new U0 (.cells #[hnd 55, .pointer (some ⟨w.heap.size, 0, none⟩), .int .u64 150] 89)
  rw [hU1] at h8
  have x0 : U1.cell? ⟨U0.heap.size, 0, none⟩ = some (.pointer (some ⟨1, 55, none⟩)) := by simp [World.cell?, h8, hnd]
  have x1 : U1.cell? ⟨U0.heap.size, 1, none⟩ = some (.pointer (some ⟨w.heap.size, 0, none⟩)) := by simp [World.cell?, h8]
  have x2 : U1.cell? ⟨U0.heap.size, 2, none⟩ = some (.int .u64 150) := by simp [World.cell?, h8]
  have xl : U0.heap.size < U1.heap.size := (Array.getElem?_eq_some_iff.1 h8).1
  have gVo := vo_run ⟨b, 0, none⟩ w
  rw [hU0] at gVo
  have gTy := ty_run ⟨w.heap.size, 0, none⟩
  have gNil := nil_run ⟨w.heap.size, 0, none⟩ ⟨b, 0, none⟩ U1 hq1
  have gK := kind_run
  have gK2 := kind_run2
  have gE := el_run
  have gI := imp_run
  have gMk := mKind
  have gMe := mElem
  have gMi := mImp
  have h22 := @run_callFunc_extern Tryd.prog 47 _ xVo Tryd.func47 (by kernel_rfl) (by kernel_rfl) (by kernel_rfl) (by kernel_rfl)
  have h23 := @run_callFunc_extern Tryd.prog 48 _ xTy Tryd.func48 (by kernel_rfl) (by kernel_rfl) (by kernel_rfl) (by kernel_rfl)
  have h24 := @run_callFunc_extern Tryd.prog 49 _ xNil Tryd.func49 (by kernel_rfl) (by kernel_rfl) (by kernel_rfl) (by kernel_rfl)
  have h59 := @run_callFunc_extern Tryd.prog 76 _ rKind Tryd.func76 (by kernel_rfl) (by kernel_rfl) (by kernel_rfl) (by kernel_rfl)
  have h72 := @run_callFunc_extern Tryd.prog 90 _ rEl Tryd.func90 (by kernel_rfl) (by kernel_rfl) (by kernel_rfl) (by kernel_rfl)
  have h73 := @run_callFunc_extern Tryd.prog 91 _ rImp Tryd.func91 (by kernel_rfl) (by kernel_rfl) (by kernel_rfl) (by kernel_rfl)
  have HAS : Hid (Calls Tryd.prog 50 #[sV e, tV b, .agg #[hnd 55, .pointer (some ⟨w.heap.size, 0, none⟩), .int .u64 150], rty 53] U1 fun r w' => r = .returned (.bool true) ∧ w'.cell? ⟨b, 0, none⟩ = some (.pointer (some e)) ∧ U1.grownBy w' (some b)) := as_some e w.heap.size b U1 hq1 hb1 hf1
  have HBB : Hid (Below w.heap.size w U1) := hBB
  unfold sV tV rty hnd at HAS
  unfold sV tV
  unfold rty hnd at gTy gE gI hT1
  unfold hnd at gMk gK gK2
  unfold hnd at gVo gNil hU1
  clear hT hb hf hbl hTl hB0 hq0 hB1 hBB hq1 hb1 hf1 h8
  go_enter Tryd.func26, Tryd.ntmps26
  go_wp2_with (go_at_call 50; refine Calls.mono HAS.out ?_; rintro r u9 ⟨rfl, hc, hg⟩; have HC : Hid _ := hc; have HG : Hid _ := hg; clear hc hg)
  go_ret
  exact ⟨rfl, HC.out, HG.out.os.trans HBB.out.os, HG.out.tape.trans HBB.out.tape, HG.out.output.trans HBB.out.output, Nat.le_trans HBB.out.size HG.out.size, fun k hk hn => (HG.out.block k (Nat.lt_of_lt_of_le hk HBB.out.size) hn).trans (HBB.out.block k hk)⟩
end Go.Proofs.YtmmodmanfoipiaaDoor
