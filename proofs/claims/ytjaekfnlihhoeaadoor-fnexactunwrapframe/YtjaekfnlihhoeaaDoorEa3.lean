import Derived.Test.YtjaekfnlihhoeaaDoorEa2
import Derived.Test.YtjaekfnlihhoeaaDoorBx
import Derived.Deep.DeepCutAuto
import Derived.WalkKit
import Derived.ProofKit
namespace Go.Proofs.YtjaekfnlihhoeaaDoor
open Go.ChangeShapes Go.WideShapes Go.ChangeAt Go.RowKit Go.Extern.Stop Go.Stop Go.Extern

set_option maxRecDepth 100000 in
set_option maxHeartbeats 8000000 in
theorem as_some (e : Addr) (q b : Nat) (w : World) (hq : w.cell? ⟨q, 0, none⟩ = some (.pointer (some ⟨b, 0, none⟩))) (hb : w.cell? ⟨b, 0, none⟩ = some (.pointer none)) (hf : w.frozen? ⟨b, 0, none⟩ = false) : Calls Tryd.prog 25 #[sV e, tV b, .agg #[hnd 43, .pointer (some ⟨q, 0, none⟩), .int .u64 150], rty 41] w fun r w' => r = .returned (.bool true) ∧ w'.cell? ⟨b, 0, none⟩ = some (.pointer (some e)) ∧ w.grownBy w' (some b) := by
  have hql := World.block_lt_of_cell? w _ hq
  have hbl := World.block_lt_of_cell? w _ hb
  obtain ⟨U0, hU0⟩ : ∃ U, w.alloc (.cells #[hnd 43, .pointer (some ⟨q, 0, none⟩), .int .u64 150] 64) = U := ⟨_, rfl⟩
  have hB0 : Below w.heap.size w U0 := hU0 ▸ bx1 _ _
  have hq0 : U0.cell? ⟨q, 0, none⟩ = some (.pointer (some ⟨b, 0, none⟩)) := (World.cell?_of_block (hB0.block q hql)).trans hq
  have hb0 : U0.cell? ⟨b, 0, none⟩ = some (.pointer none) := (World.cell?_of_block (hB0.block b hbl)).trans hb
  have hf0 : U0.frozen? ⟨b, 0, none⟩ = false := by
    unfold World.frozen? at hf ⊢
    rw [hB0.block b hbl]
    exact hf
  obtain ⟨U1, hU1⟩ : ∃ U, U0.alloc (.cells #[.pointer (some e)] 41) = U := ⟨_, rfl⟩
  have hB1 : Below U0.heap.size U0 U1 := hU1 ▸ bx1 _ _
  have hb1 : U1.cell? ⟨b, 0, none⟩ = some (.pointer none) := (World.cell?_of_block (hB1.block b (World.block_lt_of_cell? _ _ hb0))).trans hb0
  have hf1 : U1.frozen? ⟨b, 0, none⟩ = false := by
    unfold World.frozen? at hf0 ⊢
    rw [hB1.block b (World.block_lt_of_cell? _ _ hb0)]
    exact hf0
  have hq1 : U1.cell? ⟨U0.heap.size, 0, none⟩ = some (.pointer (some e)) := by
    have h9 := heap_new U0 (.cells #[.pointer (some e)] 41)
    rw [hU1] at h9
    simp [World.cell?, h9]
  have h8 := heap_new w (.cells #[hnd 43, .pointer (some ⟨q, 0, none⟩), .int .u64 150] 64)
  rw [hU0] at h8
  have x0 : U0.cell? ⟨w.heap.size, 0, none⟩ = some (.pointer (some ⟨1, 43, none⟩)) := by simp [World.cell?, h8, hnd]
  have x1 : U0.cell? ⟨w.heap.size, 1, none⟩ = some (.pointer (some ⟨q, 0, none⟩)) := by simp [World.cell?, h8]
  have x2 : U0.cell? ⟨w.heap.size, 2, none⟩ = some (.int .u64 150) := by simp [World.cell?, h8]
  have xl : w.heap.size < U0.heap.size := (Array.getElem?_eq_some_iff.1 h8).1
  clear h8
  have gEl := elv_run ⟨q, 0, none⟩ ⟨b, 0, none⟩ U0 hq0
  have gVo := vo_run2 e U0
  rw [hU1] at gVo
  have gSet := set_run b ⟨U0.heap.size, 0, none⟩ e U1 hq1 hb1 hf1
  have h35 := @run_callFunc_extern Tryd.prog 35 _ Extern.ReflectliteType.typeOf Tryd.func35 (by kernel_rfl) (by kernel_rfl) (by kernel_rfl) (by kernel_rfl)
  have h70 := @run_callFunc_extern Tryd.prog 70 _ rAss Tryd.func70 (by kernel_rfl) (by kernel_rfl) (by kernel_rfl) (by kernel_rfl)
  have h36 := @run_callFunc_extern Tryd.prog 36 _ xEl Tryd.func36 (by kernel_rfl) (by kernel_rfl) (by kernel_rfl) (by kernel_rfl)
  have h22 := @run_callFunc_extern Tryd.prog 22 _ xVo Tryd.func22 (by kernel_rfl) (by kernel_rfl) (by kernel_rfl) (by kernel_rfl)
  have h37 := @run_callFunc_extern Tryd.prog 37 _ xSet Tryd.func37 (by kernel_rfl) (by kernel_rfl) (by kernel_rfl) (by kernel_rfl)
  have gTo := to_run
  have gMa := mAss
  have gAs := ass_run
  have HBW : Hid (Below w.heap.size w U1) := hB0.trans (hB1.mono hB0.size)
  have HB1 : Hid (U1.cell? ⟨b, 0, none⟩ = some (.pointer none)) := hb1
  have HBL : Hid (b < w.heap.size) := hbl
  unfold sV tV rty hnd
  unfold rty hnd at gTo gAs
  unfold hnd at gEl gVo gSet hU0
  clear hq hb hf hB0 hq0 hb0 hf0 hB1 hb1 hf1 hq1 hql hbl
  go_enter Tryd.func25, Tryd.ntmps25
  go_upto_region 1 with fail
  refine wp_loop_rounds 1 ?_
  rw [rounds_succ]
  go_wp2
  go_ret
  refine ⟨rfl, ?_, ?_⟩
  · have h1 := HB1.out
    obtain ⟨o, ho⟩ : ∃ o, U1.heap[b]? = some o := by
      cases hh : U1.heap[b]? with
      | none => simp [World.cell?, hh] at h1
      | some o => exact ⟨o, rfl⟩
    cases o with
    | cells cs t fr =>
      simp only [World.cell?, ho] at h1
      simp only [World.cell?, World.setCell, Array.getElem?_modify, ho, if_true, Option.map_some]
      have : 0 < cs.size := by
        cases cs with
        | mk l => cases l <;> simp_all
      simp_all
    | _ => simp [World.cell?, ho] at h1
  · exact ⟨HBW.out.os, HBW.out.tape, HBW.out.output, by have := HBW.out.size; simpa [World.setCell] using this, fun k hk hn => (Below.heap_setCell _ _ _ _ (fun h => hn (congrArg some h))).trans (HBW.out.block k hk)⟩
end Go.Proofs.YtjaekfnlihhoeaaDoor
