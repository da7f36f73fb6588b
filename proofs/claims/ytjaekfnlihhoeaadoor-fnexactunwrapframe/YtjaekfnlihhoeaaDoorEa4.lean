import Derived.Test.YtjaekfnlihhoeaaDoorEa3
namespace Go.Proofs.YtjaekfnlihhoeaaDoor
open Go.ChangeShapes Go.WideShapes Go.ChangeAt Go.RowKit Go.Extern.Stop Go.Stop Go.Extern

set_option maxRecDepth 100000 in
set_option maxHeartbeats 4000000 in
theorem as_nil (b : Nat) (w : World) : Calls Tryd.prog 13 #[.nilIface, tV b] w fun r w' => r = .returned (.bool false) ∧ w' = w := by
  unfold tV
  go_enter Tryd.func13, Tryd.ntmps13
  go_wp2
  go_ret
  exact ⟨rfl, rfl⟩
/-- The type error, where it is laid. -/
def ErrT (w : World) : Prop := w.cell? ⟨0, 0, none⟩ = some (rty 38)
set_option maxRecDepth 100000 in
set_option maxHeartbeats 8000000 in
theorem as_stop (e : Addr) (b : Nat) (w : World) (hT : ErrT w) (hb : w.cell? ⟨b, 0, none⟩ = some (.pointer none)) (hf : w.frozen? ⟨b, 0, none⟩ = false) : Calls Tryd.prog 13 #[sV e, tV b] w fun r w' => r = .returned (.bool true) ∧ w'.cell? ⟨b, 0, none⟩ = some (.pointer (some e)) ∧ w.grownBy w' (some b) := by
  have hbl := World.block_lt_of_cell? w _ hb
  have hTl := World.block_lt_of_cell? w _ hT
  obtain ⟨U0, hU0⟩ : ∃ U, w.alloc (.cells #[.pointer (some ⟨b, 0, none⟩)] 43) = U := ⟨_, rfl⟩
  have hB0 : Below w.heap.size w U0 := hU0 ▸ bx1 _ _
  have hq0 : U0.cell? ⟨w.heap.size, 0, none⟩ = some (.pointer (some ⟨b, 0, none⟩)) := by
    have h9 := heap_new w (.cells #[.pointer (some ⟨b, 0, none⟩)] 43)
    rw [hU0] at h9
    simp [World.cell?, h9]
  obtain ⟨U1, hU1⟩ : ∃ U, U0.alloc (.cells #[hnd 43, .pointer (some ⟨w.heap.size, 0, none⟩), .int .u64 150] 64) = U := ⟨_, rfl⟩
  have hB1 : Below U0.heap.size U0 U1 := hU1 ▸ bx1 _ _
  have hBB : Below w.heap.size w U1 := hB0.trans (hB1.mono hB0.size)
  have hq1 : U1.cell? ⟨w.heap.size, 0, none⟩ = some (.pointer (some ⟨b, 0, none⟩)) := (World.cell?_of_block (hB1.block w.heap.size (World.block_lt_of_cell? _ _ hq0))).trans hq0
  have hb1 : U1.cell? ⟨b, 0, none⟩ = some (.pointer none) := (World.cell?_of_block (hBB.block b hbl)).trans hb
  have hf1 : U1.frozen? ⟨b, 0, none⟩ = false := by
    unfold World.frozen? at hf ⊢
    rw [hBB.block b hbl]
    exact hf
  have hT1 : U1.cell? ⟨0, 0, none⟩ = some (rty 38) := (World.cell?_of_block (hBB.block _ hTl)).trans hT
  have h8 := heap_new U0 (.cells #[hnd 43, .pointer (some ⟨w.heap.size, 0, none⟩), .int .u64 150] 64)
  rw [hU1] at h8
  have x0 : U1.cell? ⟨U0.heap.size, 0, none⟩ = some (.pointer (some ⟨1, 43, none⟩)) := by simp [World.cell?, h8, hnd]
  have x1 : U1.cell? ⟨U0.heap.size, 1, none⟩ = some (.pointer (some ⟨w.heap.size, 0, none⟩)) := by simp [World.cell?, h8]
  have x2 : U1.cell? ⟨U0.heap.size, 2, none⟩ = some (.int .u64 150) := by simp [World.cell?, h8]
  have xl : U0.heap.size < U1.heap.size := (Array.getElem?_eq_some_iff.1 h8).1
  have gVo := vo_run ⟨b, 0, none⟩ w
  rw [hU0] at gVo
  have gTy := ty_run ⟨w.heap.size, 0, none⟩
  have gNil := nil_run ⟨w.heap.size, 0, none⟩ ⟨b, 0, none⟩ U1 hq1
  have gK := kind_run
  have gK2 := kind_run2
  have gE := el_run
  have gI := imp_run
  have gMk := mKind
  have gMe := mElem
  have gMi := mImp
  have h22 := @run_callFunc_extern Tryd.prog 22 _ xVo Tryd.func22 (by kernel_rfl) (by kernel_rfl) (by kernel_rfl) (by kernel_rfl)
  have h23 := @run_callFunc_extern Tryd.prog 23 _ xTy Tryd.func23 (by kernel_rfl) (by kernel_rfl) (by kernel_rfl) (by kernel_rfl)
  have h24 := @run_callFunc_extern Tryd.prog 24 _ xNil Tryd.func24 (by kernel_rfl) (by kernel_rfl) (by kernel_rfl) (by kernel_rfl)
  have h59 := @run_callFunc_extern Tryd.prog 59 _ rKind Tryd.func59 (by kernel_rfl) (by kernel_rfl) (by kernel_rfl) (by kernel_rfl)
  have h72 := @run_callFunc_extern Tryd.prog 72 _ rEl Tryd.func72 (by kernel_rfl) (by kernel_rfl) (by kernel_rfl) (by kernel_rfl)
  have h73 := @run_callFunc_extern Tryd.prog 73 _ rImp Tryd.func73 (by kernel_rfl) (by kernel_rfl) (by kernel_rfl) (by kernel_rfl)
  have HAS : Hid (Calls Tryd.prog 25 #[sV e, tV b, .agg #[hnd 43, .pointer (some ⟨w.heap.size, 0, none⟩), .int .u64 150], rty 41] U1 fun r w' => r = .returned (.bool true) ∧ w'.cell? ⟨b, 0, none⟩ = some (.pointer (some e)) ∧ U1.grownBy w' (some b)) := as_some e w.heap.size b U1 hq1 hb1 hf1
  have HBB : Hid (Below w.heap.size w U1) := hBB
  unfold sV tV rty hnd at HAS
  unfold sV tV
  unfold rty hnd at gTy gE gI hT1
  unfold hnd at gMk gK gK2
  unfold hnd at gVo gNil hU1
  clear hT hb hf hbl hTl hB0 hq0 hB1 hBB hq1 hb1 hf1 h8
  go_enter Tryd.func13, Tryd.ntmps13
  go_wp2_with (go_at_call 25; refine Calls.mono HAS.out ?_; rintro r u9 ⟨rfl, hc, hg⟩; have HC : Hid _ := hc; have HG : Hid _ := hg; clear hc hg)
  go_ret
  exact ⟨rfl, HC.out, HG.out.os.trans HBB.out.os, HG.out.tape.trans HBB.out.tape, HG.out.output.trans HBB.out.output, Nat.le_trans HBB.out.size HG.out.size, fun k hk hn => (HG.out.block k (Nat.lt_of_lt_of_le hk HBB.out.size) hn).trans (HBB.out.block k hk)⟩
end Go.Proofs.YtjaekfnlihhoeaaDoor
