import Derived.Test.YtfagohdmepnkkaaIMap2
import Derived.Deep.DeepCutAuto
namespace Go.Proofs.Ytfagohdmepnkkaa
open Go.ChangeShapes Go.WideShapes Go.ChangeAt Go.RowKit

/-- No more than two blocks are others. -/
structure Gm (w u : World) (b M : Nat) : Prop where
  os : u.os = w.os
  tape : u.tape = w.tape
  output : u.output = w.output
  size : w.heap.size ≤ u.heap.size
  block : ∀ k, k < w.heap.size → k ≠ b → k ≠ M → u.heap[k]? = w.heap[k]?
theorem Gm.refl (w : World) (b M : Nat) : Gm w w b M := ⟨rfl, rfl, rfl, Nat.le_refl _, fun _ _ _ _ => rfl⟩
theorem Gm.of {w u : World} {b M : Nat} (h : w.grownBy u (some b)) : Gm w u b M := ⟨h.os, h.tape, h.output, h.size, fun k hk h1 _ => h.block k hk (fun q => h1 (Option.some.inj q))⟩
theorem Gm.trans {w u v : World} {b M : Nat} (h : Gm w u b M) (h2 : Gm u v b M) : Gm w v b M := ⟨h2.os.trans h.os, h2.tape.trans h.tape, h2.output.trans h.output, Nat.le_trans h.size h2.size, fun k hk h1 h3 => (h2.block k (Nat.lt_of_lt_of_le hk h.size) h1 h3).trans (h.block k hk h1 h3)⟩
theorem Gm.set {w : World} {b M o : Nat} {v : Value} : Gm w (w.setCell ⟨M, o, none⟩ v) b M := ⟨rfl, rfl, rfl, by simp [World.setCell], fun k _ _ h => Below.heap_setCell _ _ _ _ h⟩
theorem Gm.row {w : World} {b M : Nat} {cs : Array Value} : Gm w (w.setRow b cs) b M := ⟨rfl, rfl, rfl, by simp [World.setRow], fun k _ h _ => setRow_other _ _ _ _ h⟩
theorem Gm.drew {w u : World} {b M : Nat} (h : Gm w u b M) : Gm w u.drew b M := ⟨h.os, h.tape, h.output, h.size, h.block⟩
/-- A frame of zeros is put. -/
theorem mcel_zfr (s : ByteArray) (f : Nat) : ((mcel s).toList.take (f * 256) ++ cells8 zB.data.toList ++ (mcel s).toList.drop (f * 256 + 256)).toArray = mcel (zfr s f) := by
  have e5 : (s.data.toList.drop ((f + 1) * 256)).take (s.size - (f + 1) * 256) = s.data.toList.drop ((f + 1) * 256) := by
    apply List.take_of_length_le
    rw [List.length_drop, bsize]
    exact Nat.le_refl _
  have e6 : (zfr s f).data.toList = s.data.toList.take (f * 256) ++ zB.data.toList ++ s.data.toList.drop ((f + 1) * 256) := by
    unfold zfr
    simp only [ByteArray.data_append, Array.toList_append, ByteArray.data_extract, Array.toList_extract, List.extract_eq_take_drop, e5]
    simp
  unfold mcel
  rw [e6, show (f + 1) * 256 = f * 256 + 256 by omega]
  simp [cells8]
theorem frSizeA : (Try.prog.info? 142).map (·.size) = some 256 := by kernel_rfl
theorem storeV_zero (w : World) (b f : Nat) (s : ByteArray) (hb : MemAt w b s) (hf : f * 256 + 256 ≤ s.size) :
    (storeVar 142 ⟨b, f * 256, none⟩ (.agg (zrs 256).toArray)).run Try.prog w = .ok () (w.setRow b (mcel (zfr s f))) := by
  have hz : cells8 zB.data.toList = zrs 256 := by
    have := congrArg Array.toList zB_cells
    simpa [mcel] using this
  have hl : (zrs 256).length = 256 := List.length_replicate
  have hst := run_storeCells_at Try.prog b (f * 256) 142 (zrs 256) 0 (mcel s) w hb (by rw [hl, mcel_size]; omega) (fun v hv => by rw [← hz] at hv; exact cells8_one _ v hv)
  rw [hl, Nat.add_zero, ← hz, mcel_zfr] at hst
  have hi := frSizeA
  cases hq : Try.prog.info? 142 with
  | none => simp [hq] at hi
  | some i =>
    have hsz : i.size = 256 := by simpa [hq] using hi
    have hc : ((zrs 256).toArray).toList = cells8 zB.data.toList := by rw [hz]
    have hc2 : ((zrs 256).toArray).size = 256 := by rw [List.size_toArray, hl]
    simp [storeVar, sizeOf, typeInfo, hq, Value.cells, hsz, hc2, hc, hst]
theorem wl_zero {ops : Array Oper} {rest : List Oper} {op : Oper} {a : Act} {w : World} {Q : Exit → Act → World → Prop} (hgd : op.guard = none) (x y : Operand) (ho : op.op = .store 142 x y)
    (b f : Nat) (s : ByteArray) (hx : a.eval x = .pointer (some ⟨b, f * 256, none⟩)) (hy : a.eval y = .agg (zrs 256).toArray) (hb : MemAt w b s) (hf : f * 256 + 256 ≤ s.size)
    (h : wpList Try.prog ops Q rest (a.put op.dst undef) (w.setRow b (mcel (zfr s f)))) : wpList Try.prog ops Q (op :: rest) a w :=
  wpList_plain hgd fun _ hK => by
    unfold Oper.wp execOp
    simp only [ho, hx, hy, Instr.storeAt, Instr.sureAddr, Sem.run_bind, Sem.run_pure, Result.andThen_ok, storeV_zero w b f s hb hf]
    exact hK _ _ h
set_option maxRecDepth 100000 in
theorem zeroFr (w : World) : Sem.run Try.prog (zeroValue 142) w = .ok (.agg (zrs 256).toArray) w := by kernel_rfl
theorem MpB.free {w : World} {M b n : Nat} {root : Int} {fv : Value} (h : MpB w M b n root fv) (v : Value) : MpB (w.setCell ⟨M, 2, none⟩ v) M b n root v := by
  have h0 := heap_setCell_same w M 2 _ _ v h
  simpa [MpB] using h0
set_option maxRecDepth 100000 in
set_option maxHeartbeats 4000000 in
theorem take_none {w : World} {M b n : Nat} {root : Int} {ao : Option Addr} {cap : Nat} (hB : MpB w M b n root (.slice ao 0 cap)) :
    Calls Try.prog 131 #[.pointer (some ⟨M, 0, none⟩)] w fun e w' => e = .returned (.tuple #[.int .i64 0, .int .i64 4]) ∧ w' = w := by
  obtain ⟨c0, c1, c2⟩ := hB.cel
  go_enter Try.func131, Try.ntmps131
  go_wp2
  go_ret2
  exact ⟨rfl, rfl⟩
set_option maxRecDepth 100000 in
set_option maxHeartbeats 4000000 in
theorem take_some {w : World} {M b n g o nn cap f : Nat} {root : Int} {ao2 : Option Addr} (hB : MpB w M b n root (.slice (some ⟨g, o, none⟩) nn cap)) (hgM : g ≠ M) (hg : w.cell? ⟨g, o, none⟩ = some (.int .i64 (f : Int))) (hn1 : 1 ≤ nn) (hsl : ∀ u : World, Sem.run Try.prog (Instr.slice 28 (.slice (some ⟨g, o, none⟩) nn cap) (some (.int .i64 1)) none none) u = .ok (.slice ao2 (nn - 1) (cap - 1)) u) :
    Calls Try.prog 131 #[.pointer (some ⟨M, 0, none⟩)] w fun e w' => e = .returned (.tuple #[.int .i64 f, .int .i64 0]) ∧ w' = w.setCell ⟨M, 2, none⟩ (.slice ao2 (nn - 1) (cap - 1)) := by
  obtain ⟨c0, c1, c2⟩ := hB.cel
  have hfz : ∀ x, w.frozen? ⟨M, x, none⟩ = false := fun x => by unfold MpB at hB; simp [World.frozen?, hB]
  have n0 : ((nn : Int) == 0) = false := by
    have : ¬ (nn : Int) = 0 := by omega
    simpa using this
  have n1 : (0 : Int) < (nn : Int) := by omega
  have hMg : ¬ M = g := fun q => hgM q.symm
  go_enter Try.func131, Try.ntmps131
  go_wp2
  go_ret2
  exact ⟨rfl, rfl⟩
set_option maxRecDepth 100000 in
set_option maxHeartbeats 4000000 in
theorem addTable_none {w : World} {M b n k : Nat} {root : Int} {ao : Option Addr} {cap : Nat} (hB : MpB w M b n root (.slice ao 0 cap)) :
    Calls Try.prog 121 #[.pointer (some ⟨M, 0, none⟩), .int .i64 k] w fun e w' => e = .returned (.int .i64 4) ∧ w' = w := by
  have HT : Hid _ := take_none hB
  go_enter Try.func121, Try.ntmps121
  go_wp2_with (go_at_call 131; refine Calls.mono HT.out ?_; rintro r u1 ⟨rfl, hu1⟩; subst u1)
  go_ret
  exact ⟨rfl, rfl⟩
set_option maxRecDepth 100000 in
set_option maxHeartbeats 4000000 in
theorem addTable_some {w : World} {M b n k g o nn cap f : Nat} {root : Int} {s : ByteArray} {ao2 : Option Addr} (hM : MemAt w b s) (hB : MpB w M b n root (.slice (some ⟨g, o, none⟩) nn cap)) (hne : M ≠ b) (hgM : g ≠ M) (hg : w.cell? ⟨g, o, none⟩ = some (.int .i64 (f : Int))) (hn1 : 1 ≤ nn) (hsl : ∀ u : World, Sem.run Try.prog (Instr.slice 28 (.slice (some ⟨g, o, none⟩) nn cap) (some (.int .i64 1)) none none) u = .ok (.slice ao2 (nn - 1) (cap - 1)) u) (hf : f * 256 + 256 ≤ s.size) (hn : s.size = n * 256) (hs : s.size ≤ 65536) (hk : k + 4 ≤ s.size) (h4 : k % 4 = 0) :
    Calls Try.prog 121 #[.pointer (some ⟨M, 0, none⟩), .int .i64 k] w fun e w' => e = .returned (.int .i64 0) ∧ MemAt w' b (setv (zfr s f) k ((f : Int) * 256 + 1)) ∧ MpB w' M b n root (.slice ao2 (nn - 1) (cap - 1)) ∧ Gm w w' b M := by
  have fb : (f : Int) < (n : Int) := by omega
  have fb0 : (0 : Int) ≤ (f : Int) := by omega
  have z0 := zfr_size s f hf
  have HB1 : Hid (MpB (w.setCell ⟨M, 2, none⟩ (.slice ao2 (nn - 1) (cap - 1))) M b n root (.slice ao2 (nn - 1) (cap - 1))) := hB.free _
  have HM1 : Hid (MemAt (w.setCell ⟨M, 2, none⟩ (.slice ao2 (nn - 1) (cap - 1))) b s) := (Below.heap_setCell _ _ _ _ (fun q => hne q.symm)).trans hM
  have HG1 : Hid (Gm w (w.setCell ⟨M, 2, none⟩ (.slice ao2 (nn - 1) (cap - 1))) b M) := Gm.set
  have HF : Hid (f * 256 + 256 ≤ s.size) := hf
  have HEO : Hid (∀ u : World, Calls Try.prog 120 #[.int .i64 f, .int .i64 1] u fun e w' => e = .returned (.int .i64 ((f : Int) * 256 + 1)) ∧ w' = u) := fun u => by
    have h := entryOf_any (f : Int) 1 u (by omega) (by omega)
    rw [or1k f (by omega)] at h
    exact h
  have HPT : Hid (∀ (u : World), MemAt u b (zfr s f) → Calls Try.prog 119 #[mv b n, .int .i64 k, .int .i64 ((f : Int) * 256 + 1)] u fun e w' => e = .returned (.tuple #[]) ∧ MemAt w' b (setv (zfr s f) k ((f : Int) * 256 + 1)) ∧ u.grownBy w' (some b)) := fun u hu => memPut_any b n (zfr s f) k _ u hu (by rw [z0]; exact hn) (by omega) (by omega) h4
  have hzf := zeroFr
  unfold mv at HPT
  have HNE : Hid (M ≠ b) := hne
  have HTK : Hid _ := take_some hB hgM hg hn1 hsl
  clear hM hB z0 hn hs hk h4 hf hne hgM hg hn1 hsl
  go_enter Try.func121, Try.ntmps121
  go_upto_region 2 with (go_at_call 131; refine Calls.mono HTK.out ?_; rintro r u1 ⟨rfl, hu1⟩; subst u1)
  go_upto_region 4 with fail
  generalize w.setCell ⟨M, 2, none⟩ (.slice ao2 (nn - 1) (cap - 1)) = W at *
  obtain ⟨c0, c1, c2⟩ := HB1.out.cel
  unfold mv at c0
  go_upto_region 5 with (refine wl_zero rfl _ _ rfl b f s rfl rfl HM1.out HF.out ?_)
  have HM2 : Hid (MemAt (W.setRow b (mcel (zfr s f))) b (zfr s f)) := setRow_heap _ _ _ _ _ _ HM1.out
  have HB2 : Hid (MpB (W.setRow b (mcel (zfr s f))) M b n root (.slice ao2 (nn - 1) (cap - 1))) := (setRow_other _ _ _ _ HNE.out).trans HB1.out
  have HG2 : Hid (Gm w (W.setRow b (mcel (zfr s f))) b M) := HG1.out.trans Gm.row
  generalize W.setRow b (mcel (zfr s f)) = V at *
  clear c0 c1 c2 HM1 HB1 HG1
  obtain ⟨c0, c1, c2⟩ := HB2.out.cel
  unfold mv at c0
  go_region_with (first | (go_at_call 120; refine Calls.mono (HEO.out _) ?_; rintro r u2 ⟨rfl, hu2⟩; subst u2) | (go_at_call 119; refine Calls.mono (HPT.out _ (show MemAt _ b (zfr s f) from HM2.out)) ?_; rintro r u3 ⟨rfl, hm3, hg3⟩; have HM3 : Hid _ := hm3; have HG3 : Hid _ := hg3; clear hm3 hg3))
  all_goals go_wp2
  all_goals go_ret
  all_goals exact ⟨rfl, HM3.out, (HG3.out.block M (show M < V.heap.size from HB2.out.lt) (fun q => HNE.out (Option.some.inj q))).trans HB2.out, HG2.out.trans (Gm.of ⟨HG3.out.os, HG3.out.tape, HG3.out.output, HG3.out.size, HG3.out.block⟩)⟩
end Go.Proofs.Ytfagohdmepnkkaa
