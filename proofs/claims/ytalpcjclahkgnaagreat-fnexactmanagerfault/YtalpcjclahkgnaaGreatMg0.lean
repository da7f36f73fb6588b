import Derived.Test.YtalpcjclahkgnaaGreatCl1
namespace Go.Proofs.YtalpcjclahkgnaaGreat
open Go.ChangeShapes Go.WideShapes Go.ChangeAt Go.RowKit

/-- A cluster's rows, of the call's own. -/
structure CLown (w : World) (B : Nat) (s : CL) (a : CA) : Prop where
  o0 : w.ownsRow B 97 7 a.vnodes s.nodes.length (nodR s.nodes)
  o1 : w.ownsRow B 71 8 a.vvms s.vms.length (vmcR s.vms)
  o2 : w.ownsRow B 76 3 a.vtenants s.tenants.length (tntR s.tenants)
theorem CLown.rows {w : World} {B : Nat} {s : CL} {a : CA} (h : CLown w B s a) : CLRows w s a := ⟨NODrow.of h.o0, VMCrow.of h.o1, TNTrow.of h.o2⟩
theorem CLown.weak {w : World} {B B' : Nat} {s : CL} {a : CA} (h : CLown w B s a) (hb : B' ≤ B) : CLown w B' s a := ⟨own_weakN h.o0 hb, own_weakN h.o1 hb, own_weakN h.o2 hb⟩
theorem CLown.below {w w' : World} {B : Nat} {s : CL} {a : CA} (h : CLown w B s a) (hb : Below w.heap.size w w') : CLown w' B s a := ⟨own_belowN h.o0 hb, own_belowN h.o1 hb, own_belowN h.o2 hb⟩
theorem CLown.heap {u U : World} {lo lo' : Nat} {s : CL} {a : CA} (h : CLown u lo s a) (he : ∀ k, lo ≤ k → U.heap[k]? = u.heap[k]?) (hl : lo' ≤ lo) : CLown U lo' s a := ⟨own_heapN h.o0 he hl, own_heapN h.o1 he hl, own_heapN h.o2 he hl⟩
set_option maxRecDepth 100000 in
set_option maxHeartbeats 8000000 in
theorem toCL_own {w : World} {s : CL} {a : CA} (h : CLRows w s a) (hl : CLlen s) : Calls Tryz.prog 14 #[clA s a] w fun e w' => ∃ a2 : CA, e = .returned (clA s a2) ∧ CLown w' w.heap.size s a2 ∧ Below w.heap.size w w' := by
  have HR : Hid (CLRows w s a) := h
  obtain ⟨anodes, knodes, avms, kvms, atenants, ktenants, e⟩ := h.sl
  have HL : Hid (CLlen s) := hl
  subst e
  clear h hl
  unfold clA clC
  simp only
  go_enter Tryz.func14, Tryz.ntmps14
  go_wp2_with fail
  have HT0 : Hid (T3 w (((w.alloc (.cells #[.slice anodes s.nodes.length knodes, .slice avms s.vms.length kvms, .slice atenants s.tenants.length ktenants, .int .i64 s.over, .int .i64 s.time] 26)).alloc (.cells #[.slice none 0 0, .slice none 0 0, .slice none 0 0, .int .i64 0, .int .i64 0] 37)).alloc (.cells #[.slice none 0 0, .slice none 0 0, .slice none 0 0, .int .i64 0, .int .i64 0] 37)) 26 37 #[.slice anodes s.nodes.length knodes, .slice avms s.vms.length kvms, .slice atenants s.tenants.length ktenants, .int .i64 s.over, .int .i64 s.time] #[.slice none 0 0, .slice none 0 0, .slice none 0 0, .int .i64 0, .int .i64 0] #[.slice none 0 0, .slice none 0 0, .slice none 0 0, .int .i64 0, .int .i64 0]) := T3.new _ _ _ _ _ _
  generalize (((w.alloc (.cells #[.slice anodes s.nodes.length knodes, .slice avms s.vms.length kvms, .slice atenants s.tenants.length ktenants, .int .i64 s.over, .int .i64 s.time] 26)).alloc (.cells #[.slice none 0 0, .slice none 0 0, .slice none 0 0, .int .i64 0, .int .i64 0] 37)).alloc (.cells #[.slice none 0 0, .slice none 0 0, .slice none 0 0, .int .i64 0, .int .i64 0] 37)) = V0 at *
  refine Calls.mono (toNODS_any (HR.out.rnodes.below HT0.out.bel) HL.out.lnodes.1) ?_
  rintro e u0 ⟨vnodes, rfl, o1, hb1⟩
  obtain ⟨anodes2, knodes2, rfl⟩ := nod_sl o1
  have HT1 : Hid (T3 w u0 26 37 #[.slice anodes s.nodes.length knodes, .slice avms s.vms.length kvms, .slice atenants s.tenants.length ktenants, .int .i64 s.over, .int .i64 s.time] #[.slice none 0 0, .slice none 0 0, .slice none 0 0, .int .i64 0, .int .i64 0] #[.slice none 0 0, .slice none 0 0, .slice none 0 0, .int .i64 0, .int .i64 0]) := HT0.out.step hb1
  have HOnodes_0 : Hid (u0.ownsRow (w.heap.size + 3) 97 7 (.slice anodes2 s.nodes.length knodes2) s.nodes.length (nodR s.nodes)) := own_weakN o1 (by have := HT0.out.lt; omega)
  clear o1 hb1 HT0
  have c1 := celN HT1.out.b0 1 _ rfl
  have d0 := celN HT1.out.b2 0 _ rfl
  have df := frzN HT1.out.b2
  have lt1 := HT1.out.lt
  have g0 : w.heap.size < u0.heap.size := by omega
  have g2 : w.heap.size + 1 + 1 < u0.heap.size := by omega
  go_wp2_with fail
  clear c1 d0 df lt1 g0 g2
  have HT2 : Hid (T3 w (u0.setCell ⟨w.heap.size + 1 + 1, 0, none⟩ (.slice anodes2 s.nodes.length knodes2)) 26 37 #[.slice anodes s.nodes.length knodes, .slice avms s.vms.length kvms, .slice atenants s.tenants.length ktenants, .int .i64 s.over, .int .i64 s.time] #[.slice none 0 0, .slice none 0 0, .slice none 0 0, .int .i64 0, .int .i64 0] #[.slice anodes2 s.nodes.length knodes2, .slice none 0 0, .slice none 0 0, .int .i64 0, .int .i64 0]) := (HT1.out.set 0 (.slice anodes2 s.nodes.length knodes2))
  have hk : ∀ (x : World) (k o : Nat) (y : Value) (a : Nat), k ≠ a → (x.setCell ⟨a, o, none⟩ y).heap[k]? = x.heap[k]? := fun x k o y a h => Below.heap_setCell _ _ _ _ (by simpa using h)
  have HOnodes_0v : Hid ((u0.setCell ⟨w.heap.size + 1 + 1, 0, none⟩ (.slice anodes2 s.nodes.length knodes2)).ownsRow (w.heap.size + 3) 97 7 (.slice anodes2 s.nodes.length knodes2) s.nodes.length (nodR s.nodes)) := own_heapN HOnodes_0.out (fun k hk2 => by repeat rw [hk _ _ _ _ _ (by omega)]) (Nat.le_refl _)
  generalize (u0.setCell ⟨w.heap.size + 1 + 1, 0, none⟩ (.slice anodes2 s.nodes.length knodes2)) = V1 at *
  clear HT1 HOnodes_0 hk
  refine Calls.mono (toVMCS_any (HR.out.rvms.below HT2.out.bel) HL.out.lvms.1) ?_
  rintro e u1 ⟨vvms, rfl, o1, hb1⟩
  obtain ⟨avms2, kvms2, rfl⟩ := vmc_sl o1
  have HT3 : Hid (T3 w u1 26 37 #[.slice anodes s.nodes.length knodes, .slice avms s.vms.length kvms, .slice atenants s.tenants.length ktenants, .int .i64 s.over, .int .i64 s.time] #[.slice none 0 0, .slice none 0 0, .slice none 0 0, .int .i64 0, .int .i64 0] #[.slice anodes2 s.nodes.length knodes2, .slice none 0 0, .slice none 0 0, .int .i64 0, .int .i64 0]) := HT2.out.step hb1
  have HOvms_1 : Hid (u1.ownsRow (w.heap.size + 3) 71 8 (.slice avms2 s.vms.length kvms2) s.vms.length (vmcR s.vms)) := own_weakN o1 (by have := HT2.out.lt; omega)
  have HOnodes_1 : Hid (u1.ownsRow (w.heap.size + 3) 97 7 (.slice anodes2 s.nodes.length knodes2) s.nodes.length (nodR s.nodes)) := own_belowN HOnodes_0v.out hb1
  clear o1 hb1 HT2 HOnodes_0v
  have c2 := celN HT3.out.b0 2 _ rfl
  have d1 := celN HT3.out.b2 1 _ rfl
  have df := frzN HT3.out.b2
  have lt1 := HT3.out.lt
  have g0 : w.heap.size < u1.heap.size := by omega
  have g2 : w.heap.size + 1 + 1 < u1.heap.size := by omega
  go_wp2_with fail
  clear c2 d1 df lt1 g0 g2
  have HT4 : Hid (T3 w (u1.setCell ⟨w.heap.size + 1 + 1, 1, none⟩ (.slice avms2 s.vms.length kvms2)) 26 37 #[.slice anodes s.nodes.length knodes, .slice avms s.vms.length kvms, .slice atenants s.tenants.length ktenants, .int .i64 s.over, .int .i64 s.time] #[.slice none 0 0, .slice none 0 0, .slice none 0 0, .int .i64 0, .int .i64 0] #[.slice anodes2 s.nodes.length knodes2, .slice avms2 s.vms.length kvms2, .slice none 0 0, .int .i64 0, .int .i64 0]) := (HT3.out.set 1 (.slice avms2 s.vms.length kvms2))
  have hk : ∀ (x : World) (k o : Nat) (y : Value) (a : Nat), k ≠ a → (x.setCell ⟨a, o, none⟩ y).heap[k]? = x.heap[k]? := fun x k o y a h => Below.heap_setCell _ _ _ _ (by simpa using h)
  have HOnodes_1v : Hid ((u1.setCell ⟨w.heap.size + 1 + 1, 1, none⟩ (.slice avms2 s.vms.length kvms2)).ownsRow (w.heap.size + 3) 97 7 (.slice anodes2 s.nodes.length knodes2) s.nodes.length (nodR s.nodes)) := own_heapN HOnodes_1.out (fun k hk2 => by repeat rw [hk _ _ _ _ _ (by omega)]) (Nat.le_refl _)
  have HOvms_1v : Hid ((u1.setCell ⟨w.heap.size + 1 + 1, 1, none⟩ (.slice avms2 s.vms.length kvms2)).ownsRow (w.heap.size + 3) 71 8 (.slice avms2 s.vms.length kvms2) s.vms.length (vmcR s.vms)) := own_heapN HOvms_1.out (fun k hk2 => by repeat rw [hk _ _ _ _ _ (by omega)]) (Nat.le_refl _)
  generalize (u1.setCell ⟨w.heap.size + 1 + 1, 1, none⟩ (.slice avms2 s.vms.length kvms2)) = V2 at *
  clear HT3 HOnodes_1 HOvms_1 hk
  refine Calls.mono (toTNTS_any (HR.out.rtenants.below HT4.out.bel) HL.out.ltenants) ?_
  rintro e u2 ⟨vtenants, rfl, o1, hb1⟩
  obtain ⟨atenants2, ktenants2, rfl⟩ := tnt_sl o1
  have HT5 : Hid (T3 w u2 26 37 #[.slice anodes s.nodes.length knodes, .slice avms s.vms.length kvms, .slice atenants s.tenants.length ktenants, .int .i64 s.over, .int .i64 s.time] #[.slice none 0 0, .slice none 0 0, .slice none 0 0, .int .i64 0, .int .i64 0] #[.slice anodes2 s.nodes.length knodes2, .slice avms2 s.vms.length kvms2, .slice none 0 0, .int .i64 0, .int .i64 0]) := HT4.out.step hb1
  have HOtenants_2 : Hid (u2.ownsRow (w.heap.size + 3) 76 3 (.slice atenants2 s.tenants.length ktenants2) s.tenants.length (tntR s.tenants)) := own_weakN o1 (by have := HT4.out.lt; omega)
  have HOnodes_2 : Hid (u2.ownsRow (w.heap.size + 3) 97 7 (.slice anodes2 s.nodes.length knodes2) s.nodes.length (nodR s.nodes)) := own_belowN HOnodes_1v.out hb1
  have HOvms_2 : Hid (u2.ownsRow (w.heap.size + 3) 71 8 (.slice avms2 s.vms.length kvms2) s.vms.length (vmcR s.vms)) := own_belowN HOvms_1v.out hb1
  clear o1 hb1 HT4 HOnodes_1v HOvms_1v
  have c3 := celN HT5.out.b0 3 _ rfl
  have c4 := celN HT5.out.b0 4 _ rfl
  have d0 := celN HT5.out.b2 0 _ rfl
  have d1 := celN HT5.out.b2 1 _ rfl
  have d2 := celN HT5.out.b2 2 _ rfl
  have d3 := celN HT5.out.b2 3 _ rfl
  have d4 := celN HT5.out.b2 4 _ rfl
  have df := frzN HT5.out.b2
  have lt1 := HT5.out.lt
  have g0 : w.heap.size < u2.heap.size := by omega
  have k0 := celN HT5.out.b1 0 _ rfl
  have k1 := celN HT5.out.b1 1 _ rfl
  have k2 := celN HT5.out.b1 2 _ rfl
  have k3 := celN HT5.out.b1 3 _ rfl
  have k4 := celN HT5.out.b1 4 _ rfl
  have kf := frzN HT5.out.b1
  have g1 : w.heap.size + 1 < u2.heap.size := by omega
  have g2 : w.heap.size + 1 + 1 < u2.heap.size := by omega
  go_wp2
  have hk : ∀ (x : World) (k o : Nat) (y : Value) (a : Nat), k ≠ a → (x.setCell ⟨a, o, none⟩ y).heap[k]? = x.heap[k]? := fun x k o y a h => Below.heap_setCell _ _ _ _ (by simpa using h)
  refine bodyPost_ret (v := .agg #[.slice anodes2 s.nodes.length knodes2, .slice avms2 s.vms.length kvms2, .slice atenants2 s.tenants.length ktenants2, .int .i64 s.over, .int .i64 s.time]) ?_ rfl ⟨⟨.slice anodes2 s.nodes.length knodes2, .slice avms2 s.vms.length kvms2, .slice atenants2 s.tenants.length ktenants2⟩, rfl, ⟨own_weakN (B := w.heap.size + 3) (own_heapN HOnodes_2.out (fun k hk2 => by repeat rw [hk _ _ _ _ _ (by omega)]) (Nat.le_refl _)) (by omega), own_weakN (B := w.heap.size + 3) (own_heapN HOvms_2.out (fun k hk2 => by repeat rw [hk _ _ _ _ _ (by omega)]) (Nat.le_refl _)) (by omega), own_weakN (B := w.heap.size + 3) (own_heapN HOtenants_2.out (fun k hk2 => by repeat rw [hk _ _ _ _ _ (by omega)]) (Nat.le_refl _)) (by omega)⟩, ?_⟩
  · simp only [results, Tryz.results14, go_sem]
    simp [go_sem, k0, k1, k2, k3, k4]
  · have hB := HT5.out.bel
    repeat refine Below.setCell ?_ (by simp only; omega) _
    exact hB
end Go.Proofs.YtalpcjclahkgnaaGreat
