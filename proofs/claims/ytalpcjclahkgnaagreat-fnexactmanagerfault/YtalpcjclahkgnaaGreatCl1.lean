import Derived.Test.YtalpcjclahkgnaaGreatSzNOD
import Derived.Test.YtalpcjclahkgnaaGreatSzVMC
import Derived.Test.YtalpcjclahkgnaaGreatTntZ
import Derived.Test.YtalpcjclahkgnaaGreatLG
import Derived.Test.YtalpcjclahkgnaaGreatNe0
namespace Go.Proofs.YtalpcjclahkgnaaGreat
open Go.ChangeShapes Go.WideShapes Go.ChangeAt Go.RowKit

structure CL where
  nodes : List NOD
  vms : List VMC
  tenants : List TNT
  over : Int
  time : Int
structure CA where
  vnodes : Value
  vvms : Value
  vtenants : Value
def clC (s : CL) (a : CA) : Array Value := #[a.vnodes, a.vvms, a.vtenants, .int .i64 s.over, .int .i64 s.time]
def clA (s : CL) (a : CA) : Value := .agg (clC s a)
structure CLRows (w : World) (s : CL) (a : CA) : Prop where
  rnodes : NODrow w a.vnodes s.nodes
  rvms : VMCrow w a.vvms s.vms
  rtenants : TNTrow w a.vtenants s.tenants
theorem CLRows.below {w w' : World} {s : CL} {a : CA} (h : CLRows w s a) (hb : Below w.heap.size w w') : CLRows w' s a := ⟨h.rnodes.below hb, h.rvms.below hb, h.rtenants.below hb⟩
theorem CLRows.sl {w : World} {s : CL} {a : CA} (h : CLRows w s a) : ∃ anodes knodes avms kvms atenants ktenants, a = ⟨.slice anodes s.nodes.length knodes, .slice avms s.vms.length kvms, .slice atenants s.tenants.length ktenants⟩ := by
  obtain ⟨anodes, knodes, enodes⟩ := h.rnodes.sl
  obtain ⟨avms, kvms, evms⟩ := h.rvms.sl
  obtain ⟨atenants, ktenants, etenants⟩ := h.rtenants.sl
  refine ⟨anodes, knodes, avms, kvms, atenants, ktenants, ?_⟩
  rw [← enodes, ← evms, ← etenants]
structure CLlen (s : CL) : Prop where
  lnodes : s.nodes.length ≤ 1048576 ∧ ∀ z ∈ s.nodes, z.name.size ≤ 1048576
  lvms : s.vms.length ≤ 1048576 ∧ ∀ z ∈ s.vms, z.name.size ≤ 1048576 ∧ z.node.size ≤ 1048576
  ltenants : s.tenants.length ≤ 1048576
structure CLmax (s : CL) : Prop where
  lnodes : s.nodes.length ≤ maxLen ∧ ∀ z ∈ s.nodes, z.name.size ≤ maxLen
  lvms : s.vms.length ≤ maxLen ∧ ∀ z ∈ s.vms, z.name.size ≤ maxLen ∧ z.node.size ≤ maxLen
  ltenants : s.tenants.length ≤ maxLen
set_option maxRecDepth 100000 in
set_option maxHeartbeats 8000000 in
theorem toCL_any {w : World} {s : CL} {a : CA} (h : CLRows w s a) (hl : CLlen s) : Calls Tryz.prog 14 #[clA s a] w fun e w' => ∃ a2 : CA, e = .returned (clA s a2) ∧ CLRows w' s a2 ∧ Below w.heap.size w w' := by
  have HR : Hid (CLRows w s a) := h
  obtain ⟨anodes, knodes, avms, kvms, atenants, ktenants, e⟩ := h.sl
  have HL : Hid (CLlen s) := hl
  subst e
  clear h hl
  unfold clA clC
  simp only
  go_enter Tryz.func14, Tryz.ntmps14
  go_wp2_with fail
  have HT0 : Hid (T3 w (((w.alloc (.cells #[.slice anodes s.nodes.length knodes, .slice avms s.vms.length kvms, .slice atenants s.tenants.length ktenants, .int .i64 s.over, .int .i64 s.time] 26)).alloc (.cells #[.slice none 0 0, .slice none 0 0, .slice none 0 0, .int .i64 0, .int .i64 0] 37)).alloc (.cells #[.slice none 0 0, .slice none 0 0, .slice none 0 0, .int .i64 0, .int .i64 0] 37)) 26 37 #[.slice anodes s.nodes.length knodes, .slice avms s.vms.length kvms, .slice atenants s.tenants.length ktenants, .int .i64 s.over, .int .i64 s.time] #[.slice none 0 0, .slice none 0 0, .slice none 0 0, .int .i64 0, .int .i64 0] #[.slice none 0 0, .slice none 0 0, .slice none 0 0, .int .i64 0, .int .i64 0]) := T3.new _ _ _ _ _ _
  generalize (((w.alloc (.cells #[.slice anodes s.nodes.length knodes, .slice avms s.vms.length kvms, .slice atenants s.tenants.length ktenants, .int .i64 s.over, .int .i64 s.time] 26)).alloc (.cells #[.slice none 0 0, .slice none 0 0, .slice none 0 0, .int .i64 0, .int .i64 0] 37)).alloc (.cells #[.slice none 0 0, .slice none 0 0, .slice none 0 0, .int .i64 0, .int .i64 0] 37)) = V0 at *
  refine Calls.mono (toNODS_any (HR.out.rnodes.below HT0.out.bel) HL.out.lnodes.1) ?_
  rintro e u0 ⟨vnodes, rfl, o1, hb1⟩
  obtain ⟨anodes2, knodes2, rfl⟩ := nod_sl o1
  have HT1 : Hid (T3 w u0 26 37 #[.slice anodes s.nodes.length knodes, .slice avms s.vms.length kvms, .slice atenants s.tenants.length ktenants, .int .i64 s.over, .int .i64 s.time] #[.slice none 0 0, .slice none 0 0, .slice none 0 0, .int .i64 0, .int .i64 0] #[.slice none 0 0, .slice none 0 0, .slice none 0 0, .int .i64 0, .int .i64 0]) := HT0.out.step hb1
  have HOnodes_0 : Hid (u0.ownsRow (w.heap.size + 3) 97 7 (.slice anodes2 s.nodes.length knodes2) s.nodes.length (nodR s.nodes)) := own_weakN o1 (by have := HT0.out.lt; omega)
  clear o1 hb1 HT0
  have c1 := celN HT1.out.b0 1 _ rfl
  have d0 := celN HT1.out.b2 0 _ rfl
  have df := frzN HT1.out.b2
  have lt1 := HT1.out.lt
  have g0 : w.heap.size < u0.heap.size := by omega
  have g2 : w.heap.size + 1 + 1 < u0.heap.size := by omega
  go_wp2_with fail
  clear c1 d0 df lt1 g0 g2
  have HT2 : Hid (T3 w (u0.setCell ⟨w.heap.size + 1 + 1, 0, none⟩ (.slice anodes2 s.nodes.length knodes2)) 26 37 #[.slice anodes s.nodes.length knodes, .slice avms s.vms.length kvms, .slice atenants s.tenants.length ktenants, .int .i64 s.over, .int .i64 s.time] #[.slice none 0 0, .slice none 0 0, .slice none 0 0, .int .i64 0, .int .i64 0] #[.slice anodes2 s.nodes.length knodes2, .slice none 0 0, .slice none 0 0, .int .i64 0, .int .i64 0]) := (HT1.out.set 0 (.slice anodes2 s.nodes.length knodes2))
  have hk : ∀ (x : World) (k o : Nat) (y : Value) (a : Nat), k ≠ a → (x.setCell ⟨a, o, none⟩ y).heap[k]? = x.heap[k]? := fun x k o y a h => Below.heap_setCell _ _ _ _ (by simpa using h)
  have HOnodes_0v : Hid ((u0.setCell ⟨w.heap.size + 1 + 1, 0, none⟩ (.slice anodes2 s.nodes.length knodes2)).ownsRow (w.heap.size + 3) 97 7 (.slice anodes2 s.nodes.length knodes2) s.nodes.length (nodR s.nodes)) := own_heapN HOnodes_0.out (fun k hk2 => by repeat rw [hk _ _ _ _ _ (by omega)]) (Nat.le_refl _)
  generalize (u0.setCell ⟨w.heap.size + 1 + 1, 0, none⟩ (.slice anodes2 s.nodes.length knodes2)) = V1 at *
  clear HT1 HOnodes_0 hk
  refine Calls.mono (toVMCS_any (HR.out.rvms.below HT2.out.bel) HL.out.lvms.1) ?_
  rintro e u1 ⟨vvms, rfl, o1, hb1⟩
  obtain ⟨avms2, kvms2, rfl⟩ := vmc_sl o1
  have HT3 : Hid (T3 w u1 26 37 #[.slice anodes s.nodes.length knodes, .slice avms s.vms.length kvms, .slice atenants s.tenants.length ktenants, .int .i64 s.over, .int .i64 s.time] #[.slice none 0 0, .slice none 0 0, .slice none 0 0, .int .i64 0, .int .i64 0] #[.slice anodes2 s.nodes.length knodes2, .slice none 0 0, .slice none 0 0, .int .i64 0, .int .i64 0]) := HT2.out.step hb1
  have HOvms_1 : Hid (u1.ownsRow (w.heap.size + 3) 71 8 (.slice avms2 s.vms.length kvms2) s.vms.length (vmcR s.vms)) := own_weakN o1 (by have := HT2.out.lt; omega)
  have HOnodes_1 : Hid (u1.ownsRow (w.heap.size + 3) 97 7 (.slice anodes2 s.nodes.length knodes2) s.nodes.length (nodR s.nodes)) := own_belowN HOnodes_0v.out hb1
  clear o1 hb1 HT2 HOnodes_0v
  have c2 := celN HT3.out.b0 2 _ rfl
  have d1 := celN HT3.out.b2 1 _ rfl
  have df := frzN HT3.out.b2
  have lt1 := HT3.out.lt
  have g0 : w.heap.size < u1.heap.size := by omega
  have g2 : w.heap.size + 1 + 1 < u1.heap.size := by omega
  go_wp2_with fail
  clear c2 d1 df lt1 g0 g2
  have HT4 : Hid (T3 w (u1.setCell ⟨w.heap.size + 1 + 1, 1, none⟩ (.slice avms2 s.vms.length kvms2)) 26 37 #[.slice anodes s.nodes.length knodes, .slice avms s.vms.length kvms, .slice atenants s.tenants.length ktenants, .int .i64 s.over, .int .i64 s.time] #[.slice none 0 0, .slice none 0 0, .slice none 0 0, .int .i64 0, .int .i64 0] #[.slice anodes2 s.nodes.length knodes2, .slice avms2 s.vms.length kvms2, .slice none 0 0, .int .i64 0, .int .i64 0]) := (HT3.out.set 1 (.slice avms2 s.vms.length kvms2))
  have hk : ∀ (x : World) (k o : Nat) (y : Value) (a : Nat), k ≠ a → (x.setCell ⟨a, o, none⟩ y).heap[k]? = x.heap[k]? := fun x k o y a h => Below.heap_setCell _ _ _ _ (by simpa using h)
  have HOnodes_1v : Hid ((u1.setCell ⟨w.heap.size + 1 + 1, 1, none⟩ (.slice avms2 s.vms.length kvms2)).ownsRow (w.heap.size + 3) 97 7 (.slice anodes2 s.nodes.length knodes2) s.nodes.length (nodR s.nodes)) := own_heapN HOnodes_1.out (fun k hk2 => by repeat rw [hk _ _ _ _ _ (by omega)]) (Nat.le_refl _)
  have HOvms_1v : Hid ((u1.setCell ⟨w.heap.size + 1 + 1, 1, none⟩ (.slice avms2 s.vms.length kvms2)).ownsRow (w.heap.size + 3) 71 8 (.slice avms2 s.vms.length kvms2) s.vms.length (vmcR s.vms)) := own_heapN HOvms_1.out (fun k hk2 => by repeat rw [hk _ _ _ _ _ (by omega)]) (Nat.le_refl _)
  generalize (u1.setCell ⟨w.heap.size + 1 + 1, 1, none⟩ (.slice avms2 s.vms.length kvms2)) = V2 at *
  clear HT3 HOnodes_1 HOvms_1 hk
  refine Calls.mono (toTNTS_any (HR.out.rtenants.below HT4.out.bel) HL.out.ltenants) ?_
  rintro e u2 ⟨vtenants, rfl, o1, hb1⟩
  obtain ⟨atenants2, ktenants2, rfl⟩ := tnt_sl o1
  have HT5 : Hid (T3 w u2 26 37 #[.slice anodes s.nodes.length knodes, .slice avms s.vms.length kvms, .slice atenants s.tenants.length ktenants, .int .i64 s.over, .int .i64 s.time] #[.slice none 0 0, .slice none 0 0, .slice none 0 0, .int .i64 0, .int .i64 0] #[.slice anodes2 s.nodes.length knodes2, .slice avms2 s.vms.length kvms2, .slice none 0 0, .int .i64 0, .int .i64 0]) := HT4.out.step hb1
  have HOtenants_2 : Hid (u2.ownsRow (w.heap.size + 3) 76 3 (.slice atenants2 s.tenants.length ktenants2) s.tenants.length (tntR s.tenants)) := own_weakN o1 (by have := HT4.out.lt; omega)
  have HOnodes_2 : Hid (u2.ownsRow (w.heap.size + 3) 97 7 (.slice anodes2 s.nodes.length knodes2) s.nodes.length (nodR s.nodes)) := own_belowN HOnodes_1v.out hb1
  have HOvms_2 : Hid (u2.ownsRow (w.heap.size + 3) 71 8 (.slice avms2 s.vms.length kvms2) s.vms.length (vmcR s.vms)) := own_belowN HOvms_1v.out hb1
  clear o1 hb1 HT4 HOnodes_1v HOvms_1v
  have c3 := celN HT5.out.b0 3 _ rfl
  have c4 := celN HT5.out.b0 4 _ rfl
  have d0 := celN HT5.out.b2 0 _ rfl
  have d1 := celN HT5.out.b2 1 _ rfl
  have d2 := celN HT5.out.b2 2 _ rfl
  have d3 := celN HT5.out.b2 3 _ rfl
  have d4 := celN HT5.out.b2 4 _ rfl
  have df := frzN HT5.out.b2
  have lt1 := HT5.out.lt
  have g0 : w.heap.size < u2.heap.size := by omega
  have k0 := celN HT5.out.b1 0 _ rfl
  have k1 := celN HT5.out.b1 1 _ rfl
  have k2 := celN HT5.out.b1 2 _ rfl
  have k3 := celN HT5.out.b1 3 _ rfl
  have k4 := celN HT5.out.b1 4 _ rfl
  have kf := frzN HT5.out.b1
  have g1 : w.heap.size + 1 < u2.heap.size := by omega
  have g2 : w.heap.size + 1 + 1 < u2.heap.size := by omega
  go_wp2
  have hk : ∀ (x : World) (k o : Nat) (y : Value) (a : Nat), k ≠ a → (x.setCell ⟨a, o, none⟩ y).heap[k]? = x.heap[k]? := fun x k o y a h => Below.heap_setCell _ _ _ _ (by simpa using h)
  refine bodyPost_ret (v := .agg #[.slice anodes2 s.nodes.length knodes2, .slice avms2 s.vms.length kvms2, .slice atenants2 s.tenants.length ktenants2, .int .i64 s.over, .int .i64 s.time]) ?_ rfl ⟨⟨.slice anodes2 s.nodes.length knodes2, .slice avms2 s.vms.length kvms2, .slice atenants2 s.tenants.length ktenants2⟩, rfl, ⟨NODrow.of (B := w.heap.size + 3) (own_heapN HOnodes_2.out (fun k hk2 => by repeat rw [hk _ _ _ _ _ (by omega)]) (Nat.le_refl _)), VMCrow.of (B := w.heap.size + 3) (own_heapN HOvms_2.out (fun k hk2 => by repeat rw [hk _ _ _ _ _ (by omega)]) (Nat.le_refl _)), TNTrow.of (B := w.heap.size + 3) (own_heapN HOtenants_2.out (fun k hk2 => by repeat rw [hk _ _ _ _ _ (by omega)]) (Nat.le_refl _))⟩, ?_⟩
  · simp only [results, Tryz.results14, go_sem]
    simp [go_sem, k0, k1, k2, k3, k4]
  · have hB := HT5.out.bel
    repeat refine Below.setCell ?_ (by simp only; omega) _
    exact hB
set_option maxRecDepth 100000 in
set_option maxHeartbeats 8000000 in
theorem eqCL_ok {w : World} {s : CL} {a a2 : CA} (h : CLRows w s a) (h' : CLRows w s a2) (hl : CLlen s) : Calls Tryz.prog 18 #[clA s a, clA s a2] w fun e w' => e = .returned (.bool true) ∧ Below w.heap.size w w' := by
  have H1 : Hid (CLRows w s a) := h
  have H2 : Hid (CLRows w s a2) := h'
  have HL : Hid (CLlen s) := hl
  obtain ⟨anodes, knodes, avms, kvms, atenants, ktenants, e⟩ := h.sl
  obtain ⟨anodesx, knodesx, avmsx, kvmsx, atenantsx, ktenantsx, e'⟩ := h'.sl
  subst e e'
  clear h h' hl
  have n3 : (s.over != s.over) = false := by simp
  have n4 : (s.time != s.time) = false := by simp
  have HE0 : Hid (E2 w ((w.alloc (.cells #[.slice anodes s.nodes.length knodes, .slice avms s.vms.length kvms, .slice atenants s.tenants.length ktenants, .int .i64 s.over, .int .i64 s.time] 37)).alloc (.cells #[.slice anodesx s.nodes.length knodesx, .slice avmsx s.vms.length kvmsx, .slice atenantsx s.tenants.length ktenantsx, .int .i64 s.over, .int .i64 s.time] 37)) 37 #[.slice anodes s.nodes.length knodes, .slice avms s.vms.length kvms, .slice atenants s.tenants.length ktenants, .int .i64 s.over, .int .i64 s.time] #[.slice anodesx s.nodes.length knodesx, .slice avmsx s.vms.length kvmsx, .slice atenantsx s.tenants.length ktenantsx, .int .i64 s.over, .int .i64 s.time]) := E2.new _ _ _ _
  unfold clA clC
  simp only
  go_enter Tryz.func18, Tryz.ntmps18
  go_wp2_with fail
  generalize ((w.alloc (.cells #[.slice anodes s.nodes.length knodes, .slice avms s.vms.length kvms, .slice atenants s.tenants.length ktenants, .int .i64 s.over, .int .i64 s.time] 37)).alloc (.cells #[.slice anodesx s.nodes.length knodesx, .slice avmsx s.vms.length kvmsx, .slice atenantsx s.tenants.length ktenantsx, .int .i64 s.over, .int .i64 s.time] 37)) = u0 at *
  refine Calls.mono (eqNODS_ok (H1.out.rnodes.below HE0.out.bel) (H2.out.rnodes.below HE0.out.bel) HL.out.lnodes.1) ?_
  rintro e u1 ⟨rfl, hb1⟩
  have HE1 : Hid (E2 w u1 37 #[.slice anodes s.nodes.length knodes, .slice avms s.vms.length kvms, .slice atenants s.tenants.length ktenants, .int .i64 s.over, .int .i64 s.time] #[.slice anodesx s.nodes.length knodesx, .slice avmsx s.vms.length kvmsx, .slice atenantsx s.tenants.length ktenantsx, .int .i64 s.over, .int .i64 s.time]) := HE0.out.step hb1
  clear hb1 HE0
  have c1 := celN HE1.out.b0 1 _ rfl
  have d1 := celN HE1.out.b1 1 _ rfl
  have lt := HE1.out.lt
  have lt0 : w.heap.size < u1.heap.size := by omega
  go_wp2_with fail
  clear c1 d1 lt lt0
  refine Calls.mono (eqVMCS_ok (H1.out.rvms.below HE1.out.bel) (H2.out.rvms.below HE1.out.bel) HL.out.lvms.1) ?_
  rintro e u2 ⟨rfl, hb1⟩
  have HE2 : Hid (E2 w u2 37 #[.slice anodes s.nodes.length knodes, .slice avms s.vms.length kvms, .slice atenants s.tenants.length ktenants, .int .i64 s.over, .int .i64 s.time] #[.slice anodesx s.nodes.length knodesx, .slice avmsx s.vms.length kvmsx, .slice atenantsx s.tenants.length ktenantsx, .int .i64 s.over, .int .i64 s.time]) := HE1.out.step hb1
  clear hb1 HE1
  have c2 := celN HE2.out.b0 2 _ rfl
  have d2 := celN HE2.out.b1 2 _ rfl
  have lt := HE2.out.lt
  have lt0 : w.heap.size < u2.heap.size := by omega
  go_wp2_with fail
  clear c2 d2 lt lt0
  refine Calls.mono (eqTNTS_ok (H1.out.rtenants.below HE2.out.bel) (H2.out.rtenants.below HE2.out.bel) HL.out.ltenants) ?_
  rintro e u3 ⟨rfl, hb1⟩
  have HE3 : Hid (E2 w u3 37 #[.slice anodes s.nodes.length knodes, .slice avms s.vms.length kvms, .slice atenants s.tenants.length ktenants, .int .i64 s.over, .int .i64 s.time] #[.slice anodesx s.nodes.length knodesx, .slice avmsx s.vms.length kvmsx, .slice atenantsx s.tenants.length ktenantsx, .int .i64 s.over, .int .i64 s.time]) := HE2.out.step hb1
  clear hb1 HE2
  have c3 := celN HE3.out.b0 3 _ rfl
  have d3 := celN HE3.out.b1 3 _ rfl
  have c4 := celN HE3.out.b0 4 _ rfl
  have d4 := celN HE3.out.b1 4 _ rfl
  have lt := HE3.out.lt
  have lt0 : w.heap.size < u3.heap.size := by omega
  go_wp2
  go_ret
  exact ⟨rfl, HE3.out.bel⟩
set_option maxRecDepth 100000 in
set_option maxHeartbeats 8000000 in
theorem szCL_w {w : World} {s : CL} {a : CA} (h : CLRows w s a) (hm : CLmax s) : Calls Tryz.prog 9 #[clA s a, .int .i64 1048576] w fun e w' => ∃ q, e = .returned (.int .i64 q) ∧ -1 ≤ q ∧ q ≤ 1048576 ∧ (0 ≤ q → CLlen s) ∧ Below w.heap.size w w' := by
  have H1 : Hid (CLRows w s a) := h
  have HM : Hid (CLmax s) := hm
  obtain ⟨anodes, knodes, avms, kvms, atenants, ktenants, e⟩ := h.sl
  subst e
  clear h hm
  have HL0 : Hid (LG w (w.alloc (.cells #[.slice anodes s.nodes.length knodes, .slice avms s.vms.length kvms, .slice atenants s.tenants.length ktenants, .int .i64 s.over, .int .i64 s.time] 26)) w.heap.size #[.slice anodes s.nodes.length knodes, .slice avms s.vms.length kvms, .slice atenants s.tenants.length ktenants, .int .i64 s.over, .int .i64 s.time] 26) := LG.new w _ _
  unfold clA clC
  simp only
  go_enter Tryz.func9, Tryz.ntmps9
  go_wp2_with fail
  generalize (w.alloc (.cells #[.slice anodes s.nodes.length knodes, .slice avms s.vms.length kvms, .slice atenants s.tenants.length ktenants, .int .i64 s.over, .int .i64 s.time] 26)) = u0 at *
  generalize w.heap.size = b0 at *
  have q0a : (0 : Int) ≤ 1048576 := by decide
  have q0b : (1048576 : Int) ≤ 1048576 := by decide
  refine Calls.mono (szNODS_w (H1.out.rnodes.below HL0.out.bel) HM.out.lnodes.1 1048576 (by omega) (by omega) HM.out.lnodes.2) ?_
  rintro e u1 ⟨q1, rfl, q1a, q1b, hq, hu⟩
  have HL1 : Hid (LG w u1 b0 #[.slice anodes s.nodes.length knodes, .slice avms s.vms.length kvms, .slice atenants s.tenants.length ktenants, .int .i64 s.over, .int .i64 s.time] 26) := HL0.out.step hu
  have HQnodes : Hid (0 ≤ q1 → s.nodes.length ≤ 1048576 ∧ ∀ z ∈ s.nodes, z.name.size ≤ 1048576) := hq
  clear hu hq HL0
  have k0 := HL1.out.cel 1 _ rfl
  have kl := HL1.out.lt
  cases h0 : decide (q1 < 0)
  · have g0 := of_decide_eq_false h0
    go_wp2_with fail
    clear k0 kl h0
    refine Calls.mono (szVMCS_w (H1.out.rvms.below HL1.out.bel) HM.out.lvms.1 q1 (by omega) (by omega) HM.out.lvms.2) ?_
    rintro e u2 ⟨q2, rfl, q2a, q2b, hq, hu⟩
    have HL2 : Hid (LG w u2 b0 #[.slice anodes s.nodes.length knodes, .slice avms s.vms.length kvms, .slice atenants s.tenants.length ktenants, .int .i64 s.over, .int .i64 s.time] 26) := HL1.out.step hu
    have HQvms : Hid (0 ≤ q2 → s.vms.length ≤ 1048576 ∧ ∀ z ∈ s.vms, z.name.size ≤ 1048576 ∧ z.node.size ≤ 1048576) := hq
    clear hu hq HL1
    have k1 := HL2.out.cel 2 _ rfl
    have kl := HL2.out.lt
    cases h1 : decide (q2 < 0)
    · have g1 := of_decide_eq_false h1
      go_wp2_with fail
      clear k1 kl h1
      have hs2 := szTNTS_any atenants s.tenants.length ktenants q2 u2 (by omega) (by omega) HM.out.ltenants
      obtain ⟨q3, hr, q3a, q3b, hq⟩ : ∃ r : Int, (if (q2 : Int) < (s.tenants.length : Int) then -1 else (q2 : Int) - s.tenants.length) = r ∧ -1 ≤ r ∧ r ≤ 1048576 ∧ (0 ≤ r → s.tenants.length ≤ 1048576) := (by refine ⟨_, rfl, ?_⟩; split <;> omega)
      rw [hr] at hs2
      have HS2 : Hid _ := hs2
      have HQtenants : Hid (0 ≤ q3 → s.tenants.length ≤ 1048576) := hq
      clear hr hs2 hq
      refine Calls.mono HS2.out ?_
      rintro e u3 ⟨rfl, hw2⟩
      have HL3 : Hid (LG w u3 b0 #[.slice anodes s.nodes.length knodes, .slice avms s.vms.length kvms, .slice atenants s.tenants.length ktenants, .int .i64 s.over, .int .i64 s.time] 26) := (show LG w u3 b0 #[.slice anodes s.nodes.length knodes, .slice avms s.vms.length kvms, .slice atenants s.tenants.length ktenants, .int .i64 s.over, .int .i64 s.time] 26 by rw [hw2]; exact HL2.out)
      clear hw2 HL2 HS2
      cases h2 : decide (q3 < 0)
      · have g2 := of_decide_eq_false h2
        go_wp2
        go_ret
        exact ⟨q3, rfl, q3a, q3b, fun hh => ⟨HQnodes.out (by omega), HQvms.out (by omega), HQtenants.out (by omega)⟩, HL3.out.bel⟩
      · go_wp2
        go_ret
        exact ⟨-1, rfl, by omega, by omega, fun hh => absurd hh (by omega), HL3.out.bel⟩
    · go_wp2
      go_ret
      exact ⟨-1, rfl, by omega, by omega, fun hh => absurd hh (by omega), HL2.out.bel⟩
  · go_wp2
    go_ret
    exact ⟨-1, rfl, by omega, by omega, fun hh => absurd hh (by omega), HL1.out.bel⟩
end Go.Proofs.YtalpcjclahkgnaaGreat
