import Derived.Test.YtkmbhhkgfofcoaaCr2
import Derived.Test.YtkmbhhkgfofcoaaRegE
import Derived.BigRegion
namespace Go.Proofs.Ytkmbhhkgfofcoaa
open Go.ChangeShapes Go.WideShapes Go.ChangeAt Go.RowKit

theorem ctL_at (cs : List (Int × Int)) (k : Nat) (hk : k < cs.length) (j : Nat) (hj : j < 2) : (ctL cs)[k * 2 + j]? = [Value.int .i64 cs[k].1, .int .i64 cs[k].2][j]? := by
  match j, hj with
  | 0, _ => exact ctL_0 cs k hk
  | 1, _ => exact ctL_1 cs k hk
theorem nc_made (m : Nat) : (madeCells #[.int .i64 0, .int .i64 0] (m * 2)).toList = ctL (List.replicate m (0, 0)) := by
  apply List.ext_getElem?
  intro i
  by_cases hi : i < m * 2
  · have hq : i = i / 2 * 2 + i % 2 := by omega
    have h2 := ctL_at (List.replicate m (0, 0)) (i / 2) (by rw [List.length_replicate]; omega) (i % 2) (by omega)
    rw [← hq] at h2
    rw [h2, List.getElem_replicate]
    have hl : (madeCells #[.int .i64 0, .int .i64 0] (m * 2)).toList.length = m * 2 := by simp [madeCells]
    rw [List.getElem?_eq_getElem (by omega)]
    have : i % 2 < 2 := Nat.mod_lt _ (by omega)
    generalize hr : i % 2 = r at *
    simp only [madeCells, Array.getElem_toList, Array.getElem_map, Array.getElem_range, List.size_toArray, List.length_cons, List.length_nil]
    rw [show i % (0 + 1 + 1) = r by simpa using hr]
    match r, this with
    | 0, _ => rfl
    | 1, _ => rfl
  · rw [List.getElem?_eq_none (by simp [madeCells]; omega), List.getElem?_eq_none (by rw [ctL_len]; simp; omega)]
theorem nc_zero : (Try.prog.info? 99).map (fun i => (i.zero, i.size)) = some (some (.agg #[.int .i64 0, .int .i64 0]), 2) := by kernel_rfl
theorem nc_bytes : ∀ i, Try.prog.info? 99 = some i → i.bytes ≤ 16 := by
  intro i h
  have e : (Try.prog.info? 99).map (fun i => decide (i.bytes ≤ 16)) = some true := by kernel_rfl
  rw [h] at e
  simpa using e
theorem nc_mk (w : World) (m : Nat) (hm : m ≤ 1048576) : (Instr.makeSlice 79 (.int .i64 m) (.int .i64 m)).run Try.prog w = .ok (.slice (some ⟨w.heap.size, 0, none⟩) m m) (w.alloc (.cells (ctL (List.replicate m (0, 0))).toArray 99)) := by
  have h1 := nc_zero
  cases hq : Try.prog.info? 99 with
  | none => simp [hq] at h1
  | some i =>
    have hb := nc_bytes i hq
    simp [hq] at h1
    have h3 : i.bytes * m ≤ 16 * 1048576 := Nat.mul_le_mul hb hm
    have hbm : (i.bytes : Int) * (m : Int) ≤ 281474976710656 := by
      rw [← Int.natCast_mul]
      omega
    have hr := run_make (P := Try.prog) w 79 99 i _ Try.underlying79 hq h1.1 .i64 .i64 m m (by omega) (by omega) hbm (by omega)
    rw [hr, h1.2]
    simp only [Int.toNat_natCast, Value.cells]
    rw [← nc_made]
def stC (s : CL) (cs : List (Int × Int)) (v : VMC) : List (Int × Int) := if 0 ≤ ndX s v.node then cs.set (ndX s v.node).toNat (wrap64 ((cs.getD (ndX s v.node).toNat (0, 0)).1 + v.cpu), wrap64 ((cs.getD (ndX s v.node).toNat (0, 0)).2 + v.mem)) else cs
/-- The counts of a cluster's nodes. -/
def cnK (s : CL) (j : Nat) : List (Int × Int) := (s.vms.take j).foldl (stC s) (List.replicate s.nodes.length (0, 0))
def cnL (s : CL) : List (Int × Int) := s.vms.foldl (stC s) (List.replicate s.nodes.length (0, 0))
theorem cnK_all (s : CL) : cnK s s.vms.length = cnL s := by simp [cnK, cnL]
theorem cnK_succ {s : CL} {k : Nat} (h : k < s.vms.length) : cnK s (k + 1) = stC s (cnK s k) s.vms[k] := by
  unfold cnK
  rw [List.take_succ_eq_append_getElem h, List.foldl_append]
  rfl
theorem stC_len (s : CL) (cs : List (Int × Int)) (v : VMC) : (stC s cs v).length = cs.length := by
  unfold stC
  split <;> simp
theorem cnK_len (s : CL) (k : Nat) : (cnK s k).length = s.nodes.length := by
  unfold cnK
  have : ∀ (l : List VMC) (cs : List (Int × Int)), (l.foldl (stC s) cs).length = cs.length := by
    intro l
    induction l with
    | nil => intro cs; rfl
    | cons v l ih => intro cs; rw [List.foldl_cons, ih, stC_len]
  rw [this, List.length_replicate]
theorem stC_no {s : CL} {cs : List (Int × Int)} {v : VMC} (h : ndX s v.node = -1) : stC s cs v = cs := by simp [stC, h]
theorem stC_yes {s : CL} {cs : List (Int × Int)} {v : VMC} {q : Nat} (h : ndX s v.node = q) (hq : q < cs.length) : stC s cs v = cs.set q (wrap64 (cs[q].1 + v.cpu), wrap64 (cs[q].2 + v.mem)) := by
  simp [stC, h, List.getD, List.getElem?_eq_getElem hq]
/-- A runner behind a pointer. -/
structure RX (w : World) (r : Nat) (s : CL) (a : CA) (cb : Nat) (cs : List (Int × Int)) : Prop where
  cx : CX w r s a
  c5 : w.cell? ⟨r, 5, none⟩ = some (.slice (some ⟨cb, 0, none⟩) s.nodes.length s.nodes.length)
  kb : w.heap[cb]? = some (.cells (ctL cs).toArray 99)
  len : cs.length = s.nodes.length
theorem RX.cl {w : World} {r : Nat} {s : CL} {a : CA} {cb : Nat} {cs : List (Int × Int)} (h : RX w r s a cb cs) : cb < w.heap.size := (Array.getElem?_eq_some_iff.1 h.kb).1
theorem RX.below {w w' : World} {r : Nat} {s : CL} {a : CA} {cb : Nat} {cs : List (Int × Int)} (h : RX w r s a cb cs) (hb : Below w.heap.size w w') : RX w' r s a cb cs :=
  ⟨h.cx.below hb, (World.cell?_of_block (hb.block r h.cx.lt)).trans h.c5, (hb.block cb h.cl).trans h.kb, h.len⟩
theorem RX.kw {w : World} {r : Nat} {s : CL} {a : CA} {cb : Nat} {cs : List (Int × Int)} (h : RX w r s a cb cs) : KW w w cb cs := ⟨⟨rfl, rfl, rfl, Nat.le_refl _, fun _ _ _ => rfl⟩, h.kb⟩
theorem LG.put {w u : World} {b t : Nat} {cs : Array Value} (h : LG w u b cs t) (k : Nat) (v : Value) : LG w (u.setCell ⟨b, k, none⟩ v) b (cs.setIfInBounds k v) t :=
  ⟨h.bel.setCell (by simpa using h.ge) v, heap_put u b k v _ _ _ h.box, h.ge⟩
set_option maxRecDepth 100000 in
set_option maxHeartbeats 8000000 in
theorem newRunner_any {w : World} {s : CL} {a : CA} (h : CLRows w s a) (hl : CLlen s) : Calls Try.prog 35 #[clA s a] w fun e w' => ∃ (r : Nat) (a2 : CA) (cb : Nat), e = .returned (.pointer (some ⟨r, 0, none⟩)) ∧ RX w' r s a2 cb (cnL s) ∧ Below w.heap.size w w' := by
  have l0 : s.nodes.length ≤ 1048576 := hl.lnodes.1
  have l1 : s.vms.length ≤ 1048576 := hl.lvms.1
  have l2 : s.tenants.length ≤ 1048576 := hl.ltenants
  clear hl
  obtain ⟨an, kn, av, kv, ae, ke, e⟩ := h.sl
  subst e
  have HN : Hid (NODrow w (.slice an s.nodes.length kn) s.nodes) := h.rnodes
  have HR : Hid (VMCrow w (.slice av s.vms.length kv) s.vms) := h.rvms
  have HT : Hid (TNTrow w (.slice ae s.tenants.length ke) s.tenants) := h.rtenants
  clear h
  have HL0 : Hid (LG w (w.alloc (.cells #[.slice an s.nodes.length kn, .slice av s.vms.length kv, .slice ae s.tenants.length ke, .int .i64 s.over, .int .i64 s.time] 33)) w.heap.size #[.slice an s.nodes.length kn, .slice av s.vms.length kv, .slice ae s.tenants.length ke, .int .i64 s.over, .int .i64 s.time] 33) := LG.new w _ _
  have HSZ : Hid ((w.alloc (.cells #[.slice an s.nodes.length kn, .slice av s.vms.length kv, .slice ae s.tenants.length ke, .int .i64 s.over, .int .i64 s.time] 33)).heap.size = w.heap.size + 1) := (show (w.alloc (.cells #[.slice an s.nodes.length kn, .slice av s.vms.length kv, .slice ae s.tenants.length ke, .int .i64 s.over, .int .i64 s.time] 33)).heap.size = w.heap.size + 1 by simp)
  unfold clA clC
  simp only
  go_enter Try.func35, Try.ntmps35
  go_upto_region 1 with fail
  generalize (w.alloc (.cells #[.slice an s.nodes.length kn, .slice av s.vms.length kv, .slice ae s.tenants.length ke, .int .i64 s.over, .int .i64 s.time] 33)) = u0 at *
  generalize hbc : w.heap.size = bc at HL0 HSZ ⊢
  have HSB : Hid ((fun w' => LG w w' bc #[.slice an s.nodes.length kn, .slice av s.vms.length kv, .slice ae s.tenants.length ke, .int .i64 s.over, .int .i64 s.time] 33 ∧ bc + 1 ≤ w'.heap.size) u0.drew) := ⟨HL0.out.drew, Nat.le_of_eq HSZ.out.symm⟩
  refine AnyE.start (fun w' => LG w w' bc #[.slice an s.nodes.length kn, .slice av s.vms.length kv, .slice ae s.tenants.length ke, .int .i64 s.over, .int .i64 s.time] 33 ∧ bc + 1 ≤ w'.heap.size) [10, 11, 12, 13, 14] (by kernel_rfl) ?_
  refine AnyE.take (i := 0) (v := .pointer (some ⟨bc, 0, none⟩)) rfl (by kernel_rfl) (by kernel_rfl) (by kernel_rfl) (by kernel_rfl) (by kernel_rfl) (fun _ _ _ h => h) (Or.inl ⟨by kernel_rfl, fun w9 h9 => ?_⟩) HSB.out ?_
  · go_simp
  refine AnyE.take (i := 1) (v := .slice an s.nodes.length kn) rfl (by kernel_rfl) (by kernel_rfl) (by kernel_rfl) (by kernel_rfl) (by kernel_rfl) (fun _ _ _ h => h) (Or.inl ⟨by kernel_rfl, fun w9 h9 => ?_⟩) HSB.out ?_
  · obtain ⟨hlg, _⟩ := h9; have z0 := hlg.cel 0 _ rfl; have z1 := hlg.cel 1 _ rfl; have z2 := hlg.cel 2 _ rfl; go_simp
  refine AnyE.take (i := 3) (v := .pointer (some ⟨bc, 1, none⟩)) rfl (by kernel_rfl) (by kernel_rfl) (by kernel_rfl) (by kernel_rfl) (by kernel_rfl) (fun _ _ _ h => h) (Or.inl ⟨by kernel_rfl, fun w9 h9 => ?_⟩) HSB.out ?_
  · go_simp
  refine AnyE.take (i := 4) (v := .slice av s.vms.length kv) rfl (by kernel_rfl) (by kernel_rfl) (by kernel_rfl) (by kernel_rfl) (by kernel_rfl) (fun _ _ _ h => h) (Or.inl ⟨by kernel_rfl, fun w9 h9 => ?_⟩) HSB.out ?_
  · obtain ⟨hlg, _⟩ := h9; have z0 := hlg.cel 0 _ rfl; have z1 := hlg.cel 1 _ rfl; have z2 := hlg.cel 2 _ rfl; go_simp
  refine AnyE.take (i := 6) (v := .pointer (some ⟨bc, 2, none⟩)) rfl (by kernel_rfl) (by kernel_rfl) (by kernel_rfl) (by kernel_rfl) (by kernel_rfl) (fun _ _ _ h => h) (Or.inl ⟨by kernel_rfl, fun w9 h9 => ?_⟩) HSB.out ?_
  · go_simp
  refine AnyE.take (i := 7) (v := .slice ae s.tenants.length ke) rfl (by kernel_rfl) (by kernel_rfl) (by kernel_rfl) (by kernel_rfl) (by kernel_rfl) (fun _ _ _ h => h) (Or.inl ⟨by kernel_rfl, fun w9 h9 => ?_⟩) HSB.out ?_
  · obtain ⟨hlg, _⟩ := h9; have z0 := hlg.cel 0 _ rfl; have z1 := hlg.cel 1 _ rfl; have z2 := hlg.cel 2 _ rfl; go_simp
  refine AnyE.one 2 (by kernel_rfl) rfl (by kernel_rfl) fun K hK => ?_
  go_simp
  go_wp2_with (go_at_call 57; refine Calls.mono (cloneNOD_any (HN.out.below HSB.out.1.bel) (by assumption)) ?_; rintro e wn ⟨vn, rfl, on, hbn⟩; obtain ⟨an2, kn2, rfl⟩ := nod_sl on; have HOn : Hid (wn.ownsRow (bc + 1) 73 7 (.slice an2 s.nodes.length kn2) s.nodes.length (nodR s.nodes)) := own_weakN on HSB.out.2; have HSn : Hid ((fun w' => LG w w' bc #[.slice an s.nodes.length kn, .slice av s.vms.length kv, .slice ae s.tenants.length ke, .int .i64 s.over, .int .i64 s.time] 33 ∧ bc + 1 ≤ w'.heap.size) wn) := ⟨HSB.out.1.step hbn, Nat.le_trans HSB.out.2 hbn.size⟩; clear hbn on)
  refine hK _ _ (fun _ => HSn.out) ?_
  clear hK K
  refine AnyE.one 5 (by kernel_rfl) rfl (by kernel_rfl) fun K hK => ?_
  go_simp
  go_wp2_with (go_at_call 58; refine Calls.mono (cloneVMC_any (HR.out.below HSn.out.1.bel) (by assumption)) ?_; rintro e wv ⟨vv, rfl, ov, hbv⟩; obtain ⟨av2, kv2, rfl⟩ := vmc_sl ov; have HOv : Hid (wv.ownsRow (bc + 1) 41 8 (.slice av2 s.vms.length kv2) s.vms.length (vmcR s.vms)) := own_weakN ov HSn.out.2; have HSv : Hid ((fun w' => LG w w' bc #[.slice an s.nodes.length kn, .slice av s.vms.length kv, .slice ae s.tenants.length ke, .int .i64 s.over, .int .i64 s.time] 33 ∧ bc + 1 ≤ w'.heap.size) wv) := ⟨HSn.out.1.step hbv, Nat.le_trans HSn.out.2 hbv.size⟩; have HOn := own_belowN HOn.out hbv; have HOn : Hid _ := HOn; clear hbv ov)
  refine hK _ _ (fun _ => HSv.out) ?_
  clear hK K
  refine AnyE.one 8 (by kernel_rfl) rfl (by kernel_rfl) fun K hK => ?_
  go_simp
  go_wp2_with (go_at_call 59; refine Calls.mono (cloneTNT_any (HT.out.below HSv.out.1.bel) (by assumption)) ?_; rintro e we ⟨ve, rfl, oe, hbe⟩; obtain ⟨ae2, ke2, rfl⟩ := tnt_sl oe; have HOe : Hid (we.ownsRow (bc + 1) 54 3 (.slice ae2 s.tenants.length ke2) s.tenants.length (tntR s.tenants)) := own_weakN oe HSv.out.2; have HSe : Hid ((fun w' => LG w w' bc #[.slice an s.nodes.length kn, .slice av s.vms.length kv, .slice ae s.tenants.length ke, .int .i64 s.over, .int .i64 s.time] 33 ∧ bc + 1 ≤ w'.heap.size) we) := ⟨HSv.out.1.step hbe, Nat.le_trans HSv.out.2 hbe.size⟩; have HOn := own_belowN HOn.out hbe; have HOn : Hid _ := HOn; have HOv := own_belowN HOv.out hbe; have HOv : Hid _ := HOv; clear hbe oe; have zz0 := HSe.out.1.cel 0 _ rfl; have zz1 := HSe.out.1.cel 1 _ rfl; have zz2 := HSe.out.1.cel 2 _ rfl; have zf0 := HSe.out.1.frz 0; have zf1 := HSe.out.1.frz 1; have zf2 := HSe.out.1.frz 2; have zl := HSe.out.1.lt)
  refine hK _ _ (fun _ => HSe.out) ?_
  clear hK K
  refine AnyE.take (i := 9) (v := .pointer (some ⟨bc, 0, none⟩)) rfl (by kernel_rfl) (by kernel_rfl) (by kernel_rfl) (by kernel_rfl) (by kernel_rfl) (fun _ _ _ h => h) (Or.inl ⟨by kernel_rfl, fun w9 h9 => ?_⟩) HSe.out ?_
  · go_simp
  refine AnyE.one 10 (by kernel_rfl) rfl (by kernel_rfl) fun K hK => ?_
  go_simp
  skip
  refine hK _ _ (fun h => absurd (by decide) h) ?_
  clear hK K
  refine AnyE.one 11 (by kernel_rfl) rfl (by kernel_rfl) fun K hK => ?_
  go_simp
  refine hK _ _ (fun h => absurd (by decide) h) ?_
  clear hK K
  refine AnyE.one 12 (by kernel_rfl) rfl (by kernel_rfl) fun K hK => ?_
  go_simp
  skip
  refine hK _ _ (fun h => absurd (by decide) h) ?_
  clear hK K
  refine AnyE.one 13 (by kernel_rfl) rfl (by kernel_rfl) fun K hK => ?_
  go_simp
  refine hK _ _ (fun h => absurd (by decide) h) ?_
  clear hK K
  refine AnyE.one 14 (by kernel_rfl) rfl (by kernel_rfl) fun K hK => ?_
  go_simp
  skip
  refine hK _ _ (fun h => absurd (by decide) h) ?_
  clear hK K
  refine AnyE.done (by kernel_rfl) ?_ _
  go_simp
  have HL4 : Hid (LG w (((we.setCell ⟨bc, 0, none⟩ (.slice an2 s.nodes.length kn2)).setCell ⟨bc, 1, none⟩ (.slice av2 s.vms.length kv2)).setCell ⟨bc, 2, none⟩ (.slice ae2 s.tenants.length ke2)) bc #[.slice an2 s.nodes.length kn2, .slice av2 s.vms.length kv2, .slice ae2 s.tenants.length ke2, .int .i64 s.over, .int .i64 s.time] 33) := ((HSe.out.1.put 0 _).put 1 _).put 2 _
  have hk : ∀ k, bc + 1 ≤ k → (((we.setCell ⟨bc, 0, none⟩ (.slice an2 s.nodes.length kn2)).setCell ⟨bc, 1, none⟩ (.slice av2 s.vms.length kv2)).setCell ⟨bc, 2, none⟩ (.slice ae2 s.tenants.length ke2)).heap[k]? = we.heap[k]? := fun k h => by
    rw [Below.heap_setCell _ _ _ _ (by simp only; omega), Below.heap_setCell _ _ _ _ (by simp only; omega), Below.heap_setCell _ _ _ _ (by simp only; omega)]
  have HRW : Hid (CLRows (((we.setCell ⟨bc, 0, none⟩ (.slice an2 s.nodes.length kn2)).setCell ⟨bc, 1, none⟩ (.slice av2 s.vms.length kv2)).setCell ⟨bc, 2, none⟩ (.slice ae2 s.tenants.length ke2)) s ⟨.slice an2 s.nodes.length kn2, .slice av2 s.vms.length kv2, .slice ae2 s.tenants.length ke2⟩) := ⟨NODrow.of (own_heapN HOn.out hk (Nat.le_refl _)), VMCrow.of (own_heapN HOv.out hk (Nat.le_refl _)), TNTrow.of (own_heapN HOe.out hk (Nat.le_refl _))⟩
  generalize (((we.setCell ⟨bc, 0, none⟩ (.slice an2 s.nodes.length kn2)).setCell ⟨bc, 1, none⟩ (.slice av2 s.vms.length kv2)).setCell ⟨bc, 2, none⟩ (.slice ae2 s.tenants.length ke2)) = u4 at *
  clear hk HOn HOv HOe HSe HSv HSn HSB HL0 HSZ HN HR HT zz0 zz1 zz2 zf0 zf1 zf2 zl
  have y0 := HL4.out.cel 0 _ rfl
  have y1 := HL4.out.cel 1 _ rfl
  have y2 := HL4.out.cel 2 _ rfl
  have y3 := HL4.out.cel 3 _ rfl
  have y4 := HL4.out.cel 4 _ rfl
  have yl := HL4.out.lt
  have hmk := nc_mk u4.drew s.nodes.length l0
  have HCB : Hid (bc ≤ u4.heap.size) := hbc ▸ HL4.out.bel.size
  go_upto_region 2 with fail
  go_region
  have HU4 : Hid (CX u4 bc s ⟨.slice an2 s.nodes.length kn2, .slice av2 s.vms.length kv2, .slice ae2 s.tenants.length ke2⟩) := ⟨HL4.out.lt, fun k v hk => HL4.out.cel k v hk, HRW.out⟩
  have HK0 : Hid (KW (((u4.alloc (.cells (ctL (List.replicate s.nodes.length (0, 0))).toArray 99)).alloc (.cells #[.slice an2 s.nodes.length kn2, .slice av2 s.vms.length kv2, .slice ae2 s.tenants.length ke2, .int .i64 s.over, .int .i64 s.time, .slice (some ⟨u4.heap.size, 0, none⟩) s.nodes.length s.nodes.length] 81)).drew) (((u4.alloc (.cells (ctL (List.replicate s.nodes.length (0, 0))).toArray 99)).alloc (.cells #[.slice an2 s.nodes.length kn2, .slice av2 s.vms.length kv2, .slice ae2 s.tenants.length ke2, .int .i64 s.over, .int .i64 s.time, .slice (some ⟨u4.heap.size, 0, none⟩) s.nodes.length s.nodes.length] 81)).drew) u4.heap.size (cnK s 0)) := ⟨⟨rfl, rfl, rfl, Nat.le_refl _, fun _ _ _ => rfl⟩, (bx1 (u4.alloc (.cells (ctL (List.replicate s.nodes.length (0, 0))).toArray 99)) (.cells #[.slice an2 s.nodes.length kn2, .slice av2 s.vms.length kv2, .slice ae2 s.tenants.length ke2, .int .i64 s.over, .int .i64 s.time, .slice (some ⟨u4.heap.size, 0, none⟩) s.nodes.length s.nodes.length] 81)).block u4.heap.size (by simp) |>.trans (heap_new u4 _)⟩
  have HBU : Hid (Below u4.heap.size u4 (((u4.alloc (.cells (ctL (List.replicate s.nodes.length (0, 0))).toArray 99)).alloc (.cells #[.slice an2 s.nodes.length kn2, .slice av2 s.vms.length kv2, .slice ae2 s.tenants.length ke2, .int .i64 s.over, .int .i64 s.time, .slice (some ⟨u4.heap.size, 0, none⟩) s.nodes.length s.nodes.length] 81)).drew)) := bdn ((bx1 u4 _).trans ((bx1 _ _).mono (by simp))) 1
  have HR6 : Hid (LG u4 (((u4.alloc (.cells (ctL (List.replicate s.nodes.length (0, 0))).toArray 99)).alloc (.cells #[.slice an2 s.nodes.length kn2, .slice av2 s.vms.length kv2, .slice ae2 s.tenants.length ke2, .int .i64 s.over, .int .i64 s.time, .slice (some ⟨u4.heap.size, 0, none⟩) s.nodes.length s.nodes.length] 81)).drew) (u4.heap.size + 1) #[.slice an2 s.nodes.length kn2, .slice av2 s.vms.length kv2, .slice ae2 s.tenants.length ke2, .int .i64 s.over, .int .i64 s.time, .slice (some ⟨u4.heap.size, 0, none⟩) s.nodes.length s.nodes.length] 81) := ((LG.mk2 (bx1 u4 _)).cast (by simp)).drew
  have HWU : Hid (Below bc w u4) := hbc ▸ HL4.out.bel
  clear hmk y3 y4 y0 y2
  have y1 : (((u4.alloc (.cells (ctL (List.replicate s.nodes.length (0, 0))).toArray 99)).alloc (.cells #[.slice an2 s.nodes.length kn2, .slice av2 s.vms.length kv2, .slice ae2 s.tenants.length ke2, .int .i64 s.over, .int .i64 s.time, .slice (some ⟨u4.heap.size, 0, none⟩) s.nodes.length s.nodes.length] 81)).drew).cell? ⟨bc, 1, none⟩ = some (.slice av2 s.vms.length kv2) := (HBU.out.cell (p := ⟨bc, 1, none⟩) HL4.out.lt).trans (HL4.out.cel 1 _ rfl)
  have yl2 : bc < (((u4.alloc (.cells (ctL (List.replicate s.nodes.length (0, 0))).toArray 99)).alloc (.cells #[.slice an2 s.nodes.length kn2, .slice av2 s.vms.length kv2, .slice ae2 s.tenants.length ke2, .int .i64 s.over, .int .i64 s.time, .slice (some ⟨u4.heap.size, 0, none⟩) s.nodes.length s.nodes.length] 81)).drew).heap.size := Nat.lt_of_lt_of_le HL4.out.lt HBU.out.size
  clear HL4 HRW yl
  generalize (((u4.alloc (.cells (ctL (List.replicate s.nodes.length (0, 0))).toArray 99)).alloc (.cells #[.slice an2 s.nodes.length kn2, .slice av2 s.vms.length kv2, .slice ae2 s.tenants.length ke2, .int .i64 s.over, .int .i64 s.time, .slice (some ⟨u4.heap.size, 0, none⟩) s.nodes.length s.nodes.length] 81)).drew) = U at *
  generalize hcb : u4.heap.size = cb at *
  go_wp2
  clear y1 yl2
  go_loopw [29] (fun i wr => ∃ k : Nat, k ≤ s.vms.length ∧ i = .int .i64 k ∧ KW U wr cb (cnK s k)) (fun i _ => s.vms.length - (intOf i).toNat)
  case atStart => exact ⟨0, Nat.zero_le _, rfl, HK0.out⟩
  case round =>
    obtain ⟨k, hk, rfl, hkw⟩ := hrel
    have HK : Hid (KW U wr cb (cnK s k)) := hkw
    have HBX : Hid (Below cb u4 wr) := HBU.out.trans ⟨hkw.g.os, hkw.g.tape, hkw.g.output, hkw.g.size, fun j hj => hkw.g.block j (Nat.lt_of_lt_of_le hj (hcb ▸ HBU.out.size)) (fun e => by cases e; omega)⟩
    clear hkw HK0
    have HX : Hid (CX wr bc s ⟨.slice an2 s.nodes.length kn2, .slice av2 s.vms.length kv2, .slice ae2 s.tenants.length ke2⟩) := HU4.out.below (hcb ▸ HBX.out)
    have HR7 : Hid (LG u4 wr (cb + 1) #[.slice an2 s.nodes.length kn2, .slice av2 s.vms.length kv2, .slice ae2 s.tenants.length ke2, .int .i64 s.over, .int .i64 s.time, .slice (some ⟨cb, 0, none⟩) s.nodes.length s.nodes.length] 81) := ⟨hcb ▸ HBX.out, (HK.out.g.block (cb + 1) HR6.out.lt (fun e => by injection e with e; omega)).trans HR6.out.box, HR6.out.ge⟩
    have y1 := HX.out.cel 1 _ rfl
    have yl := HX.out.lt
    by_cases hlt : k < s.vms.length
    · obtain ⟨g, o, cap2, hv, _, hg, hc⟩ := HX.out.rows.rvms.resolve_left (fun h => by rw [h.1] at hlt; simp at hlt)
      injection hv with hv1 hv2 hv3
      subst hv1 hv3
      have hk0 : (0 : Int) ≤ (k : Int) := by omega
      have hk1 : (k : Int) < (s.vms.length : Int) := by omega
      obtain ⟨d0, d1, d2, d3, d4, d5, d6, d7⟩ := hc k hlt
      have HS : Hid (cnK s (k + 1) = stC s (cnK s k) s.vms[k]) := cnK_succ hlt
      generalize s.vms[k] = v at *
      have HX1 : Hid (CX (wr.alloc (.cells #[.string v.name, .int .i64 v.tenant, .int .i64 v.cpu, .int .i64 v.mem, .int .i64 v.zone, .int .i64 v.apart, .string v.node, .int .i64 v.epoch] 41)) bc s ⟨.slice an2 s.nodes.length kn2, .slice (some ⟨g, o, none⟩) s.vms.length kv2, .slice ae2 s.tenants.length ke2⟩) := HX.out.below (bx1 _ _)
      have HK1 : Hid (KW U (wr.alloc (.cells #[.string v.name, .int .i64 v.tenant, .int .i64 v.cpu, .int .i64 v.mem, .int .i64 v.zone, .int .i64 v.apart, .string v.node, .int .i64 v.epoch] 41)) cb (cnK s k)) := HK.out.step (bx1 _ _)
      have HR1 : Hid (LG u4 (wr.alloc (.cells #[.string v.name, .int .i64 v.tenant, .int .i64 v.cpu, .int .i64 v.mem, .int .i64 v.zone, .int .i64 v.apart, .string v.node, .int .i64 v.epoch] 41)) (cb + 1) #[.slice an2 s.nodes.length kn2, .slice (some ⟨g, o, none⟩) s.vms.length kv2, .slice ae2 s.tenants.length ke2, .int .i64 s.over, .int .i64 s.time, .slice (some ⟨cb, 0, none⟩) s.nodes.length s.nodes.length] 81) := HR7.out.next
      have HZ1 : Hid (LG wr (wr.alloc (.cells #[.string v.name, .int .i64 v.tenant, .int .i64 v.cpu, .int .i64 v.mem, .int .i64 v.zone, .int .i64 v.apart, .string v.node, .int .i64 v.epoch] 41)) wr.heap.size #[.string v.name, .int .i64 v.tenant, .int .i64 v.cpu, .int .i64 v.mem, .int .i64 v.zone, .int .i64 v.apart, .string v.node, .int .i64 v.epoch] 41) := LG.new _ _ _
      go_upto_region 6 with fail
      clear d0 d1 d2 d3 d4 d5 d6 d7 hc hg y1 yl HX HR7 hk0 hk1 HBX
      generalize (wr.alloc (.cells #[.string v.name, .int .i64 v.tenant, .int .i64 v.cpu, .int .i64 v.mem, .int .i64 v.zone, .int .i64 v.apart, .string v.node, .int .i64 v.epoch] 41)) = u5 at *
      generalize hb5 : wr.heap.size = b5 at *
      have z6 := HZ1.out.cel 6 _ rfl
      have zl := HZ1.out.lt
      go_upto_region 7 with (go_at_call 60; refine Calls.mono (nodeAt_any HX1.out l0 v.node) ?_; rintro e w6 ⟨rfl, hb6⟩)
      have HX2 : Hid (CX w6 bc s ⟨.slice an2 s.nodes.length kn2, .slice (some ⟨g, o, none⟩) s.vms.length kv2, .slice ae2 s.tenants.length ke2⟩) := HX1.out.below hb6
      have HK2 : Hid (KW U w6 cb (cnK s k)) := HK1.out.step hb6
      have HR2 : Hid (LG u4 w6 (cb + 1) #[.slice an2 s.nodes.length kn2, .slice (some ⟨g, o, none⟩) s.vms.length kv2, .slice ae2 s.tenants.length ke2, .int .i64 s.over, .int .i64 s.time, .slice (some ⟨cb, 0, none⟩) s.nodes.length s.nodes.length] 81) := HR1.out.step hb6
      have HZ2 : Hid (LG wr w6 b5 #[.string v.name, .int .i64 v.tenant, .int .i64 v.cpu, .int .i64 v.mem, .int .i64 v.zone, .int .i64 v.apart, .string v.node, .int .i64 v.epoch] 41) := HZ1.out.step hb6
      clear hb6 HX1 HK1 HR1 HZ1 z6 zl HK
      rcases ndX_or s v.node with ⟨hx, _⟩ | ⟨q, hq, hx, _⟩
      · have E4 : Hid (cnK s (k + 1) = cnK s k) := HS.out.trans (stC_no hx)
        rw [hx]
        clear HS
        go_wp2
        exact ⟨⟨k + 1, hlt, by go_num, by rw [E4.out]; exact HK2.out⟩, by simp [intOf]; omega⟩
      · have hq2 : q < (cnK s k).length := by rw [cnK_len]; exact hq
        have E4 : Hid (cnK s (k + 1) = (cnK s k).set q (wrap64 ((cnK s k)[q].1 + v.cpu), wrap64 ((cnK s k)[q].2 + v.mem))) := HS.out.trans (stC_yes hx hq2)
        rw [hx]
        clear HS hx
        have hq0 : (0 : Int) ≤ (q : Int) := by omega
        have hq1 : (q : Int) < (s.nodes.length : Int) := by omega
        have r5 := HR2.out.cel 5 _ rfl
        have rl := HR2.out.lt
        have z0 := HZ2.out.cel 0 _ rfl
        have z1 := HZ2.out.cel 1 _ rfl
        have z2 := HZ2.out.cel 2 _ rfl
        have z3 := HZ2.out.cel 3 _ rfl
        have z4 := HZ2.out.cel 4 _ rfl
        have z5 := HZ2.out.cel 5 _ rfl
        have z6 := HZ2.out.cel 6 _ rfl
        have z7 := HZ2.out.cel 7 _ rfl
        have zl := HZ2.out.lt
        go_upto_region 8 with fail
        have HC : Hid (∀ w, KW U w cb (cnK s k) → Calls Try.prog 61 #[.pointer (some ⟨cb, q * 2, none⟩), .agg #[.string v.name, .int .i64 v.tenant, .int .i64 v.cpu, .int .i64 v.mem, .int .i64 v.zone, .int .i64 v.apart, .string v.node, .int .i64 v.epoch]] w fun e w' => e = .returned (.tuple #[]) ∧ KW U w' cb ((cnK s k).set q (wrap64 ((cnK s k)[q].1 + v.cpu), wrap64 ((cnK s k)[q].2 + v.mem)))) := fun w hw => come_any hw q hq2 v
        go_region_with ((go_at_call 61; refine Calls.mono (HC.out _ (HK2.out.step ⟨rfl, rfl, rfl, Nat.le_refl _, fun _ _ => rfl⟩)) ?_; rintro e w7 ⟨rfl, hk7⟩; have HK7 : Hid (KW U w7 cb ((cnK s k).set q (wrap64 ((cnK s k)[q].1 + v.cpu), wrap64 ((cnK s k)[q].2 + v.mem)))) := hk7; clear hk7))
        all_goals go_wp2
        all_goals exact ⟨⟨k + 1, hlt, by go_num, by rw [E4.out]; exact HK7.out⟩, by simp [intOf]; omega⟩
    · obtain rfl : k = s.vms.length := by omega
      go_wp2
      go_ret
      refine ⟨cb + 1, ⟨.slice an2 s.nodes.length kn2, .slice av2 s.vms.length kv2, .slice ae2 s.tenants.length ke2⟩, cb, rfl, ⟨⟨HR7.out.lt, fun k v hk => ?_, HX.out.rows⟩, HR7.out.cel 5 _ rfl, by rw [← cnK_all]; exact HK.out.cb, by rw [← cnK_all]; exact cnK_len _ _⟩, ?_⟩
      · refine HR7.out.cel k v ?_
        rcases k with _ | _ | _ | _ | _ | k <;> simp_all [clC]
      · exact hbc ▸ HWU.out.trans (HBX.out.mono (hcb ▸ HCB.out))
end Go.Proofs.Ytkmbhhkgfofcoaa
