import Derived.Deep.AppendLies
import Derived.Test.YtfagohdmepnkkaaTPut1
import Derived.Test.YtfagohdmepnkkaaRegInv
namespace Go.Proofs.Ytfagohdmepnkkaa
open Go.ChangeShapes Go.WideShapes Go.ChangeAt Go.RowKit

/-- What TlbPut makes of a right cache. -/
def putL (zs : List TE) (nx : Int) (e : TE) : List TE := if teOk e = false then zs else if 0 ≤ idxI (fun x => same x e) zs then zs.set (idxI (fun x => same x e) zs).toNat e else if zs.length < 16 then zs ++ [e] else zs.set nx.toNat e
def putN (zs : List TE) (nx : Int) (e : TE) : Int := if teOk e = true ∧ ¬ 0 ≤ idxI (fun x => same x e) zs ∧ ¬ zs.length < 16 then (nx + 1) % 16 else nx
/-- The three boxes of TlbPut. -/
structure PX0 (w u : World) (v : Value) (nx : Int) (e : TE) : Prop where
  bel : Below w.heap.size w u
  b0 : BoxT u w.heap.size v nx
  b1 : BoxE u (w.heap.size + 1) e
  b2 : u.heap[w.heap.size + 1 + 1]? = some (.cells #[.slice none 0 0, .int .i64 0] 61 (0, 0))
theorem PX0.lt {w u : World} {v : Value} {nx : Int} {e : TE} (h : PX0 w u v nx e) : w.heap.size + 1 + 1 < u.heap.size := (Array.getElem?_eq_some_iff.1 h.b2).1
theorem PX0.step {w u u' : World} {v : Value} {nx : Int} {e : TE} (h : PX0 w u v nx e) (hb : Below u.heap.size u u') : PX0 w u' v nx e := by
  have := h.lt
  exact ⟨h.bel.trans (hb.mono h.bel.size), h.b0.below hb (by omega), h.b1.below hb (by omega), (hb.block _ (by omega)).trans h.b2⟩
theorem PX0.new (w : World) (ao : Option Addr) (n cap : Nat) (nx : Int) (e : TE) : PX0 w (((w.alloc (.cells #[.slice ao n cap, .int .i64 nx] 61)).alloc (.cells #[.int .i64 e.asid, .int .i64 e.page, .int .i64 e.frame, .int .i64 e.flags, .bool e.large] 66)).alloc (.cells #[.slice none 0 0, .int .i64 0] 61)) (.slice ao n cap) nx e := by
  obtain ⟨h0, h1, h2, _⟩ := al3 w (.cells #[.slice ao n cap, .int .i64 nx] 61) (.cells #[.int .i64 e.asid, .int .i64 e.page, .int .i64 e.frame, .int .i64 e.flags, .bool e.large] 66) (.cells #[.slice none 0 0, .int .i64 0] 61)
  exact ⟨(((Below.refl _ _).alloc (Nat.le_refl _) _).alloc (by simp) _).alloc (by simp; omega) _, h0, h1, h2⟩
/-- Behind the copy: its box at b, its row. -/
structure PX (w u : World) (b : Nat) (v : Value) (nx : Int) (zs : List TE) (v0 : Value) (nx0 : Int) (e : TE) : Prop where
  base : PX0 w u v0 nx0 e
  lb : w.heap.size + 1 + 1 < b
  box : BoxT u b v nx
  row : u.ownsRow (w.heap.size + 3) 66 5 v zs.length (teR zs)
  ne : v.ownBlock ≠ some b
theorem PX.step {w u u' : World} {b : Nat} {v : Value} {nx : Int} {zs : List TE} {v0 : Value} {nx0 : Int} {e : TE} (h : PX w u b v nx zs v0 nx0 e) (hb : Below u.heap.size u u') : PX w u' b v nx zs v0 nx0 e :=
  ⟨h.base.step hb, h.lb, h.box.below hb h.box.lt, te_below h.row hb, h.ne⟩
theorem putBoxT {u : World} {b : Nat} {x y : Value} (h : u.heap[b]? = some (.cells #[x, y] 61 (0, 0))) (v : Value) (nx : Int) : BoxT ((u.setCell ⟨b, 0, none⟩ v).setCell ⟨b, 1, none⟩ (.int .i64 nx)) b v nx := by
  have h0 := heap_setCell_same u b 0 _ _ v h
  exact heap_setCell_same _ b 1 _ _ (.int .i64 nx) h0
theorem PX.fin {w u : World} {b : Nat} {ao : Option Addr} {n cap : Nat} {nx : Int} {zs : List TE} {v0 : Value} {nx0 : Int} {e : TE} (h : PX w u b (.slice ao n cap) nx zs v0 nx0 e) : ((u.setCell ⟨w.heap.size + 1 + 1, 0, none⟩ (.slice ao n cap)).setCell ⟨w.heap.size + 1 + 1, 1, none⟩ (.int .i64 nx)).ownsRow w.heap.size 66 5 (.slice ao n cap) zs.length (teR zs) ∧ Below w.heap.size w ((u.setCell ⟨w.heap.size + 1 + 1, 0, none⟩ (.slice ao n cap)).setCell ⟨w.heap.size + 1 + 1, 1, none⟩ (.int .i64 nx)) ∧ BoxT ((u.setCell ⟨w.heap.size + 1 + 1, 0, none⟩ (.slice ao n cap)).setCell ⟨w.heap.size + 1 + 1, 1, none⟩ (.int .i64 nx)) (w.heap.size + 1 + 1) (.slice ao n cap) nx := by
  have hn : (Value.slice ao n cap).ownBlock ≠ some (w.heap.size + 1 + 1) := fun q => by have := (h.row.lt _ q).1; omega
  exact ⟨te_weak (own_set (own_set h.row hn) hn) (by omega), (h.base.bel.setCell (by simp only; omega) _).setCell (by simp only; omega) _, putBoxT h.base.b2 _ _⟩
theorem PX.set {w u : World} {b g cap : Nat} {nx : Int} {zs : List TE} {v0 : Value} {nx0 : Int} {e : TE} (h : PX w u b (.slice (some ⟨g, 0, none⟩) zs.length cap) nx zs v0 nx0 e) (k : Nat) (hk : k < zs.length) (m : TE) :
    PX w (((((u.setCell ⟨g, k * 5, none⟩ (.int .i64 m.asid)).setCell ⟨g, k * 5 + 1, none⟩ (.int .i64 m.page)).setCell ⟨g, k * 5 + 2, none⟩ (.int .i64 m.frame)).setCell ⟨g, k * 5 + 3, none⟩ (.int .i64 m.flags)).setCell ⟨g, k * 5 + 4, none⟩ (.bool m.large)) b (.slice (some ⟨g, 0, none⟩) zs.length cap) nx (zs.set k m) v0 nx0 e := by
  have st := own_setTE h.row k hk m
  have hg := h.row.lt g rfl
  have hne : g ≠ b := fun q => h.ne (by rw [q]; rfl)
  have hl := h.base.lt
  have hbl := h.box.lt
  refine ⟨⟨h.base.bel.grown st.2 h.base.bel.size (fun j hj => by cases hj; omega), ?_, ?_, ?_⟩, h.lb, ?_, te_cast st.1 (by simp) rfl, h.ne⟩
  · exact (st.2.block _ (by omega) (fun q => by cases q; omega)).trans h.base.b0
  · exact (st.2.block _ (by omega) (fun q => by cases q; omega)).trans h.base.b1
  · exact (st.2.block _ (by omega) (fun q => by cases q; omega)).trans h.base.b2
  · exact (st.2.block _ hbl (fun q => by cases q; exact hne rfl)).trans h.box
theorem PX.nxt {w u : World} {b : Nat} {v : Value} {nx : Int} {zs : List TE} {v0 : Value} {nx0 : Int} {e : TE} (h : PX w u b v nx zs v0 nx0 e) (ny : Int) : PX w (u.setCell ⟨b, 1, none⟩ (.int .i64 ny)) b v ny zs v0 nx0 e := by
  have hl := h.lb
  exact ⟨⟨h.base.bel.setCell (by simp only; omega) _, (Below.heap_setCell _ _ _ _ (by simp only; omega)).trans h.base.b0, (Below.heap_setCell _ _ _ _ (by simp only; omega)).trans h.base.b1, (Below.heap_setCell _ _ _ _ (by simp only; omega)).trans h.base.b2⟩, h.lb, heap_setCell_same u b 1 _ _ _ h.box, own_set h.row h.ne, h.ne⟩
theorem PX.app {w u w1 : World} {b g cap3 : Nat} {v : Value} {nx : Int} {zs : List TE} {v0 : Value} {nx0 : Int} {e m : TE} (h : PX w u b v nx zs v0 nx0 e) (ho : w1.ownsRow (w.heap.size + 3) 66 5 (.slice (some ⟨g, 0, none⟩) (zs.length + 1) cap3) (zs.length + 1) (teR zs ++ teC m)) (hg : u.grownBy w1 v.ownBlock) (hl : v.ownBlock = some g ∨ g = u.heap.size) :
    BoxT w1 b v nx ∧ w1.heap[w.heap.size + 1 + 1]? = some (.cells #[.slice none 0 0, .int .i64 0] 61 (0, 0)) ∧ PX w (w1.setCell ⟨b, 0, none⟩ (.slice (some ⟨g, 0, none⟩) (zs.length + 1) cap3)) b (.slice (some ⟨g, 0, none⟩) (zs.length + 1) cap3) nx (zs ++ [m]) v0 nx0 e := by
  have hbl := h.box.lt
  have hlb := h.lb
  have hlt := h.base.lt
  have own : ∀ k, k < w.heap.size + 3 → some k ≠ v.ownBlock := fun k hk q => by have := (h.row.lt k q.symm).1; omega
  have bx : BoxT w1 b v nx := (hg.block b hbl (fun q => h.ne q.symm)).trans h.box
  have x0 := (hg.block (w.heap.size) (by omega) (own _ (by omega))).trans h.base.b0
  have x1 := (hg.block (w.heap.size + 1) (by omega) (own _ (by omega))).trans h.base.b1
  have x2 := (hg.block (w.heap.size + 1 + 1) (by omega) (own _ (by omega))).trans h.base.b2
  have hne : (Value.slice (some ⟨g, 0, none⟩) (zs.length + 1) cap3).ownBlock ≠ some b := fun q => by
    have q2 : g = b := by simpa [Value.ownBlock] using q
    rcases hl with hl | hl
    · exact h.ne (by rw [hl, q2])
    · omega
  have hb1 : Below w.heap.size w w1 := h.base.bel.grown hg h.base.bel.size (fun j hj => by have := (h.row.lt j hj).1; omega)
  refine ⟨bx, x2, ⟨⟨hb1.setCell (by simp only; omega) _, (Below.heap_setCell _ _ _ _ (by simp only; omega)).trans x0, (Below.heap_setCell _ _ _ _ (by simp only; omega)).trans x1, (Below.heap_setCell _ _ _ _ (by simp only; omega)).trans x2⟩, h.lb, heap_setCell_same w1 b 0 _ _ _ bx, own_set (te_cast ho (by simp) (by rw [teR_app]; simp [teR])) hne, hne⟩⟩
theorem PX.addr {w u : World} {b cap : Nat} {ao : Option Addr} {nx : Int} {zs : List TE} {v0 : Value} {nx0 : Int} {e : TE} (h : PX w u b (.slice ao zs.length cap) nx zs v0 nx0 e) (hz : 0 < zs.length) : ∃ g, ao = some ⟨g, 0, none⟩ := by
  rcases h.row.2 with ⟨q, q2⟩ | ⟨g, cap2, cur, hv, _⟩
  · omega
  · injection hv with q
    exact ⟨g, q⟩
theorem idxI_lt {p : TE → Bool} {zs : List TE} (h : 0 ≤ idxI p zs) : idxI p zs < zs.length := by
  by_cases ha : zs.any p = true
  · exact (idxI_yes ha).2
  · rw [idxI_no (by simpa using ha)] at h
    omega
set_option maxRecDepth 100000 in
set_option maxHeartbeats 4000000 in
theorem implPut_bad {w : World} {ao : Option Addr} {cap : Nat} {zs : List TE} (h : TErow w (.slice ao zs.length cap) zs) (nx : Int) (e : TE) (hl : zs.length ≤ 1048576) (hc : tlbC zs nx = 1) :
    Calls Try.prog 34 #[tlA (.slice ao zs.length cap) nx, teA e] w fun r w' => r = .returned (tlA (.slice none 0 0) 0) ∧ Below w.heap.size w w' := by
  have HX0 : Hid (PX0 w (((w.alloc (.cells #[.slice ao zs.length cap, .int .i64 nx] 61)).alloc (.cells #[.int .i64 e.asid, .int .i64 e.page, .int .i64 e.frame, .int .i64 e.flags, .bool e.large] 66)).alloc (.cells #[.slice none 0 0, .int .i64 0] 61)) (.slice ao zs.length cap) nx e) := PX0.new w ao zs.length cap nx e
  have HF := implFaultT_any (h.below (HX0.out.bel)) nx hl
  rw [hc] at HF
  have HFH : Hid _ := HF
  clear h HF hc
  unfold tlA teA at *
  go_enter Try.func34, Try.ntmps34
  go_wp2_with (go_at_call 31; refine Calls.mono HFH.out ?_; rintro r u1 ⟨rfl, hu1⟩; have HX : Hid (PX0 w u1 (.slice ao zs.length cap) nx e) := HX0.out.step hu1; obtain ⟨k0, k1⟩ := cel2 HX.out.b2; have kf : ∀ x, u1.frozen? ⟨w.heap.size + 1 + 1, x, none⟩ = false := (fun x => by simp [World.frozen?, HX.out.b2]); have yl := HX.out.lt; clear hu1 HFH HX0)
  refine bodyPost_ret (v := .agg #[.slice none 0 0, .int .i64 0]) ?_ rfl ⟨rfl, (HX.out.bel.setCell (by simp only; omega) _).setCell (by simp only; omega) _⟩
  simp [results, Try.results34, go_sem, k0, k1]
set_option maxRecDepth 100000 in
set_option maxHeartbeats 4000000 in
theorem implPut_good {w : World} {B : Nat} {ao : Option Addr} {cap : Nat} {zs : List TE} (h : w.ownsRow B 66 5 (.slice ao zs.length cap) zs.length (teR zs)) (nx : Int) (e : TE) (hl : zs.length ≤ 16) (hc : tlbC zs nx = 0) (x0 : 0 ≤ nx) (x1 : nx ≤ 15) :
    Calls Try.prog 34 #[tlA (.slice ao zs.length cap) nx, teA e] w fun r w' => ∃ ao2 cap2, r = .returned (tlA (.slice ao2 (putL zs nx e).length cap2) (putN zs nx e)) ∧ w'.ownsRow w.heap.size 66 5 (.slice ao2 (putL zs nx e).length cap2) (putL zs nx e).length (teR (putL zs nx e)) ∧ Below w.heap.size w w' := by
  have HX0 : Hid (PX0 w (((w.alloc (.cells #[.slice ao zs.length cap, .int .i64 nx] 61)).alloc (.cells #[.int .i64 e.asid, .int .i64 e.page, .int .i64 e.frame, .int .i64 e.flags, .bool e.large] 66)).alloc (.cells #[.slice none 0 0, .int .i64 0] 61)) (.slice ao zs.length cap) nx e) := PX0.new w ao zs.length cap nx e
  have HRW : Hid (w.ownsRow B 66 5 (.slice ao zs.length cap) zs.length (teR zs)) := h
  have HF := implFaultT_any ((TErow.of h).below (HX0.out.bel)) nx (by omega)
  rw [hc] at HF
  have HFH : Hid _ := HF
  clear h HF hc
  unfold tlA teA at *
  go_enter Try.func34, Try.ntmps34
  go_wp2_with (go_at_call 31; refine Calls.mono HFH.out ?_; rintro r u1 ⟨rfl, hu1⟩; have HX : Hid (PX0 w u1 (.slice ao zs.length cap) nx e) := HX0.out.step hu1; have yl := HX.out.lt; clear hu1 HFH HX0)
  obtain ⟨c0, c1⟩ := HX.out.b0.cel
  have g0 : w.heap.size < u1.heap.size := by omega
  have gn : ¬ u1.heap.size = w.heap.size := by omega
  have gn2 : ¬ w.heap.size = u1.heap.size := by omega
  have HCL : Hid (∀ u : World, Below u1.heap.size u1 u → Calls Try.prog 83 #[.slice ao zs.length cap] u fun e w' => ∃ ao2 cap2, e = .returned (.slice ao2 zs.length cap2) ∧ w'.ownsRow u.heap.size 66 5 (.slice ao2 zs.length cap2) zs.length (teR zs) ∧ Below u.heap.size u w') := fun u hu => cloneT_any (te_below HRW.out (HX.out.bel.trans (hu.mono HX.out.bel.size))) hl
  go_region_held3 (fun w' => w'.cell? ⟨w.heap.size, 0, none⟩ = some (.slice ao zs.length cap) ∧ w'.cell? ⟨w.heap.size, 1, none⟩ = some (.int .i64 nx)) (go_keep) ((go_at_call 83; first
    | (have hA := HCL.out u1.drew ((Below.refl _ _).drew); refine Calls.mono hA ?_; clear hA; rintro r u2 ⟨ao2, cap2, rfl, ho, hb⟩; have HO2 : Hid (u2.ownsRow u1.heap.size 66 5 (.slice ao2 zs.length cap2) zs.length (teR zs)) := ho; have HB2 : Hid (Below u1.heap.size u1 u2) := ⟨hb.os, hb.tape, hb.output, hb.size, hb.block⟩; have f0 := (World.cell?_of_block (a := ⟨w.heap.size, 0, none⟩) (HB2.out.block _ g0)).trans c0; have f1 := (World.cell?_of_block (a := ⟨w.heap.size, 1, none⟩) (HB2.out.block _ g0)).trans c1; clear ho hb)
    | (have hA := HCL.out (u1.alloc (.cells #[.slice none 0 0, .int .i64 0] 61)).drew (((Below.refl _ _).alloc (Nat.le_refl _) _).drew); refine Calls.mono hA ?_; clear hA; rintro r u2 ⟨ao2, cap2, rfl, ho, hb⟩; have zs1 : (u1.alloc (.cells #[.slice none 0 0, .int .i64 0] 61)).drew.heap.size = u1.heap.size + 1 := (by simp); rw [zs1] at ho hb; have HO3 : Hid (u2.ownsRow (u1.heap.size + 1) 66 5 (.slice ao2 zs.length cap2) zs.length (teR zs)) := ho; have HB3 : Hid (Below (u1.heap.size + 1) (u1.alloc (.cells #[.slice none 0 0, .int .i64 0] 61)) u2) := (⟨hb.os, hb.tape, hb.output, hb.size, hb.block⟩); have g1 : w.heap.size < u1.heap.size + 1 := Nat.lt_succ_of_lt g0; have f0 := (World.cell?_of_block (a := ⟨w.heap.size, 0, none⟩) ((HB3.out.block _ g1).trans (Below.heap_alloc _ _ _ g0))).trans c0; have f1 := (World.cell?_of_block (a := ⟨w.heap.size, 1, none⟩) ((HB3.out.block _ g1).trans (Below.heap_alloc _ _ _ g0))).trans c1; have hbx : u2.heap[u1.heap.size]? = some (.cells #[.slice none 0 0, .int .i64 0] 61 (0, 0)) := ((HB3.out.block _ (Nat.lt_succ_self _)).trans (heap_new _ _)); have HBX : Hid (u2.heap[u1.heap.size]? = some (.cells #[.slice none 0 0, .int .i64 0] 61 (0, 0))) := hbx; obtain ⟨d0, d1⟩ := cel2 hbx; have df : ∀ x, u2.frozen? ⟨u1.heap.size, x, none⟩ = false := (fun x => by simp [World.frozen?, hbx]); clear ho hb zs1 hbx)))
  case' refine_2.refine_3.refine_3.refine_3.refine_3.refine_1.refine_2.refine_3.refine_1.refine_2.refine_1.refine_2 =>
    have HP : Hid (PX w (u2.alloc (.cells #[.slice ao2 zs.length cap2, .int .i64 nx] 61)) u2.heap.size (.slice ao2 zs.length cap2) nx zs (.slice ao zs.length cap) nx e) := by
      have s1 := HB2.out.size
      have hA : Below u2.heap.size u2 (u2.alloc (.cells #[.slice ao2 zs.length cap2, .int .i64 nx] 61)) := (Below.refl _ _).alloc (Nat.le_refl _) _
      exact ⟨(HX.out.step HB2.out).step hA, by omega, heap_new _ _, te_below (te_weak HO2.out (by omega)) hA, fun q => by have := (HO2.out.lt _ q).2; omega⟩
    obtain ⟨u3, hu3⟩ : ∃ u3, u3 = (u2.alloc (.cells #[.slice ao2 zs.length cap2, .int .i64 nx] 61)) := ⟨_, rfl⟩
    obtain ⟨b, hb⟩ : ∃ b, b = u2.heap.size := ⟨_, rfl⟩
    rw [← hu3, ← hb] at HP
    rw [← hu3, ← hb]
    rename_i hH
    clear hH hu3 hb HCL HO2 HB2 f0 f1 HX HRW c0 c1 g0 gn gn2 yl
  case' refine_2.refine_3.refine_3.refine_3.refine_3.refine_2.refine_1.refine_2.refine_1.refine_2.refine_3.refine_1.refine_2 =>
    have HP : Hid (PX w ((u2.setCell ⟨u1.heap.size, 0, none⟩ (.slice ao2 zs.length cap2)).setCell ⟨u1.heap.size, 1, none⟩ (.int .i64 nx)) u1.heap.size (.slice ao2 zs.length cap2) nx zs (.slice ao zs.length cap) nx e) := by
      have s1 := HB3.out.size
      have hA : Below u1.heap.size u1 u2 := ((Below.refl u1.heap.size u1).alloc (Nat.le_refl _) _).trans (HB3.out.mono (by omega))
      have hn : (Value.slice ao2 zs.length cap2).ownBlock ≠ some u1.heap.size := fun q => by have := (HO3.out.lt _ q).1; omega
      exact ⟨HX.out.step ((hA.setCell (by simp) _).setCell (by simp) _), by omega, putBoxT HBX.out _ _, own_set (own_set (te_weak HO3.out (by omega)) hn) hn, hn⟩
    obtain ⟨u3, hu3⟩ : ∃ u3, u3 = ((u2.setCell ⟨u1.heap.size, 0, none⟩ (.slice ao2 zs.length cap2)).setCell ⟨u1.heap.size, 1, none⟩ (.int .i64 nx)) := ⟨_, rfl⟩
    obtain ⟨b, hb⟩ : ∃ b, b = u1.heap.size := ⟨_, rfl⟩
    rw [← hu3, ← hb] at HP
    rw [← hu3, ← hb]
    rename_i hH
    clear hH hu3 hb HCL HO3 HB3 HBX d0 d1 df g1 f0 f1 HX HRW c0 c1 g0 gn gn2 yl
  all_goals
    obtain ⟨k0, k1⟩ := HP.out.box.cel
    obtain ⟨e0, e1, e2, e3, e4⟩ := cel5 HP.out.base.b1
    have bl := HP.out.lb
  all_goals
    by_cases hok : teOk e = false
    · go_wp2_with (go_at_call 79; refine Calls.mono (implEntry_any e u3) ?_; rintro r u4 ⟨rfl, hu4⟩; rw [hok]; have HP4 : Hid (PX w u4 b (.slice ao2 zs.length cap2) nx zs (.slice ao zs.length cap) nx e) := HP.out.step hu4; obtain ⟨m0, m1⟩ := HP4.out.box.cel; obtain ⟨q0, q1⟩ := cel2 HP4.out.base.b2; have qf : ∀ x, u4.frozen? ⟨w.heap.size + 1 + 1, x, none⟩ = false := (fun x => by simp [World.frozen?, HP4.out.base.b2]); clear hu4 HP k0 k1 e0 e1 e2 e3 e4)
      obtain ⟨f1, f2, f3⟩ := HP4.out.fin
      obtain ⟨r0, r1⟩ := f3.cel
      have p1 : putL zs nx e = zs := by simp [putL, hok]
      have p2 : putN zs nx e = nx := by simp [putN, hok]
      rw [p1, p2]
      exact bodyPost_ret (v := .agg #[.slice ao2 zs.length cap2, .int .i64 nx]) (by simp [results, Try.results34, go_sem, r0, r1]) rfl ⟨ao2, cap2, rfl, f1, f2⟩
    · rw [Bool.not_eq_false] at hok
      by_cases hj : 0 ≤ idxI (fun x => same x e) zs
      · have hj2 := idxI_lt hj
        obtain ⟨k, hi⟩ : ∃ k : Nat, idxI (fun x => same x e) zs = k := ⟨(idxI (fun x => same x e) zs).toNat, by omega⟩
        have HPL : Hid (putL zs nx e = zs.set k e ∧ putN zs nx e = nx) := by
          constructor
          · simp [putL, hok, hi]
          · simp [putN, hi]
        obtain ⟨g, rfl⟩ := HP.out.addr (by omega)
        have hk : k < zs.length := by omega
        have hk0 : (0 : Int) ≤ (k : Int) := by omega
        have hk1 : (k : Int) < (zs.length : Int) := by omega
        have gb := (HP.out.row.lt g rfl).1
        have n1 : ¬ g = b := fun q => HP.out.ne (by rw [q]; rfl)
        have n2 : ¬ b = g := fun q => n1 q.symm
        have n3 : ¬ g = w.heap.size + 1 + 1 := by omega
        have n4 : ¬ w.heap.size + 1 + 1 = g := by omega
        clear hj hj2
        go_wp2_with (first
          | (go_at_call 79; refine Calls.mono (implEntry_any e u3) ?_; rintro r u4 ⟨rfl, hu4⟩; rw [hok]; have HP4 : Hid (PX w u4 b (.slice (some ⟨g, 0, none⟩) zs.length cap2) nx zs (.slice ao zs.length cap) nx e) := HP.out.step hu4; obtain ⟨m0, m1⟩ := HP4.out.box.cel; obtain ⟨t0, t1, t2, t3, t4⟩ := cel5 HP4.out.base.b1; clear hu4 HP k0 k1 e0 e1 e2 e3 e4)
          | (go_at_call 80; refine Calls.mono (tlbSpot_any (TErow.of HP4.out.row) e (by omega)) ?_; rintro r u5 ⟨rfl, hu5⟩; rw [hi]; have HP5 : Hid (PX w u5 b (.slice (some ⟨g, 0, none⟩) zs.length cap2) nx zs (.slice ao zs.length cap) nx e) := HP4.out.step hu5; obtain ⟨m50, m51⟩ := HP5.out.box.cel; obtain ⟨t50, t51, t52, t53, t54⟩ := cel5 HP5.out.base.b1; obtain ⟨y, y0, y1, y2, y3, y4⟩ := te_cells HP5.out.row rfl k hk; have hfz := HP5.out.row.frozenAt; obtain ⟨q0, q1⟩ := cel2 HP5.out.base.b2; have qf : ∀ x, u5.frozen? ⟨w.heap.size + 1 + 1, x, none⟩ = false := (fun x => by simp [World.frozen?, HP5.out.base.b2]); clear hu5 HP4 m0 m1 t0 t1 t2 t3 t4 hi))
        obtain ⟨f1, f2, f3⟩ := (HP5.out.set k hk e).fin
        obtain ⟨r0, r1⟩ := f3.cel
        rw [HPL.out.1, HPL.out.2]
        rw [List.length_set] at f1 ⊢
        exact bodyPost_ret (v := .agg #[.slice (some ⟨g, 0, none⟩) zs.length cap2, .int .i64 nx]) (by simp [results, Try.results34, go_sem, r0, r1]) rfl ⟨_, cap2, rfl, f1, f2⟩
      · by_cases h16 : zs.length < 16
        · have HPL : Hid (putL zs nx e = zs ++ [e] ∧ putN zs nx e = nx) := by
            constructor
            · simp [putL, hok, hj, h16]
            · simp [putN, h16]
          have HIX : Hid (idxI (fun x => same x e) zs = -1) := by
            by_cases ha : zs.any (fun x => same x e) = true
            · exact absurd (idxI_yes ha).1 hj
            · exact idxI_no (by simpa using ha)
          have h17 : (zs.length : Int) < 16 := by omega
          have n5 : ¬ b = w.heap.size + 1 + 1 := by omega
          have n6 : ¬ w.heap.size + 1 + 1 = b := by omega
          obtain ⟨i0, hi0, hz0, hz1, hz2⟩ := info_parts Try.info66
          have HI0 : Hid (Try.prog.info? 66 = some i0) := hi0
          clear hj h16 hi0
          go_wp2_with (first
            | (go_at_call 79; refine Calls.mono (implEntry_any e u3) ?_; rintro r u4 ⟨rfl, hu4⟩; rw [hok]; have HP4 : Hid (PX w u4 b (.slice ao2 zs.length cap2) nx zs (.slice ao zs.length cap) nx e) := HP.out.step hu4; obtain ⟨m0, m1⟩ := HP4.out.box.cel; obtain ⟨t0, t1, t2, t3, t4⟩ := cel5 HP4.out.base.b1; clear hu4 HP k0 k1 e0 e1 e2 e3 e4)
            | (go_at_call 80; refine Calls.mono (tlbSpot_any (TErow.of HP4.out.row) e (by omega)) ?_; rintro r u5 ⟨rfl, hu5⟩; rw [HIX.out]; have HP5 : Hid (PX w u5 b (.slice ao2 zs.length cap2) nx zs (.slice ao zs.length cap) nx e) := HP4.out.step hu5; obtain ⟨m50, m51⟩ := HP5.out.box.cel; obtain ⟨t50, t51, t52, t53, t54⟩ := cel5 HP5.out.base.b1; clear hu5 HP4 m0 m1 t0 t1 t2 t3 t4)
            | (at_builtin; (refine wpList_append_lies _ rfl _ _ 59 rfl (w.heap.size + 3) 66 i0 (.agg #[.int .i64 0, .int .i64 0, .int .i64 0, .int .i64 0, .bool false]) 5 40 Try.underlying59 HI0.out hz0 hz1 hz2 rfl (by decide) (.slice ao2 zs.length cap2) zs.length (teR zs) rfl (by exact HP5.out.row.alloc _) ⟨u5.heap.size, 0, none⟩ 1 1 (teC e) rfl rfl (World.news_of_block (cs := #[.int .i64 e.asid, .int .i64 e.page, .int .i64 e.frame, .int .i64 e.flags, .bool e.large]) (by exact heap_new u5 _)) (te_oneC e) (by decide) (by unfold maxLen; omega) (by omega) (by have := HP5.out.lb; have := HP5.out.box.lt; simp; omega) _ rfl ?_; intro g cap3 w1 ho hgr hli _; have HA := (HP5.out.step ((Below.refl _ _).alloc (Nat.le_refl _) _)).app (m := e) ho hgr hli; obtain ⟨v0, v1⟩ := HA.1.cel; obtain ⟨q0, q1⟩ := cel2 HA.2.1; have qf : ∀ x, w1.frozen? ⟨w.heap.size + 1 + 1, x, none⟩ = false := (fun x => by simp [World.frozen?, HA.2.1]); have bf : ∀ x, w1.frozen? ⟨b, x, none⟩ = false := (fun x => by simp [World.frozen?, (show w1.heap[b]? = _ from HA.1)]); have HP7 : Hid (PX w (w1.setCell ⟨b, 0, none⟩ (.slice (some ⟨g, 0, none⟩) (zs.length + 1) cap3)) b (.slice (some ⟨g, 0, none⟩) (zs.length + 1) cap3) nx (zs ++ [e]) (.slice ao zs.length cap) nx e) := HA.2.2; clear HA ho hgr hli HP5 m50 m51 t50 t51 t52 t53 t54 hz0 hz1 hz2)))
          obtain ⟨f1, f2, f3⟩ := HP7.out.fin
          obtain ⟨r0, r1⟩ := f3.cel
          rw [HPL.out.1, HPL.out.2]
          have hln : (zs ++ [e]).length = zs.length + 1 := by simp
          rw [hln] at f1 ⊢
          exact bodyPost_ret (v := .agg #[.slice (some ⟨g, 0, none⟩) (zs.length + 1) cap3, .int .i64 nx]) (by simp [results, Try.results34, go_sem, r0, r1]) rfl ⟨_, cap3, rfl, f1, f2⟩
        · obtain ⟨k, rfl⟩ : ∃ k : Nat, nx = k := ⟨nx.toNat, by omega⟩
          have HPL : Hid (putL zs k e = zs.set k e ∧ putN zs k e = ((k : Int) + 1) % 16) := by
            constructor
            · simp [putL, hok, hj, h16]
            · simp [putN, hok, hj, h16]
          obtain ⟨g, rfl⟩ := HP.out.addr (by omega)
          have hk : k < zs.length := by omega
          have hk1 : (k : Int) < (zs.length : Int) := by omega
          have hk2 : (k : Int) < 16 := by omega
          have gb := (HP.out.row.lt g rfl).1
          have n1 : ¬ g = b := fun q => HP.out.ne (by rw [q]; rfl)
          have n2 : ¬ b = g := fun q => n1 q.symm
          have n3 : ¬ g = w.heap.size + 1 + 1 := by omega
          have n4 : ¬ w.heap.size + 1 + 1 = g := by omega
          have n5 : ¬ b = w.heap.size + 1 + 1 := by omega
          have n6 : ¬ w.heap.size + 1 + 1 = b := by omega
          have h17 : ¬ (zs.length : Int) < 16 := by omega
          have hk3 : (0 : Int) ≤ (k : Int) := by omega
          have HIX : Hid (idxI (fun x => same x e) zs = -1) := by
            by_cases ha : zs.any (fun x => same x e) = true
            · exact absurd (idxI_yes ha).1 hj
            · exact idxI_no (by simpa using ha)
          clear hj h16
          go_wp2_with (first
            | (go_at_call 79; refine Calls.mono (implEntry_any e u3) ?_; rintro r u4 ⟨rfl, hu4⟩; rw [hok]; have HP4 : Hid (PX w u4 b (.slice (some ⟨g, 0, none⟩) zs.length cap2) k zs (.slice ao zs.length cap) k e) := HP.out.step hu4; obtain ⟨m0, m1⟩ := HP4.out.box.cel; obtain ⟨t0, t1, t2, t3, t4⟩ := cel5 HP4.out.base.b1; clear hu4 HP k0 k1 e0 e1 e2 e3 e4)
            | (go_at_call 80; refine Calls.mono (tlbSpot_any (TErow.of HP4.out.row) e (by omega)) ?_; rintro r u5 ⟨rfl, hu5⟩; rw [HIX.out]; have HP5 : Hid (PX w u5 b (.slice (some ⟨g, 0, none⟩) zs.length cap2) k zs (.slice ao zs.length cap) k e) := HP4.out.step hu5; obtain ⟨m50, m51⟩ := HP5.out.box.cel; obtain ⟨t50, t51, t52, t53, t54⟩ := cel5 HP5.out.base.b1; obtain ⟨y, y0, y1, y2, y3, y4⟩ := te_cells HP5.out.row rfl k hk; have hfz := HP5.out.row.frozenAt; obtain ⟨q0, q1⟩ := cel2 HP5.out.base.b2; have qf : ∀ x, u5.frozen? ⟨w.heap.size + 1 + 1, x, none⟩ = false := (fun x => by simp [World.frozen?, HP5.out.base.b2]); have bf : ∀ x, u5.frozen? ⟨b, x, none⟩ = false := (fun x => by simp [World.frozen?, (show u5.heap[b]? = _ from HP5.out.box)]); clear hu5 HP4 m0 m1 t0 t1 t2 t3 t4))
          obtain ⟨f1, f2, f3⟩ := ((HP5.out.set k hk e).nxt (((k : Int) + 1) % 16)).fin
          obtain ⟨r0, r1⟩ := f3.cel
          rw [HPL.out.1, HPL.out.2]
          rw [List.length_set] at f1 ⊢
          exact bodyPost_ret (v := .agg #[.slice (some ⟨g, 0, none⟩) zs.length cap2, .int .i64 (((k : Int) + 1) % 16)]) (by simp [results, Try.results34, go_sem, r0, r1]) rfl ⟨_, cap2, rfl, f1, f2⟩
end Go.Proofs.Ytfagohdmepnkkaa
