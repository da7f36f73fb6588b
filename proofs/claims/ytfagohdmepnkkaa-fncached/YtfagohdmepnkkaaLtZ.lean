import Derived.Test.YtfagohdmepnkkaaTeZ
import Derived.Laws.AppendOwn
import Derived.Deep.RegionLaw
import Derived.Deep.AppendLies
import Derived.Test.YtfagohdmepnkkaaRegInv
import Derived.Maps.AppendAt
import Derived.Laws.OwnMore
import Derived.OrdersHeld
import Derived.Deep.DeepCutAuto
namespace Go.Proofs.Ytfagohdmepnkkaa
open Go.ChangeShapes Go.WideShapes Go.ChangeAt Go.RowKit

theorem cel2 {u : World} {b t : Nat} {a0 a1 : Value} (h : u.heap[b]? = some (.cells #[a0, a1] t (0, 0))) : u.cell? ⟨b, 0, none⟩ = some a0 ∧ u.cell? ⟨b, 1, none⟩ = some a1 := by
  simp [World.cell?, h]
theorem al3 (w : World) (a b c : Obj) : (((w.alloc a).alloc b).alloc c).heap[w.heap.size]? = some a ∧ (((w.alloc a).alloc b).alloc c).heap[w.heap.size + 1]? = some b ∧ (((w.alloc a).alloc b).alloc c).heap[w.heap.size + 2]? = some c ∧ (((w.alloc a).alloc b).alloc c).heap.size = w.heap.size + 3 := by
  refine ⟨?_, ?_, ?_, by simp⟩
  · rw [Below.heap_alloc _ _ _ (by simp; omega), Below.heap_alloc _ _ _ (by simp)]
    exact heap_new _ _
  · rw [Below.heap_alloc _ _ _ (by simp)]
    have := heap_new (w.alloc a) b
    simpa using this
  · have := heap_new ((w.alloc a).alloc b) c
    simpa using this


theorem Try.info66 : (Try.prog.info? 66).map (fun i => (i.zero, i.size, i.bytes)) = some (some (.agg #[.int .i64 0, .int .i64 0, .int .i64 0, .int .i64 0, .bool false]), 5, 40) := by kernel_rfl
theorem te_oneC (m : TE) : ∀ u ∈ teC m, u.oneCell' = true := by
  intro u hu
  simp [teC] at hu
  rcases hu with rfl | rfl | rfl | rfl | rfl <;> rfl
theorem teR_one (zs : List TE) : ∀ u ∈ teR zs, u.oneCell' = true := by
  intro u hu
  unfold teR at hu
  rw [List.mem_flatMap] at hu
  obtain ⟨m, _, hm⟩ := hu
  exact te_oneC m u hm
theorem te_rowC {w : World} {B g n cap : Nat} {zs : List TE} (h : w.ownsRow B 66 5 (.slice (some ⟨g, 0, none⟩) n cap) n (teR zs)) (hn : zs.length = n) : ∀ (j : Nat) (u : Value), (teR zs)[j]? = some u → w.cell? (Addr.add ⟨g, 0, none⟩ j) = some u := by
  intro j u hj
  have hl := teR_len zs
  have hlt : j < (teR zs).length := (List.getElem?_eq_some_iff.1 hj).1
  have hc := h.cellAt j (by omega)
  have e : Addr.add ⟨g, 0, none⟩ j = ⟨g, j, none⟩ := by
    simp [Addr.add]
    exact fun h => h.symm
  rw [e, hc]
  exact hj
theorem eqNilT (w : World) : Sem.run Try.prog (binOp BinOp.eql 59 (.slice none 0 0) (.slice none 0 0)) w = .ok (.bool true) w := by kernel_rfl
theorem neNilT (a : Addr) (n c : Nat) (w : World) : Sem.run Try.prog (binOp BinOp.eql 59 (.slice (some a) n c) (.slice none 0 0)) w = .ok (.bool false) w := by kernel_rfl
set_option maxRecDepth 100000 in
set_option maxHeartbeats 4000000 in
theorem cloneT_any {w : World} {B : Nat} {ao : Option Addr} {cap : Nat} {zs : List TE} (h : w.ownsRow B 66 5 (.slice ao zs.length cap) zs.length (teR zs)) (hl : zs.length ≤ 16) :
    Calls Try.prog 83 #[.slice ao zs.length cap] w fun e w' => ∃ ao2 cap2, e = .returned (.slice ao2 zs.length cap2) ∧ w'.ownsRow w.heap.size 66 5 (.slice ao2 zs.length cap2) zs.length (teR zs) ∧ Below w.heap.size w w' := by
  obtain ⟨i0, hi0, hz0, hz1, hz2⟩ := info_parts Try.info66
  have n1 := eqNilT
  have n2 := neNilT
  rcases h.2 with ⟨e, e2⟩ | ⟨g, cap2, cur, hv, hg⟩
  · injection e with e3 e4 e5
    subst e3 e5
    have hz : zs = [] := List.length_eq_zero_iff.1 e2
    subst hz
    clear h hl e4
    simp only [List.length_nil]
    go_enter Try.func83, Try.ntmps83
    go_wp2
    go_ret
    exact ⟨_, _, rfl, World.ownsRow_nil _ _ _ _, Below.refl _ _⟩
  · injection hv with e3 e4 e5
    subst e3 e5
    have HO : Hid (w.ownsRow B 66 5 (.slice (some ⟨g, 0, none⟩) zs.length cap) zs.length (teR zs)) := h
    have HG : Hid (g < w.heap.size) := (h.lt g rfl).2
    clear h hg e4
    by_cases hz : zs.length = 0
    · have hz2 : zs = [] := List.length_eq_zero_iff.1 hz
      subst hz2
      simp only [List.length_nil] at HO ⊢
      clear hz hl
      go_enter Try.func83, Try.ntmps83
      go_wp2
      go_ret
      exact ⟨_, _, rfl, World.ownsRow_lit w #[] 0 (Nat.le_refl _) (by decide) rfl, (Below.refl _ _).alloc (Nat.le_refl _) _⟩
    · have HE : Hid ((w.alloc (.cells #[] 66)).ownsRow w.heap.size 66 5 (.slice (some ⟨w.heap.size, 0, none⟩) 0 0) 0 []) := World.ownsRow_lit w #[] 0 (Nat.le_refl _) (by decide) rfl
      have HO2 : Hid ((w.alloc (.cells #[] 66)).ownsRow B 66 5 (.slice (some ⟨g, 0, none⟩) zs.length cap) zs.length (teR zs)) := te_below HO.out ((Below.refl _ _).alloc (Nat.le_refl _) _)
      go_enter Try.func83, Try.ntmps83
      go_wp2_with (at_builtin; refine wpList_append_own _ rfl _ _ 59 rfl w.heap.size 66 i0 (.agg #[.int .i64 0, .int .i64 0, .int .i64 0, .int .i64 0, .bool false]) 5 40 Try.underlying59 hi0 hz0 hz1 hz2 rfl (by decide) (.slice (some ⟨w.heap.size, 0, none⟩) 0 0) 0 [] (by first | rfl | (simp [Act.eval]; done) | (simp [Act.eval, Act.put]; done)) HE.out ⟨g, 0, none⟩ zs.length cap (teR zs) (by first | rfl | (simp [Act.eval]; done) | (simp [Act.eval, Act.put]; done)) (teR_len zs) (te_rowC HO2.out rfl) (teR_one zs) ?ca3 ?ca4 ?ca5 ?_)
      case ca3 => unfold maxLen; omega
      case ca4 => omega
      case ca5 => simp
      intro v' w2 hown2 hgrow _
      obtain ⟨ao2, cap2, hv2⟩ := te_sl hown2
      subst hv2
      have hb : Below w.heap.size w w2 := ((Below.refl w.heap.size w).alloc (Nat.le_refl _) _).grown hgrow (by simp) (fun k hk => by cases hk; exact Nat.le_refl _)
      have HO3 : Hid (w2.ownsRow w.heap.size 66 5 (.slice ao2 zs.length cap2) zs.length (teR zs)) := hown2
      have HB : Hid (Below w.heap.size w w2) := hb
      clear hown2 hgrow hb
      go_wp2
      go_ret
      exact ⟨_, _, rfl, HO3.out, HB.out⟩

/-- What TlbPut makes of a right cache. -/
def putL (zs : List TE) (nx : Int) (e : TE) : List TE := if teOk e = false then zs else if 0 ≤ idxI (fun x => same x e) zs then zs.set (idxI (fun x => same x e) zs).toNat e else if zs.length < 16 then zs ++ [e] else zs.set nx.toNat e
def putN (zs : List TE) (nx : Int) (e : TE) : Int := if teOk e = true ∧ ¬ 0 ≤ idxI (fun x => same x e) zs ∧ ¬ zs.length < 16 then (nx + 1) % 16 else nx
/-- The three boxes of TlbPut. -/
structure PX0 (w u : World) (v : Value) (nx : Int) (e : TE) : Prop where
  bel : Below w.heap.size w u
  b0 : BoxT u w.heap.size v nx
  b1 : BoxE u (w.heap.size + 1) e
  b2 : u.heap[w.heap.size + 1 + 1]? = some (.cells #[.slice none 0 0, .int .i64 0] 61 (0, 0))
theorem PX0.lt {w u : World} {v : Value} {nx : Int} {e : TE} (h : PX0 w u v nx e) : w.heap.size + 1 + 1 < u.heap.size := (Array.getElem?_eq_some_iff.1 h.b2).1
theorem PX0.step {w u u' : World} {v : Value} {nx : Int} {e : TE} (h : PX0 w u v nx e) (hb : Below u.heap.size u u') : PX0 w u' v nx e := by
  have := h.lt
  exact ⟨h.bel.trans (hb.mono h.bel.size), h.b0.below hb (by omega), h.b1.below hb (by omega), (hb.block _ (by omega)).trans h.b2⟩
theorem PX0.new (w : World) (ao : Option Addr) (n cap : Nat) (nx : Int) (e : TE) : PX0 w (((w.alloc (.cells #[.slice ao n cap, .int .i64 nx] 61)).alloc (.cells #[.int .i64 e.asid, .int .i64 e.page, .int .i64 e.frame, .int .i64 e.flags, .bool e.large] 66)).alloc (.cells #[.slice none 0 0, .int .i64 0] 61)) (.slice ao n cap) nx e := by
  obtain ⟨h0, h1, h2, _⟩ := al3 w (.cells #[.slice ao n cap, .int .i64 nx] 61) (.cells #[.int .i64 e.asid, .int .i64 e.page, .int .i64 e.frame, .int .i64 e.flags, .bool e.large] 66) (.cells #[.slice none 0 0, .int .i64 0] 61)
  exact ⟨(((Below.refl _ _).alloc (Nat.le_refl _) _).alloc (by simp) _).alloc (by simp; omega) _, h0, h1, h2⟩
/-- Behind the copy: its box at b, its row. -/
structure PX (w u : World) (b : Nat) (v : Value) (nx : Int) (zs : List TE) (v0 : Value) (nx0 : Int) (e : TE) : Prop where
  base : PX0 w u v0 nx0 e
  lb : w.heap.size + 1 + 1 < b
  box : BoxT u b v nx
  row : u.ownsRow (w.heap.size + 3) 66 5 v zs.length (teR zs)
  ne : v.ownBlock ≠ some b
theorem PX.step {w u u' : World} {b : Nat} {v : Value} {nx : Int} {zs : List TE} {v0 : Value} {nx0 : Int} {e : TE} (h : PX w u b v nx zs v0 nx0 e) (hb : Below u.heap.size u u') : PX w u' b v nx zs v0 nx0 e :=
  ⟨h.base.step hb, h.lb, h.box.below hb h.box.lt, te_below h.row hb, h.ne⟩
theorem putBoxT {u : World} {b : Nat} {x y : Value} (h : u.heap[b]? = some (.cells #[x, y] 61 (0, 0))) (v : Value) (nx : Int) : BoxT ((u.setCell ⟨b, 0, none⟩ v).setCell ⟨b, 1, none⟩ (.int .i64 nx)) b v nx := by
  have h0 := heap_setCell_same u b 0 _ _ v h
  exact heap_setCell_same _ b 1 _ _ (.int .i64 nx) h0
theorem PX.fin {w u : World} {b : Nat} {ao : Option Addr} {n cap : Nat} {nx : Int} {zs : List TE} {v0 : Value} {nx0 : Int} {e : TE} (h : PX w u b (.slice ao n cap) nx zs v0 nx0 e) : ((u.setCell ⟨w.heap.size + 1 + 1, 0, none⟩ (.slice ao n cap)).setCell ⟨w.heap.size + 1 + 1, 1, none⟩ (.int .i64 nx)).ownsRow w.heap.size 66 5 (.slice ao n cap) zs.length (teR zs) ∧ Below w.heap.size w ((u.setCell ⟨w.heap.size + 1 + 1, 0, none⟩ (.slice ao n cap)).setCell ⟨w.heap.size + 1 + 1, 1, none⟩ (.int .i64 nx)) ∧ BoxT ((u.setCell ⟨w.heap.size + 1 + 1, 0, none⟩ (.slice ao n cap)).setCell ⟨w.heap.size + 1 + 1, 1, none⟩ (.int .i64 nx)) (w.heap.size + 1 + 1) (.slice ao n cap) nx := by
  have hn : (Value.slice ao n cap).ownBlock ≠ some (w.heap.size + 1 + 1) := fun q => by have := (h.row.lt _ q).1; omega
  exact ⟨te_weak (own_set (own_set h.row hn) hn) (by omega), (h.base.bel.setCell (by simp only; omega) _).setCell (by simp only; omega) _, putBoxT h.base.b2 _ _⟩
theorem PX.set {w u : World} {b g cap : Nat} {nx : Int} {zs : List TE} {v0 : Value} {nx0 : Int} {e : TE} (h : PX w u b (.slice (some ⟨g, 0, none⟩) zs.length cap) nx zs v0 nx0 e) (k : Nat) (hk : k < zs.length) (m : TE) :
    PX w (((((u.setCell ⟨g, k * 5, none⟩ (.int .i64 m.asid)).setCell ⟨g, k * 5 + 1, none⟩ (.int .i64 m.page)).setCell ⟨g, k * 5 + 2, none⟩ (.int .i64 m.frame)).setCell ⟨g, k * 5 + 3, none⟩ (.int .i64 m.flags)).setCell ⟨g, k * 5 + 4, none⟩ (.bool m.large)) b (.slice (some ⟨g, 0, none⟩) zs.length cap) nx (zs.set k m) v0 nx0 e := by
  have st := own_setTE h.row k hk m
  have hg := h.row.lt g rfl
  have hne : g ≠ b := fun q => h.ne (by rw [q]; rfl)
  have hl := h.base.lt
  have hbl := h.box.lt
  refine ⟨⟨h.base.bel.grown st.2 h.base.bel.size (fun j hj => by cases hj; omega), ?_, ?_, ?_⟩, h.lb, ?_, te_cast st.1 (by simp) rfl, h.ne⟩
  · exact (st.2.block _ (by omega) (fun q => by cases q; omega)).trans h.base.b0
  · exact (st.2.block _ (by omega) (fun q => by cases q; omega)).trans h.base.b1
  · exact (st.2.block _ (by omega) (fun q => by cases q; omega)).trans h.base.b2
  · exact (st.2.block _ hbl (fun q => by cases q; exact hne rfl)).trans h.box
theorem PX.nxt {w u : World} {b : Nat} {v : Value} {nx : Int} {zs : List TE} {v0 : Value} {nx0 : Int} {e : TE} (h : PX w u b v nx zs v0 nx0 e) (ny : Int) : PX w (u.setCell ⟨b, 1, none⟩ (.int .i64 ny)) b v ny zs v0 nx0 e := by
  have hl := h.lb
  exact ⟨⟨h.base.bel.setCell (by simp only; omega) _, (Below.heap_setCell _ _ _ _ (by simp only; omega)).trans h.base.b0, (Below.heap_setCell _ _ _ _ (by simp only; omega)).trans h.base.b1, (Below.heap_setCell _ _ _ _ (by simp only; omega)).trans h.base.b2⟩, h.lb, heap_setCell_same u b 1 _ _ _ h.box, own_set h.row h.ne, h.ne⟩
theorem PX.app {w u w1 : World} {b g cap3 : Nat} {v : Value} {nx : Int} {zs : List TE} {v0 : Value} {nx0 : Int} {e m : TE} (h : PX w u b v nx zs v0 nx0 e) (ho : w1.ownsRow (w.heap.size + 3) 66 5 (.slice (some ⟨g, 0, none⟩) (zs.length + 1) cap3) (zs.length + 1) (teR zs ++ teC m)) (hg : u.grownBy w1 v.ownBlock) (hl : v.ownBlock = some g ∨ g = u.heap.size) :
    BoxT w1 b v nx ∧ w1.heap[w.heap.size + 1 + 1]? = some (.cells #[.slice none 0 0, .int .i64 0] 61 (0, 0)) ∧ PX w (w1.setCell ⟨b, 0, none⟩ (.slice (some ⟨g, 0, none⟩) (zs.length + 1) cap3)) b (.slice (some ⟨g, 0, none⟩) (zs.length + 1) cap3) nx (zs ++ [m]) v0 nx0 e := by
  have hbl := h.box.lt
  have hlb := h.lb
  have hlt := h.base.lt
  have own : ∀ k, k < w.heap.size + 3 → some k ≠ v.ownBlock := fun k hk q => by have := (h.row.lt k q.symm).1; omega
  have bx : BoxT w1 b v nx := (hg.block b hbl (fun q => h.ne q.symm)).trans h.box
  have x0 := (hg.block (w.heap.size) (by omega) (own _ (by omega))).trans h.base.b0
  have x1 := (hg.block (w.heap.size + 1) (by omega) (own _ (by omega))).trans h.base.b1
  have x2 := (hg.block (w.heap.size + 1 + 1) (by omega) (own _ (by omega))).trans h.base.b2
  have hne : (Value.slice (some ⟨g, 0, none⟩) (zs.length + 1) cap3).ownBlock ≠ some b := fun q => by
    have q2 : g = b := by simpa [Value.ownBlock] using q
    rcases hl with hl | hl
    · exact h.ne (by rw [hl, q2])
    · omega
  have hb1 : Below w.heap.size w w1 := h.base.bel.grown hg h.base.bel.size (fun j hj => by have := (h.row.lt j hj).1; omega)
  refine ⟨bx, x2, ⟨⟨hb1.setCell (by simp only; omega) _, (Below.heap_setCell _ _ _ _ (by simp only; omega)).trans x0, (Below.heap_setCell _ _ _ _ (by simp only; omega)).trans x1, (Below.heap_setCell _ _ _ _ (by simp only; omega)).trans x2⟩, h.lb, heap_setCell_same w1 b 0 _ _ _ bx, own_set (te_cast ho (by simp) (by rw [teR_app]; simp [teR])) hne, hne⟩⟩
theorem PX.addr {w u : World} {b cap : Nat} {ao : Option Addr} {nx : Int} {zs : List TE} {v0 : Value} {nx0 : Int} {e : TE} (h : PX w u b (.slice ao zs.length cap) nx zs v0 nx0 e) (hz : 0 < zs.length) : ∃ g, ao = some ⟨g, 0, none⟩ := by
  rcases h.row.2 with ⟨q, q2⟩ | ⟨g, cap2, cur, hv, _⟩
  · omega
  · injection hv with q
    exact ⟨g, q⟩
theorem idxI_lt {p : TE → Bool} {zs : List TE} (h : 0 ≤ idxI p zs) : idxI p zs < zs.length := by
  by_cases ha : zs.any p = true
  · exact (idxI_yes ha).2
  · rw [idxI_no (by simpa using ha)] at h
    omega
set_option maxRecDepth 100000 in
set_option maxHeartbeats 4000000 in
theorem implPut_bad {w : World} {ao : Option Addr} {cap : Nat} {zs : List TE} (h : TErow w (.slice ao zs.length cap) zs) (nx : Int) (e : TE) (hl : zs.length ≤ 1048576) (hc : tlbC zs nx = 1) :
    Calls Try.prog 34 #[tlA (.slice ao zs.length cap) nx, teA e] w fun r w' => r = .returned (tlA (.slice none 0 0) 0) ∧ Below w.heap.size w w' := by
  have HX0 : Hid (PX0 w (((w.alloc (.cells #[.slice ao zs.length cap, .int .i64 nx] 61)).alloc (.cells #[.int .i64 e.asid, .int .i64 e.page, .int .i64 e.frame, .int .i64 e.flags, .bool e.large] 66)).alloc (.cells #[.slice none 0 0, .int .i64 0] 61)) (.slice ao zs.length cap) nx e) := PX0.new w ao zs.length cap nx e
  have HF := implFaultT_any (h.below (HX0.out.bel)) nx hl
  rw [hc] at HF
  have HFH : Hid _ := HF
  clear h HF hc
  unfold tlA teA at *
  go_enter Try.func34, Try.ntmps34
  go_wp2_with (go_at_call 31; refine Calls.mono HFH.out ?_; rintro r u1 ⟨rfl, hu1⟩; have HX : Hid (PX0 w u1 (.slice ao zs.length cap) nx e) := HX0.out.step hu1; obtain ⟨k0, k1⟩ := cel2 HX.out.b2; have kf : ∀ x, u1.frozen? ⟨w.heap.size + 1 + 1, x, none⟩ = false := (fun x => by simp [World.frozen?, HX.out.b2]); have yl := HX.out.lt; clear hu1 HFH HX0)
  refine bodyPost_ret (v := .agg #[.slice none 0 0, .int .i64 0]) ?_ rfl ⟨rfl, (HX.out.bel.setCell (by simp only; omega) _).setCell (by simp only; omega) _⟩
  simp [results, Try.results34, go_sem, k0, k1]
set_option maxRecDepth 100000 in
set_option maxHeartbeats 4000000 in
theorem implPut_good {w : World} {B : Nat} {ao : Option Addr} {cap : Nat} {zs : List TE} (h : w.ownsRow B 66 5 (.slice ao zs.length cap) zs.length (teR zs)) (nx : Int) (e : TE) (hl : zs.length ≤ 16) (hc : tlbC zs nx = 0) (x0 : 0 ≤ nx) (x1 : nx ≤ 15) :
    Calls Try.prog 34 #[tlA (.slice ao zs.length cap) nx, teA e] w fun r w' => ∃ ao2 cap2, r = .returned (tlA (.slice ao2 (putL zs nx e).length cap2) (putN zs nx e)) ∧ w'.ownsRow w.heap.size 66 5 (.slice ao2 (putL zs nx e).length cap2) (putL zs nx e).length (teR (putL zs nx e)) ∧ Below w.heap.size w w' := by
  have HX0 : Hid (PX0 w (((w.alloc (.cells #[.slice ao zs.length cap, .int .i64 nx] 61)).alloc (.cells #[.int .i64 e.asid, .int .i64 e.page, .int .i64 e.frame, .int .i64 e.flags, .bool e.large] 66)).alloc (.cells #[.slice none 0 0, .int .i64 0] 61)) (.slice ao zs.length cap) nx e) := PX0.new w ao zs.length cap nx e
  have HRW : Hid (w.ownsRow B 66 5 (.slice ao zs.length cap) zs.length (teR zs)) := h
  have HF := implFaultT_any ((TErow.of h).below (HX0.out.bel)) nx (by omega)
  rw [hc] at HF
  have HFH : Hid _ := HF
  clear h HF hc
  unfold tlA teA at *
  go_enter Try.func34, Try.ntmps34
  go_wp2_with (go_at_call 31; refine Calls.mono HFH.out ?_; rintro r u1 ⟨rfl, hu1⟩; have HX : Hid (PX0 w u1 (.slice ao zs.length cap) nx e) := HX0.out.step hu1; have yl := HX.out.lt; clear hu1 HFH HX0)
  obtain ⟨c0, c1⟩ := HX.out.b0.cel
  have g0 : w.heap.size < u1.heap.size := by omega
  have gn : ¬ u1.heap.size = w.heap.size := by omega
  have gn2 : ¬ w.heap.size = u1.heap.size := by omega
  have HCL : Hid (∀ u : World, Below u1.heap.size u1 u → Calls Try.prog 83 #[.slice ao zs.length cap] u fun e w' => ∃ ao2 cap2, e = .returned (.slice ao2 zs.length cap2) ∧ w'.ownsRow u.heap.size 66 5 (.slice ao2 zs.length cap2) zs.length (teR zs) ∧ Below u.heap.size u w') := fun u hu => cloneT_any (te_below HRW.out (HX.out.bel.trans (hu.mono HX.out.bel.size))) hl
  go_region_held3 (fun w' => w'.cell? ⟨w.heap.size, 0, none⟩ = some (.slice ao zs.length cap) ∧ w'.cell? ⟨w.heap.size, 1, none⟩ = some (.int .i64 nx)) (go_keep) ((go_at_call 83; first
    | (have hA := HCL.out u1.drew ((Below.refl _ _).drew); refine Calls.mono hA ?_; clear hA; rintro r u2 ⟨ao2, cap2, rfl, ho, hb⟩; have HO2 : Hid (u2.ownsRow u1.heap.size 66 5 (.slice ao2 zs.length cap2) zs.length (teR zs)) := ho; have HB2 : Hid (Below u1.heap.size u1 u2) := ⟨hb.os, hb.tape, hb.output, hb.size, hb.block⟩; have f0 := (World.cell?_of_block (a := ⟨w.heap.size, 0, none⟩) (HB2.out.block _ g0)).trans c0; have f1 := (World.cell?_of_block (a := ⟨w.heap.size, 1, none⟩) (HB2.out.block _ g0)).trans c1; clear ho hb)
    | (have hA := HCL.out (u1.alloc (.cells #[.slice none 0 0, .int .i64 0] 61)).drew (((Below.refl _ _).alloc (Nat.le_refl _) _).drew); refine Calls.mono hA ?_; clear hA; rintro r u2 ⟨ao2, cap2, rfl, ho, hb⟩; have zs1 : (u1.alloc (.cells #[.slice none 0 0, .int .i64 0] 61)).drew.heap.size = u1.heap.size + 1 := (by simp); rw [zs1] at ho hb; have HO3 : Hid (u2.ownsRow (u1.heap.size + 1) 66 5 (.slice ao2 zs.length cap2) zs.length (teR zs)) := ho; have HB3 : Hid (Below (u1.heap.size + 1) (u1.alloc (.cells #[.slice none 0 0, .int .i64 0] 61)) u2) := (⟨hb.os, hb.tape, hb.output, hb.size, hb.block⟩); have g1 : w.heap.size < u1.heap.size + 1 := Nat.lt_succ_of_lt g0; have f0 := (World.cell?_of_block (a := ⟨w.heap.size, 0, none⟩) ((HB3.out.block _ g1).trans (Below.heap_alloc _ _ _ g0))).trans c0; have f1 := (World.cell?_of_block (a := ⟨w.heap.size, 1, none⟩) ((HB3.out.block _ g1).trans (Below.heap_alloc _ _ _ g0))).trans c1; have hbx : u2.heap[u1.heap.size]? = some (.cells #[.slice none 0 0, .int .i64 0] 61 (0, 0)) := ((HB3.out.block _ (Nat.lt_succ_self _)).trans (heap_new _ _)); have HBX : Hid (u2.heap[u1.heap.size]? = some (.cells #[.slice none 0 0, .int .i64 0] 61 (0, 0))) := hbx; obtain ⟨d0, d1⟩ := cel2 hbx; have df : ∀ x, u2.frozen? ⟨u1.heap.size, x, none⟩ = false := (fun x => by simp [World.frozen?, hbx]); clear ho hb zs1 hbx)))
  case' refine_2.refine_3.refine_3.refine_3.refine_3.refine_1.refine_2.refine_3.refine_1.refine_2.refine_1.refine_2 =>
    have HP : Hid (PX w (u2.alloc (.cells #[.slice ao2 zs.length cap2, .int .i64 nx] 61)) u2.heap.size (.slice ao2 zs.length cap2) nx zs (.slice ao zs.length cap) nx e) := by
      have s1 := HB2.out.size
      have hA : Below u2.heap.size u2 (u2.alloc (.cells #[.slice ao2 zs.length cap2, .int .i64 nx] 61)) := (Below.refl _ _).alloc (Nat.le_refl _) _
      exact ⟨(HX.out.step HB2.out).step hA, by omega, heap_new _ _, te_below (te_weak HO2.out (by omega)) hA, fun q => by have := (HO2.out.lt _ q).2; omega⟩
    obtain ⟨u3, hu3⟩ : ∃ u3, u3 = (u2.alloc (.cells #[.slice ao2 zs.length cap2, .int .i64 nx] 61)) := ⟨_, rfl⟩
    obtain ⟨b, hb⟩ : ∃ b, b = u2.heap.size := ⟨_, rfl⟩
    rw [← hu3, ← hb] at HP
    rw [← hu3, ← hb]
    rename_i hH
    clear hH hu3 hb HCL HO2 HB2 f0 f1 HX HRW c0 c1 g0 gn gn2 yl
  case' refine_2.refine_3.refine_3.refine_3.refine_3.refine_2.refine_1.refine_2.refine_1.refine_2.refine_3.refine_1.refine_2 =>
    have HP : Hid (PX w ((u2.setCell ⟨u1.heap.size, 0, none⟩ (.slice ao2 zs.length cap2)).setCell ⟨u1.heap.size, 1, none⟩ (.int .i64 nx)) u1.heap.size (.slice ao2 zs.length cap2) nx zs (.slice ao zs.length cap) nx e) := by
      have s1 := HB3.out.size
      have hA : Below u1.heap.size u1 u2 := ((Below.refl u1.heap.size u1).alloc (Nat.le_refl _) _).trans (HB3.out.mono (by omega))
      have hn : (Value.slice ao2 zs.length cap2).ownBlock ≠ some u1.heap.size := fun q => by have := (HO3.out.lt _ q).1; omega
      exact ⟨HX.out.step ((hA.setCell (by simp) _).setCell (by simp) _), by omega, putBoxT HBX.out _ _, own_set (own_set (te_weak HO3.out (by omega)) hn) hn, hn⟩
    obtain ⟨u3, hu3⟩ : ∃ u3, u3 = ((u2.setCell ⟨u1.heap.size, 0, none⟩ (.slice ao2 zs.length cap2)).setCell ⟨u1.heap.size, 1, none⟩ (.int .i64 nx)) := ⟨_, rfl⟩
    obtain ⟨b, hb⟩ : ∃ b, b = u1.heap.size := ⟨_, rfl⟩
    rw [← hu3, ← hb] at HP
    rw [← hu3, ← hb]
    rename_i hH
    clear hH hu3 hb HCL HO3 HB3 HBX d0 d1 df g1 f0 f1 HX HRW c0 c1 g0 gn gn2 yl
  all_goals
    obtain ⟨k0, k1⟩ := HP.out.box.cel
    obtain ⟨e0, e1, e2, e3, e4⟩ := cel5 HP.out.base.b1
    have bl := HP.out.lb
  all_goals
    by_cases hok : teOk e = false
    · go_wp2_with (go_at_call 79; refine Calls.mono (implEntry_any e u3) ?_; rintro r u4 ⟨rfl, hu4⟩; rw [hok]; have HP4 : Hid (PX w u4 b (.slice ao2 zs.length cap2) nx zs (.slice ao zs.length cap) nx e) := HP.out.step hu4; obtain ⟨m0, m1⟩ := HP4.out.box.cel; obtain ⟨q0, q1⟩ := cel2 HP4.out.base.b2; have qf : ∀ x, u4.frozen? ⟨w.heap.size + 1 + 1, x, none⟩ = false := (fun x => by simp [World.frozen?, HP4.out.base.b2]); clear hu4 HP k0 k1 e0 e1 e2 e3 e4)
      obtain ⟨f1, f2, f3⟩ := HP4.out.fin
      obtain ⟨r0, r1⟩ := f3.cel
      have p1 : putL zs nx e = zs := by simp [putL, hok]
      have p2 : putN zs nx e = nx := by simp [putN, hok]
      rw [p1, p2]
      exact bodyPost_ret (v := .agg #[.slice ao2 zs.length cap2, .int .i64 nx]) (by simp [results, Try.results34, go_sem, r0, r1]) rfl ⟨ao2, cap2, rfl, f1, f2⟩
    · rw [Bool.not_eq_false] at hok
      by_cases hj : 0 ≤ idxI (fun x => same x e) zs
      · have hj2 := idxI_lt hj
        obtain ⟨k, hi⟩ : ∃ k : Nat, idxI (fun x => same x e) zs = k := ⟨(idxI (fun x => same x e) zs).toNat, by omega⟩
        have HPL : Hid (putL zs nx e = zs.set k e ∧ putN zs nx e = nx) := by
          constructor
          · simp [putL, hok, hi]
          · simp [putN, hi]
        obtain ⟨g, rfl⟩ := HP.out.addr (by omega)
        have hk : k < zs.length := by omega
        have hk0 : (0 : Int) ≤ (k : Int) := by omega
        have hk1 : (k : Int) < (zs.length : Int) := by omega
        have gb := (HP.out.row.lt g rfl).1
        have n1 : ¬ g = b := fun q => HP.out.ne (by rw [q]; rfl)
        have n2 : ¬ b = g := fun q => n1 q.symm
        have n3 : ¬ g = w.heap.size + 1 + 1 := by omega
        have n4 : ¬ w.heap.size + 1 + 1 = g := by omega
        clear hj hj2
        go_wp2_with (first
          | (go_at_call 79; refine Calls.mono (implEntry_any e u3) ?_; rintro r u4 ⟨rfl, hu4⟩; rw [hok]; have HP4 : Hid (PX w u4 b (.slice (some ⟨g, 0, none⟩) zs.length cap2) nx zs (.slice ao zs.length cap) nx e) := HP.out.step hu4; obtain ⟨m0, m1⟩ := HP4.out.box.cel; obtain ⟨t0, t1, t2, t3, t4⟩ := cel5 HP4.out.base.b1; clear hu4 HP k0 k1 e0 e1 e2 e3 e4)
          | (go_at_call 80; refine Calls.mono (tlbSpot_any (TErow.of HP4.out.row) e (by omega)) ?_; rintro r u5 ⟨rfl, hu5⟩; rw [hi]; have HP5 : Hid (PX w u5 b (.slice (some ⟨g, 0, none⟩) zs.length cap2) nx zs (.slice ao zs.length cap) nx e) := HP4.out.step hu5; obtain ⟨m50, m51⟩ := HP5.out.box.cel; obtain ⟨t50, t51, t52, t53, t54⟩ := cel5 HP5.out.base.b1; obtain ⟨y, y0, y1, y2, y3, y4⟩ := te_cells HP5.out.row rfl k hk; have hfz := HP5.out.row.frozenAt; obtain ⟨q0, q1⟩ := cel2 HP5.out.base.b2; have qf : ∀ x, u5.frozen? ⟨w.heap.size + 1 + 1, x, none⟩ = false := (fun x => by simp [World.frozen?, HP5.out.base.b2]); clear hu5 HP4 m0 m1 t0 t1 t2 t3 t4 hi))
        obtain ⟨f1, f2, f3⟩ := (HP5.out.set k hk e).fin
        obtain ⟨r0, r1⟩ := f3.cel
        rw [HPL.out.1, HPL.out.2]
        rw [List.length_set] at f1 ⊢
        exact bodyPost_ret (v := .agg #[.slice (some ⟨g, 0, none⟩) zs.length cap2, .int .i64 nx]) (by simp [results, Try.results34, go_sem, r0, r1]) rfl ⟨_, cap2, rfl, f1, f2⟩
      · by_cases h16 : zs.length < 16
        · have HPL : Hid (putL zs nx e = zs ++ [e] ∧ putN zs nx e = nx) := by
            constructor
            · simp [putL, hok, hj, h16]
            · simp [putN, h16]
          have HIX : Hid (idxI (fun x => same x e) zs = -1) := by
            by_cases ha : zs.any (fun x => same x e) = true
            · exact absurd (idxI_yes ha).1 hj
            · exact idxI_no (by simpa using ha)
          have h17 : (zs.length : Int) < 16 := by omega
          have n5 : ¬ b = w.heap.size + 1 + 1 := by omega
          have n6 : ¬ w.heap.size + 1 + 1 = b := by omega
          obtain ⟨i0, hi0, hz0, hz1, hz2⟩ := info_parts Try.info66
          have HI0 : Hid (Try.prog.info? 66 = some i0) := hi0
          clear hj h16 hi0
          go_wp2_with (first
            | (go_at_call 79; refine Calls.mono (implEntry_any e u3) ?_; rintro r u4 ⟨rfl, hu4⟩; rw [hok]; have HP4 : Hid (PX w u4 b (.slice ao2 zs.length cap2) nx zs (.slice ao zs.length cap) nx e) := HP.out.step hu4; obtain ⟨m0, m1⟩ := HP4.out.box.cel; obtain ⟨t0, t1, t2, t3, t4⟩ := cel5 HP4.out.base.b1; clear hu4 HP k0 k1 e0 e1 e2 e3 e4)
            | (go_at_call 80; refine Calls.mono (tlbSpot_any (TErow.of HP4.out.row) e (by omega)) ?_; rintro r u5 ⟨rfl, hu5⟩; rw [HIX.out]; have HP5 : Hid (PX w u5 b (.slice ao2 zs.length cap2) nx zs (.slice ao zs.length cap) nx e) := HP4.out.step hu5; obtain ⟨m50, m51⟩ := HP5.out.box.cel; obtain ⟨t50, t51, t52, t53, t54⟩ := cel5 HP5.out.base.b1; clear hu5 HP4 m0 m1 t0 t1 t2 t3 t4)
            | (at_builtin; (refine wpList_append_lies _ rfl _ _ 59 rfl (w.heap.size + 3) 66 i0 (.agg #[.int .i64 0, .int .i64 0, .int .i64 0, .int .i64 0, .bool false]) 5 40 Try.underlying59 HI0.out hz0 hz1 hz2 rfl (by decide) (.slice ao2 zs.length cap2) zs.length (teR zs) rfl (by exact HP5.out.row.alloc _) ⟨u5.heap.size, 0, none⟩ 1 1 (teC e) rfl rfl (World.news_of_block (cs := #[.int .i64 e.asid, .int .i64 e.page, .int .i64 e.frame, .int .i64 e.flags, .bool e.large]) (by exact heap_new u5 _)) (te_oneC e) (by decide) (by unfold maxLen; omega) (by omega) (by have := HP5.out.lb; have := HP5.out.box.lt; simp; omega) _ rfl ?_; intro g cap3 w1 ho hgr hli _; have HA := (HP5.out.step ((Below.refl _ _).alloc (Nat.le_refl _) _)).app (m := e) ho hgr hli; obtain ⟨v0, v1⟩ := HA.1.cel; obtain ⟨q0, q1⟩ := cel2 HA.2.1; have qf : ∀ x, w1.frozen? ⟨w.heap.size + 1 + 1, x, none⟩ = false := (fun x => by simp [World.frozen?, HA.2.1]); have bf : ∀ x, w1.frozen? ⟨b, x, none⟩ = false := (fun x => by simp [World.frozen?, (show w1.heap[b]? = _ from HA.1)]); have HP7 : Hid (PX w (w1.setCell ⟨b, 0, none⟩ (.slice (some ⟨g, 0, none⟩) (zs.length + 1) cap3)) b (.slice (some ⟨g, 0, none⟩) (zs.length + 1) cap3) nx (zs ++ [e]) (.slice ao zs.length cap) nx e) := HA.2.2; clear HA ho hgr hli HP5 m50 m51 t50 t51 t52 t53 t54 hz0 hz1 hz2)))
          obtain ⟨f1, f2, f3⟩ := HP7.out.fin
          obtain ⟨r0, r1⟩ := f3.cel
          rw [HPL.out.1, HPL.out.2]
          have hln : (zs ++ [e]).length = zs.length + 1 := by simp
          rw [hln] at f1 ⊢
          exact bodyPost_ret (v := .agg #[.slice (some ⟨g, 0, none⟩) (zs.length + 1) cap3, .int .i64 nx]) (by simp [results, Try.results34, go_sem, r0, r1]) rfl ⟨_, cap3, rfl, f1, f2⟩
        · obtain ⟨k, rfl⟩ : ∃ k : Nat, nx = k := ⟨nx.toNat, by omega⟩
          have HPL : Hid (putL zs k e = zs.set k e ∧ putN zs k e = ((k : Int) + 1) % 16) := by
            constructor
            · simp [putL, hok, hj, h16]
            · simp [putN, hok, hj, h16]
          obtain ⟨g, rfl⟩ := HP.out.addr (by omega)
          have hk : k < zs.length := by omega
          have hk1 : (k : Int) < (zs.length : Int) := by omega
          have hk2 : (k : Int) < 16 := by omega
          have gb := (HP.out.row.lt g rfl).1
          have n1 : ¬ g = b := fun q => HP.out.ne (by rw [q]; rfl)
          have n2 : ¬ b = g := fun q => n1 q.symm
          have n3 : ¬ g = w.heap.size + 1 + 1 := by omega
          have n4 : ¬ w.heap.size + 1 + 1 = g := by omega
          have n5 : ¬ b = w.heap.size + 1 + 1 := by omega
          have n6 : ¬ w.heap.size + 1 + 1 = b := by omega
          have h17 : ¬ (zs.length : Int) < 16 := by omega
          have hk3 : (0 : Int) ≤ (k : Int) := by omega
          have HIX : Hid (idxI (fun x => same x e) zs = -1) := by
            by_cases ha : zs.any (fun x => same x e) = true
            · exact absurd (idxI_yes ha).1 hj
            · exact idxI_no (by simpa using ha)
          clear hj h16
          go_wp2_with (first
            | (go_at_call 79; refine Calls.mono (implEntry_any e u3) ?_; rintro r u4 ⟨rfl, hu4⟩; rw [hok]; have HP4 : Hid (PX w u4 b (.slice (some ⟨g, 0, none⟩) zs.length cap2) k zs (.slice ao zs.length cap) k e) := HP.out.step hu4; obtain ⟨m0, m1⟩ := HP4.out.box.cel; obtain ⟨t0, t1, t2, t3, t4⟩ := cel5 HP4.out.base.b1; clear hu4 HP k0 k1 e0 e1 e2 e3 e4)
            | (go_at_call 80; refine Calls.mono (tlbSpot_any (TErow.of HP4.out.row) e (by omega)) ?_; rintro r u5 ⟨rfl, hu5⟩; rw [HIX.out]; have HP5 : Hid (PX w u5 b (.slice (some ⟨g, 0, none⟩) zs.length cap2) k zs (.slice ao zs.length cap) k e) := HP4.out.step hu5; obtain ⟨m50, m51⟩ := HP5.out.box.cel; obtain ⟨t50, t51, t52, t53, t54⟩ := cel5 HP5.out.base.b1; obtain ⟨y, y0, y1, y2, y3, y4⟩ := te_cells HP5.out.row rfl k hk; have hfz := HP5.out.row.frozenAt; obtain ⟨q0, q1⟩ := cel2 HP5.out.base.b2; have qf : ∀ x, u5.frozen? ⟨w.heap.size + 1 + 1, x, none⟩ = false := (fun x => by simp [World.frozen?, HP5.out.base.b2]); have bf : ∀ x, u5.frozen? ⟨b, x, none⟩ = false := (fun x => by simp [World.frozen?, (show u5.heap[b]? = _ from HP5.out.box)]); clear hu5 HP4 m0 m1 t0 t1 t2 t3 t4))
          obtain ⟨f1, f2, f3⟩ := ((HP5.out.set k hk e).nxt (((k : Int) + 1) % 16)).fin
          obtain ⟨r0, r1⟩ := f3.cel
          rw [HPL.out.1, HPL.out.2]
          rw [List.length_set] at f1 ⊢
          exact bodyPost_ret (v := .agg #[.slice (some ⟨g, 0, none⟩) zs.length cap2, .int .i64 (((k : Int) + 1) % 16)]) (by simp [results, Try.results34, go_sem, r0, r1]) rfl ⟨_, cap2, rfl, f1, f2⟩

/-- An append at a step of a drawn region, by what it is known to come to. -/
theorem step_append_ex {P : Program} (w : World) {ops : Array Oper} {o : Oper} {a : Act} {K : Act → World → Prop} {Q : Exit → Act → World → Prop} {E : Prop} (hgd : o.guard = none) (s x : Operand) (t : TypeId)
    (ho : o.op = .call { callee := .builtin .append, args := #[s, x], argTypes := #[t, t] }) (v v2 : Value) (hs : a.eval s = v) (hx : a.eval x = v2) {R : Value → World → Prop}
    (hr : ∃ v' w', (Builtin.append_ #[t, t] o.type #[v, v2]).run P w = .ok v' w' ∧ R v' w') (h : ∀ v' w', R v' w' → K (a.put o.dst v') w') :
    if Region.wanted o (yielded ops a.tmps) = true then Oper.wp P o a w K Q else E := by
  have hw : Region.wanted o (yielded ops a.tmps) = true := by simp [Region.wanted, hgd]
  rw [if_pos hw]
  obtain ⟨v', w', hr, hR⟩ := hr
  unfold Oper.wp execOp
  simp only [ho, resolve, invoke, builtin, Sem.run_bind, Sem.run_pure, Result.andThen_ok, List.map_toArray, List.map_cons, List.map_nil, hs, hx, hr]
  exact h v' w' hR
/-- What the copy by append comes to. -/
theorem append_copy {u : World} {B C : Nat} {v : Value} {ao : Option Addr} {cap : Nat} {zs : List TE} (ty : TypeId) (hv : u.ownsRow C 66 5 v 0 []) (h : u.ownsRow B 66 5 (.slice ao zs.length cap) zs.length (teR zs)) (hl : zs.length ≤ 16) (hC : C ≤ u.heap.size) :
    ∃ v' u', (Builtin.append_ #[59, 59] ty #[v, .slice ao zs.length cap]).run Try.prog u = .ok v' u' ∧ (u'.ownsRow C 66 5 v' zs.length (teR zs) ∧ u.grownBy u' v.ownBlock ∧ (v'.ownBlock = v.ownBlock ∨ v'.ownBlock = some u.heap.size)) := by
  obtain ⟨i0, hi0, hz0, hz1, hz2⟩ := info_parts Try.info66
  rcases h.2 with ⟨e, e2⟩ | ⟨g, cap2, cur, hq, _⟩
  · injection e with e3 e4 e5
    subst e3 e5
    have hz : zs = [] := List.length_eq_zero_iff.1 e2
    subst hz
    exact ⟨v, u, run_append_owned_none u C 59 ty 66 i0 5 Try.underlying59 hi0 v 0 [] hv, hv, ⟨rfl, rfl, rfl, Nat.le_refl _, fun _ _ _ => rfl⟩, .inl rfl⟩
  · injection hq with e3 e4 e5
    subst e3 e5
    obtain ⟨v', w', hr, h2, h3, _, h5⟩ := run_append_own_at (P := Try.prog) u C 59 ty 66 i0 (.agg #[.int .i64 0, .int .i64 0, .int .i64 0, .int .i64 0, .bool false]) 5 40 Try.underlying59 hi0 hz0 hz1 hz2 rfl (by decide) v 0 [] hv ⟨g, 0, none⟩ zs.length cap (teR zs) (teR_len zs) (te_rowC h rfl) (teR_one zs) (by unfold maxLen; omega) (by omega) hC
    exact ⟨v', w', hr, te_cast h2 (by omega) (by simp), h3, h5⟩
set_option maxRecDepth 100000 in
set_option maxHeartbeats 4000000 in
theorem specPut_bad {w : World} {ao : Option Addr} {cap : Nat} {zs : List TE} (h : TErow w (.slice ao zs.length cap) zs) (nx : Int) (e : TE) (hl : zs.length ≤ 1048576) (hc : tlbC zs nx = 1) :
    Calls Try.prog 125 #[tlA (.slice ao zs.length cap) nx, teA e] w fun r w' => r = .returned (tlA (.slice none 0 0) 0) ∧ Below w.heap.size w w' := by
  have HX0 : Hid (PX0 w (((w.alloc (.cells #[.slice ao zs.length cap, .int .i64 nx] 61)).alloc (.cells #[.int .i64 e.asid, .int .i64 e.page, .int .i64 e.frame, .int .i64 e.flags, .bool e.large] 66)).alloc (.cells #[.slice none 0 0, .int .i64 0] 61)) (.slice ao zs.length cap) nx e) := PX0.new w ao zs.length cap nx e
  have HF := specFaultT_any (h.below (HX0.out.bel)) nx hl
  rw [hc] at HF
  have HFH : Hid _ := HF
  clear h HF hc
  unfold tlA teA at *
  go_enter Try.func125, Try.ntmps125
  go_wp2_with (go_at_call 32; refine Calls.mono HFH.out ?_; rintro r u1 ⟨rfl, hu1⟩; have HX : Hid (PX0 w u1 (.slice ao zs.length cap) nx e) := HX0.out.step hu1; obtain ⟨k0, k1⟩ := cel2 HX.out.b2; have kf : ∀ x, u1.frozen? ⟨w.heap.size + 1 + 1, x, none⟩ = false := (fun x => by simp [World.frozen?, HX.out.b2]); have yl := HX.out.lt; clear hu1 HFH HX0)
  refine bodyPost_ret (v := .agg #[.slice none 0 0, .int .i64 0]) ?_ rfl ⟨rfl, (HX.out.bel.setCell (by simp only; omega) _).setCell (by simp only; omega) _⟩
  simp [results, Try.results125, go_sem, k0, k1]

theorem held_step {P : Program} {md : Region.Mode} {ops : Array Oper} {Q : Exit → Act → World → Prop} {S : World → Prop} {fuel : Nat} {listed : Array Bool} {a : Act} {w : World} {i : Nat} {o : Oper} (ho : ops[i]? = some o)
    (hw : Region.wanted o (yielded ops a.tmps) = true) (h : ∀ K : Act → World → Prop, (∀ a' w', S w' → wpAnyH P md ops Q S fuel (listed.setIfInBounds i true) a' w' → K a' w') → o.wp P a w K Q) :
    wpOp P ops Q i (fun a' w' => S w' ∧ wpAnyH P md ops Q S fuel (listed.setIfInBounds i true) a' w') a w := by
  unfold wpOp
  rw [ho]
  simp only [hw, if_true]
  exact Or.inl (h _ fun a' w' h1 h2 => ⟨h1, h2⟩)
theorem all_two {p : Nat → Prop} {i j : Nat} (h1 : p i) (h2 : p j) : ∀ k ∈ [i, j], p k := by
  intro k hk
  rcases List.mem_cons.1 hk with rfl | hk
  · exact h1
  · rw [List.mem_singleton.1 hk]; exact h2
theorem all_one {p : Nat → Prop} {i : Nat} (h1 : p i) : ∀ k ∈ [i], p k := by
  intro k hk
  rw [List.mem_singleton.1 hk]; exact h1
/-- An append, by what it is known to come to. -/
theorem wp_append_ex {P : Program} (w : World) {o : Oper} {a : Act} {K : Act → World → Prop} {Q : Exit → Act → World → Prop} (s x : Operand) (t : TypeId)
    (ho : o.op = .call { callee := .builtin .append, args := #[s, x], argTypes := #[t, t] }) (v v2 : Value) (hs : a.eval s = v) (hx : a.eval x = v2) {R : Value → World → Prop}
    (hr : ∃ v' w', (Builtin.append_ #[t, t] o.type #[v, v2]).run P w = .ok v' w' ∧ R v' w') (h : ∀ v' w', R v' w' → K (a.put o.dst v') w') : o.wp P a w K Q := by
  obtain ⟨v', w', hr, hR⟩ := hr
  unfold Oper.wp execOp
  simp only [ho, resolve, invoke, builtin, Sem.run_bind, Sem.run_pure, Result.andThen_ok, List.map_toArray, List.map_cons, List.map_nil, hs, hx, hr]
  exact h v' w' hR
/-- Ahead of the store into the new box. -/
structure PQ (w u : World) (b : Nat) (v : Value) (zs : List TE) (v0 : Value) (nx0 : Int) (e : TE) : Prop where
  base : PX0 w u v0 nx0 e
  lb : w.heap.size + 1 + 1 < b
  box : u.heap[b]? = some (.cells #[.slice none 0 0, .int .i64 0] 61 (0, 0))
  row : u.ownsRow (w.heap.size + 3) 66 5 v zs.length (teR zs)
  ne : v.ownBlock ≠ some b
theorem PQ.put {w u : World} {b : Nat} {v : Value} {zs : List TE} {v0 : Value} {nx0 : Int} {e : TE} (h : PQ w u b v zs v0 nx0 e) (nx : Int) : PX w ((u.setCell ⟨b, 0, none⟩ v).setCell ⟨b, 1, none⟩ (.int .i64 nx)) b v nx zs v0 nx0 e := by
  have hl := h.lb
  refine ⟨⟨(h.base.bel.setCell (by simp only; omega) _).setCell (by simp only; omega) _, ?_, ?_, ?_⟩, h.lb, putBoxT h.box _ _, own_set (own_set h.row h.ne) h.ne, h.ne⟩
  · exact (Below.heap_setCell _ _ _ _ (by simp only; omega)).trans ((Below.heap_setCell _ _ _ _ (by simp only; omega)).trans h.base.b0)
  · exact (Below.heap_setCell _ _ _ _ (by simp only; omega)).trans ((Below.heap_setCell _ _ _ _ (by simp only; omega)).trans h.base.b1)
  · exact (Below.heap_setCell _ _ _ _ (by simp only; omega)).trans ((Below.heap_setCell _ _ _ _ (by simp only; omega)).trans h.base.b2)
theorem te_read {w : World} {B g cap : Nat} {zs : List TE} (h : w.ownsRow B 66 5 (.slice (some ⟨g, 0, none⟩) zs.length cap) zs.length (teR zs)) (k : Nat) (hk : k < zs.length) : w.cell? ⟨g, k * 5, none⟩ = some (.int .i64 zs[k].asid) ∧ w.cell? ⟨g, k * 5 + 1, none⟩ = some (.int .i64 zs[k].page) ∧ w.cell? ⟨g, k * 5 + 2, none⟩ = some (.int .i64 zs[k].frame) ∧ w.cell? ⟨g, k * 5 + 3, none⟩ = some (.int .i64 zs[k].flags) ∧ w.cell? ⟨g, k * 5 + 4, none⟩ = some (.bool zs[k].large) := by
  rcases TErow.of h with ⟨e, _⟩ | ⟨g2, o, cap2, hv, _, _, hc⟩
  · rw [e] at hk
    simp at hk
  · injection hv with e1
    injection e1 with e2
    obtain ⟨rfl, rfl⟩ : g = g2 ∧ 0 = o := ⟨congrArg Addr.block e2, congrArg Addr.off e2⟩
    have h3 := hc k hk
    simp only [Nat.zero_add] at h3
    exact h3
set_option maxRecDepth 100000 in
set_option maxHeartbeats 4000000 in
theorem specPut_good {w : World} {B : Nat} {ao : Option Addr} {cap : Nat} {zs : List TE} (h : w.ownsRow B 66 5 (.slice ao zs.length cap) zs.length (teR zs)) (nx : Int) (e : TE) (hl : zs.length ≤ 16) (hc : tlbC zs nx = 0) (x0 : 0 ≤ nx) (x1 : nx ≤ 15) :
    Calls Try.prog 125 #[tlA (.slice ao zs.length cap) nx, teA e] w fun r w' => ∃ ao2 cap2, r = .returned (tlA (.slice ao2 (putL zs nx e).length cap2) (putN zs nx e)) ∧ w'.ownsRow w.heap.size 66 5 (.slice ao2 (putL zs nx e).length cap2) (putL zs nx e).length (teR (putL zs nx e)) ∧ Below w.heap.size w w' := by
  have HX0 : Hid (PX0 w (((w.alloc (.cells #[.slice ao zs.length cap, .int .i64 nx] 61)).alloc (.cells #[.int .i64 e.asid, .int .i64 e.page, .int .i64 e.frame, .int .i64 e.flags, .bool e.large] 66)).alloc (.cells #[.slice none 0 0, .int .i64 0] 61)) (.slice ao zs.length cap) nx e) := PX0.new w ao zs.length cap nx e
  have HRW : Hid (w.ownsRow B 66 5 (.slice ao zs.length cap) zs.length (teR zs)) := h
  have HF := specFaultT_any ((TErow.of h).below (HX0.out.bel)) nx (by omega)
  rw [hc] at HF
  have HFH : Hid _ := HF
  clear h HF hc
  unfold tlA teA at *
  go_enter Try.func125, Try.ntmps125
  go_upto_region 3 with (go_at_call 32; refine Calls.mono HFH.out ?_; rintro r u1 ⟨rfl, hu1⟩; have HX : Hid (PX0 w u1 (.slice ao zs.length cap) nx e) := HX0.out.step hu1; have yl := HX.out.lt; clear hu1 HFH HX0)
  go_cut [5] (fun s5 wc => ∃ (b : Nat) (ao2 : Option Addr) (cap2 : Nat), s5 = .pointer (some ⟨b, 0, none⟩) ∧ PX w wc b (.slice ao2 zs.length cap2) nx zs (.slice ao zs.length cap) nx e)
  case first =>
    have HSB : Hid (∀ u : World, Below u1.heap.size u1 u → u.cell? ⟨w.heap.size, 0, none⟩ = some (.slice ao zs.length cap) ∧ u.cell? ⟨w.heap.size, 1, none⟩ = some (.int .i64 nx)) := fun u hu => by
      obtain ⟨c0, c1⟩ := HX.out.b0.cel
      exact ⟨(World.cell?_of_block (a := ⟨w.heap.size, 0, none⟩) (hu.block _ (by simp only; omega))).trans c0, (World.cell?_of_block (a := ⟨w.heap.size, 1, none⟩) (hu.block _ (by simp only; omega))).trans c1⟩
    have HAP : Hid (∀ (u : World) (v : Value), u.ownsRow u1.heap.size 66 5 v 0 [] → Below u1.heap.size u1 u → ∃ v' u', (Builtin.append_ #[59, 59] 59 #[v, .slice ao zs.length cap]).run Try.prog u = .ok v' u' ∧ (u'.ownsRow u1.heap.size 66 5 v' zs.length (teR zs) ∧ u.grownBy u' v.ownBlock ∧ (v'.ownBlock = v.ownBlock ∨ v'.ownBlock = some u.heap.size))) := fun u v hv hu => append_copy _ hv (te_below HRW.out (HX.out.bel.trans (hu.mono HX.out.bel.size))) hl hu.size
    have hzT : ∀ u : World, Sem.run Try.prog (zeroValue 61) u = .ok (.agg #[.slice none 0 0, .int .i64 0]) u := fun u => by kernel_rfl
    obtain ⟨c0, c1⟩ := HX.out.b0.cel
    have HS : Hid (u1.drew.cell? ⟨w.heap.size, 0, none⟩ = some (.slice ao zs.length cap) ∧ u1.drew.cell? ⟨w.heap.size, 1, none⟩ = some (.int .i64 nx)) := ⟨c0, c1⟩
    clear c0 c1
    refine wp_region_held (S := fun w' => w'.cell? ⟨w.heap.size, 0, none⟩ = some (.slice ao zs.length cap) ∧ w'.cell? ⟨w.heap.size, 1, none⟩ = some (.int .i64 nx)) (by kernel_rfl) ?_
    change wpAnyH _ _ _ _ _ _ _ _ (World.drew _)
    refine wpAnyH_take (i := 1) (v := .pointer (some ⟨w.heap.size, 0, none⟩)) rfl (by kernel_rfl) (by kernel_rfl) (by kernel_rfl) (fun _ _ _ h => h) (Or.inl ⟨by rfl, fun w9 _ => ?_⟩) HS.out ?_
    · go_simp
    refine wpAnyH_take (i := 4) (v := .pointer (some ⟨w.heap.size, 1, none⟩)) rfl (by kernel_rfl) (by kernel_rfl) (by kernel_rfl) (fun _ _ _ h => h) (Or.inl ⟨by rfl, fun w9 _ => ?_⟩) HS.out ?_
    · go_simp
    refine wpAnyH_take (i := 2) (v := .slice ao zs.length cap) rfl (by kernel_rfl) (by kernel_rfl) (by kernel_rfl) (fun _ _ _ h => h) (Or.inl ⟨by rfl, fun w9 h9 => ?_⟩) HS.out ?_
    · have h91 := h9.1
      go_simp
    refine wpAnyH_take (i := 5) (v := .int .i64 nx) rfl (by kernel_rfl) (by kernel_rfl) (by kernel_rfl) (fun _ _ _ h => h) (Or.inl ⟨by rfl, fun w9 h9 => ?_⟩) HS.out ?_
    · have h92 := h9.2
      go_simp
    refine wpAnyH_all (rs := [0, 7]) (by kernel_rfl) (by simp) (all_two (held_step rfl (by rfl) fun K hK => ?_) (held_step rfl (by rfl) fun K hK => ?_))
    · have FB1 : Hid (Below u1.heap.size u1 (u1.alloc (.cells #[] 66)).drew) := ((Below.refl _ _).alloc (Nat.le_refl _) _).drew
      have FO1 : Hid ((u1.alloc (.cells #[] 66)).drew.ownsRow u1.heap.size 66 5 (.slice (some ⟨u1.heap.size, 0, none⟩) 0 0) 0 []) := (World.ownsRow_lit _ #[] 0 (by simp) (by decide) rfl).drew
      go_simp
      refine hK _ _ (HSB.out _ FB1.out) ?_
      clear hK K
      generalize (u1.alloc (.cells #[] 66)).drew = W1 at *
      refine wpAnyH_all (rs := [3, 7]) (by kernel_rfl) (by simp) (all_two (held_step rfl (by rfl) fun K hK => ?_) (held_step rfl (by rfl) fun K hK => ?_))
      · have PL : Hid (u1.heap.size ≤ u1.heap.size) := Nat.le_refl _
        refine wp_append_ex _ _ _ 59 rfl _ _ rfl rfl (HAP.out W1 _ FO1.out FB1.out) ?_
        rintro v' W5 ⟨ho, hg, hd⟩
        obtain ⟨ao2, cap2, rfl⟩ := te_sl ho
        have SB : Hid (Below u1.heap.size u1 W5) := FB1.out.grown hg FB1.out.size (fun j hj => by cases hj; have := PL.out; omega)
        have HO : Hid (W5.ownsRow u1.heap.size 66 5 (.slice ao2 zs.length cap2) zs.length (teR zs)) := ho
        have HG : Hid (W1.grownBy W5 (some (u1.heap.size))) := hg
        have HD : Hid ((Value.slice ao2 zs.length cap2).ownBlock = some (u1.heap.size) ∨ (Value.slice ao2 zs.length cap2).ownBlock = some W1.heap.size) := hd
        clear ho hg hd
        refine hK _ _ (HSB.out _ SB.out) ?_
        clear hK K
        refine wpAnyH_take (i := 6) (v := .agg #[.slice ao2 zs.length cap2, .int .i64 nx]) rfl (by kernel_rfl) (by kernel_rfl) (by kernel_rfl) (fun _ _ _ h => h) (Or.inl ⟨by rfl, fun w9 _ => ?_⟩) (HSB.out _ SB.out) ?_
        · go_simp
        refine wpAnyH_all (rs := [7]) (by kernel_rfl) (by simp) (all_one (held_step rfl (by rfl) fun K hK => ?_))
        have FBL : Hid (Below u1.heap.size u1 (W5.alloc (.cells #[.slice none 0 0, .int .i64 0] 61))) := SB.out.alloc SB.out.size _
        have BL : Hid (u1.heap.size ≤ W5.heap.size) := SB.out.size
        have HQ : Hid (PQ w (W5.alloc (.cells #[.slice none 0 0, .int .i64 0] 61)) W5.heap.size (.slice ao2 zs.length cap2) zs (.slice ao zs.length cap) nx e) := ⟨HX.out.step FBL.out, by have := BL.out; omega, heap_new _ _, te_weak (te_below HO.out ((Below.refl _ _).alloc (Nat.le_refl _) _)) (by omega), fun q => by have := (HO.out.lt _ q).2; omega⟩
        go_simp
        refine hK _ _ (HSB.out _ FBL.out) ?_
        clear hK K
        generalize W5.alloc (.cells #[.slice none 0 0, .int .i64 0] 61) = W6 at *
        obtain ⟨k0, k1⟩ := cel2 HQ.out.box
        have kf : ∀ x, W6.frozen? ⟨W5.heap.size, x, none⟩ = false := (fun x => by simp [World.frozen?, HQ.out.box])
        have HFB : Hid (Below u1.heap.size u1 ((W6.setCell ⟨W5.heap.size, 0, none⟩ (.slice ao2 zs.length cap2)).setCell ⟨W5.heap.size, 1, none⟩ (.int .i64 nx))) := (FBL.out.setCell (by simp only; exact BL.out) _).setCell (by simp only; exact BL.out) _
        refine wpAnyH_all (rs := [8]) (by kernel_rfl) (by simp) (all_one (held_step rfl (by rfl) fun K hK => ?_))
        go_simp
        refine hK _ _ (HSB.out _ HFB.out) ?_
        clear hK K
        refine wpAnyH_done (by kernel_rfl) ?_ _
        go_simp
        go_wp2
        go_meet
        case rel => exact ⟨_, ao2, cap2, rfl, HQ.out.put nx⟩
      · have FB2 : Hid (Below u1.heap.size u1 (W1.alloc (.cells #[.slice none 0 0, .int .i64 0] 61))) := FB1.out.alloc FB1.out.size _
        have FO2 : Hid ((W1.alloc (.cells #[.slice none 0 0, .int .i64 0] 61)).ownsRow u1.heap.size 66 5 (.slice (some ⟨u1.heap.size, 0, none⟩) 0 0) 0 []) := te_below FO1.out ((Below.refl _ _).alloc (Nat.le_refl _) _)
        have HN : Hid ((W1.alloc (.cells #[.slice none 0 0, .int .i64 0] 61)).heap[W1.heap.size]? = some (.cells #[.slice none 0 0, .int .i64 0] 61 (0, 0))) := heap_new _ _
        have BL : Hid (u1.heap.size ≤ W1.heap.size) := FB1.out.size
        have LT1 : Hid (u1.heap.size < W1.heap.size) := (FO1.out.lt u1.heap.size rfl).2
        have LT2 : Hid (W1.heap.size < (W1.alloc (.cells #[.slice none 0 0, .int .i64 0] 61)).heap.size) := (show W1.heap.size < (W1.alloc (.cells #[.slice none 0 0, .int .i64 0] 61)).heap.size by simp)
        have PL : Hid (u1.heap.size ≤ u1.heap.size) := Nat.le_refl _
        go_simp
        refine hK _ _ (HSB.out _ FB2.out) ?_
        clear hK K
        generalize W1.alloc (.cells #[.slice none 0 0, .int .i64 0] 61) = W2 at *
        refine wpAnyH_all (rs := [3]) (by kernel_rfl) (by simp) (all_one (held_step rfl (by rfl) fun K hK => ?_))
        refine wp_append_ex _ _ _ 59 rfl _ _ rfl rfl (HAP.out W2 _ FO2.out FB2.out) ?_
        rintro v' W5 ⟨ho, hg, hd⟩
        obtain ⟨ao2, cap2, rfl⟩ := te_sl ho
        have SB : Hid (Below u1.heap.size u1 W5) := FB2.out.grown hg FB2.out.size (fun j hj => by cases hj; have := PL.out; omega)
        have HO : Hid (W5.ownsRow u1.heap.size 66 5 (.slice ao2 zs.length cap2) zs.length (teR zs)) := ho
        have HG : Hid (W2.grownBy W5 (some (u1.heap.size))) := hg
        have HD : Hid ((Value.slice ao2 zs.length cap2).ownBlock = some (u1.heap.size) ∨ (Value.slice ao2 zs.length cap2).ownBlock = some W2.heap.size) := hd
        clear ho hg hd
        refine hK _ _ (HSB.out _ SB.out) ?_
        clear hK K
        refine wpAnyH_take (i := 6) (v := .agg #[.slice ao2 zs.length cap2, .int .i64 nx]) rfl (by kernel_rfl) (by kernel_rfl) (by kernel_rfl) (fun _ _ _ h => h) (Or.inl ⟨by rfl, fun w9 _ => ?_⟩) (HSB.out _ SB.out) ?_
        · go_simp
        have HQ : Hid (PQ w W5 (W1.heap.size) (.slice ao2 zs.length cap2) zs (.slice ao zs.length cap) nx e) := by
          have l1 := LT1.out
          have l2 := LT2.out
          have l3 := BL.out
          refine ⟨HX.out.step SB.out, by omega, (HG.out.block _ l2 (fun q => by have := Option.some.inj q; omega)).trans HN.out, te_weak HO.out (by omega), fun q => ?_⟩
          rcases HD.out with q2 | q2
          · have := Option.some.inj (q.symm.trans q2); omega
          · have := Option.some.inj (q.symm.trans q2); omega
        have FBL : Hid (Below u1.heap.size u1 W5) := SB.out
        obtain ⟨k0, k1⟩ := cel2 HQ.out.box
        have kf : ∀ x, W5.frozen? ⟨W1.heap.size, x, none⟩ = false := (fun x => by simp [World.frozen?, HQ.out.box])
        have HFB : Hid (Below u1.heap.size u1 ((W5.setCell ⟨W1.heap.size, 0, none⟩ (.slice ao2 zs.length cap2)).setCell ⟨W1.heap.size, 1, none⟩ (.int .i64 nx))) := (FBL.out.setCell (by simp only; exact BL.out) _).setCell (by simp only; exact BL.out) _
        refine wpAnyH_all (rs := [8]) (by kernel_rfl) (by simp) (all_one (held_step rfl (by rfl) fun K hK => ?_))
        go_simp
        refine hK _ _ (HSB.out _ HFB.out) ?_
        clear hK K
        refine wpAnyH_done (by kernel_rfl) ?_ _
        go_simp
        go_wp2
        go_meet
        case rel => exact ⟨_, ao2, cap2, rfl, HQ.out.put nx⟩
    · have FB1 : Hid (Below u1.heap.size u1 (u1.alloc (.cells #[.slice none 0 0, .int .i64 0] 61)).drew) := ((Below.refl _ _).alloc (Nat.le_refl _) _).drew
      have HN1 : Hid ((u1.alloc (.cells #[.slice none 0 0, .int .i64 0] 61)).drew.heap[u1.heap.size]? = some (.cells #[.slice none 0 0, .int .i64 0] 61 (0, 0))) := heap_new _ _
      have LT0 : Hid ((u1.alloc (.cells #[.slice none 0 0, .int .i64 0] 61)).drew.heap.size = u1.heap.size + 1) := (show (u1.alloc (.cells #[.slice none 0 0, .int .i64 0] 61)).drew.heap.size = u1.heap.size + 1 by simp)
      go_simp
      refine hK _ _ (HSB.out _ FB1.out) ?_
      clear hK K
      generalize (u1.alloc (.cells #[.slice none 0 0, .int .i64 0] 61)).drew = W1 at *
      refine wpAnyH_all (rs := [0]) (by kernel_rfl) (by simp) (all_one (held_step rfl (by rfl) fun K hK => ?_))
      have FB2 : Hid (Below u1.heap.size u1 (W1.alloc (.cells #[] 66))) := FB1.out.alloc FB1.out.size _
      have FO2 : Hid ((W1.alloc (.cells #[] 66)).ownsRow u1.heap.size 66 5 (.slice (some ⟨W1.heap.size, 0, none⟩) 0 0) 0 []) := te_weak (World.ownsRow_lit _ #[] 0 (by simp) (by decide) rfl) FB1.out.size
      have HN : Hid ((W1.alloc (.cells #[] 66)).heap[u1.heap.size]? = some (.cells #[.slice none 0 0, .int .i64 0] 61 (0, 0))) := (Below.heap_alloc _ _ _ (by have := LT0.out; omega)).trans HN1.out
      have BL : Hid (u1.heap.size ≤ u1.heap.size) := Nat.le_refl _
      have LT1 : Hid (u1.heap.size < W1.heap.size) := (show u1.heap.size < W1.heap.size by have := LT0.out; omega)
      have LT3 : Hid (W1.heap.size < (W1.alloc (.cells #[] 66)).heap.size) := (show W1.heap.size < (W1.alloc (.cells #[] 66)).heap.size by simp)
      have LT2 : Hid (u1.heap.size < (W1.alloc (.cells #[] 66)).heap.size) := Nat.lt_trans LT1.out LT3.out
      have PL : Hid (u1.heap.size ≤ W1.heap.size) := FB1.out.size
      go_simp
      refine hK _ _ (HSB.out _ FB2.out) ?_
      clear hK K
      generalize W1.alloc (.cells #[] 66) = W2 at *
      refine wpAnyH_all (rs := [3]) (by kernel_rfl) (by simp) (all_one (held_step rfl (by rfl) fun K hK => ?_))
      refine wp_append_ex _ _ _ 59 rfl _ _ rfl rfl (HAP.out W2 _ FO2.out FB2.out) ?_
      rintro v' W5 ⟨ho, hg, hd⟩
      obtain ⟨ao2, cap2, rfl⟩ := te_sl ho
      have SB : Hid (Below u1.heap.size u1 W5) := FB2.out.grown hg FB2.out.size (fun j hj => by cases hj; have := PL.out; omega)
      have HO : Hid (W5.ownsRow u1.heap.size 66 5 (.slice ao2 zs.length cap2) zs.length (teR zs)) := ho
      have HG : Hid (W2.grownBy W5 (some (W1.heap.size))) := hg
      have HD : Hid ((Value.slice ao2 zs.length cap2).ownBlock = some (W1.heap.size) ∨ (Value.slice ao2 zs.length cap2).ownBlock = some W2.heap.size) := hd
      clear ho hg hd
      refine hK _ _ (HSB.out _ SB.out) ?_
      clear hK K
      refine wpAnyH_take (i := 6) (v := .agg #[.slice ao2 zs.length cap2, .int .i64 nx]) rfl (by kernel_rfl) (by kernel_rfl) (by kernel_rfl) (fun _ _ _ h => h) (Or.inl ⟨by rfl, fun w9 _ => ?_⟩) (HSB.out _ SB.out) ?_
      · go_simp
      have HQ : Hid (PQ w W5 (u1.heap.size) (.slice ao2 zs.length cap2) zs (.slice ao zs.length cap) nx e) := by
        have l1 := LT1.out
        have l2 := LT2.out
        have l3 := BL.out
        refine ⟨HX.out.step SB.out, by omega, (HG.out.block _ l2 (fun q => by have := Option.some.inj q; omega)).trans HN.out, te_weak HO.out (by omega), fun q => ?_⟩
        rcases HD.out with q2 | q2
        · have := Option.some.inj (q.symm.trans q2); omega
        · have := Option.some.inj (q.symm.trans q2); omega
      have FBL : Hid (Below u1.heap.size u1 W5) := SB.out
      obtain ⟨k0, k1⟩ := cel2 HQ.out.box
      have kf : ∀ x, W5.frozen? ⟨u1.heap.size, x, none⟩ = false := (fun x => by simp [World.frozen?, HQ.out.box])
      have HFB : Hid (Below u1.heap.size u1 ((W5.setCell ⟨u1.heap.size, 0, none⟩ (.slice ao2 zs.length cap2)).setCell ⟨u1.heap.size, 1, none⟩ (.int .i64 nx))) := (FBL.out.setCell (by simp only; exact BL.out) _).setCell (by simp only; exact BL.out) _
      refine wpAnyH_all (rs := [8]) (by kernel_rfl) (by simp) (all_one (held_step rfl (by rfl) fun K hK => ?_))
      go_simp
      refine hK _ _ (HSB.out _ HFB.out) ?_
      clear hK K
      refine wpAnyH_done (by kernel_rfl) ?_ _
      go_simp
      go_wp2
      go_meet
      case rel => exact ⟨_, ao2, cap2, rfl, HQ.out.put nx⟩
  case rest =>
    obtain ⟨b, ao2, cap2, rfl, hP⟩ := hcut
    have HP : Hid (PX w wc b (.slice ao2 zs.length cap2) nx zs (.slice ao zs.length cap) nx e) := hP
    clear hP HX HRW yl
    obtain ⟨k0, k1⟩ := HP.out.box.cel
    obtain ⟨e0, e1, e2, e3, e4⟩ := cel5 HP.out.base.b1
    have bl := HP.out.lb
    by_cases hok : teOk e = false
    · go_wp2_with (go_at_call 81; refine Calls.mono (specEntry_any e wc) ?_; rintro r u4 ⟨rfl, hu4⟩; rw [hok]; have HP4 : Hid (PX w u4 b (.slice ao2 zs.length cap2) nx zs (.slice ao zs.length cap) nx e) := HP.out.step hu4; obtain ⟨m0, m1⟩ := HP4.out.box.cel; obtain ⟨q0, q1⟩ := cel2 HP4.out.base.b2; have qf : ∀ x, u4.frozen? ⟨w.heap.size + 1 + 1, x, none⟩ = false := (fun x => by simp [World.frozen?, HP4.out.base.b2]); clear hu4 HP k0 k1 e0 e1 e2 e3 e4)
      obtain ⟨f1, f2, f3⟩ := HP4.out.fin
      obtain ⟨r0, r1⟩ := f3.cel
      have p1 : putL zs nx e = zs := by simp [putL, hok]
      have p2 : putN zs nx e = nx := by simp [putN, hok]
      rw [p1, p2]
      exact bodyPost_ret (v := .agg #[.slice ao2 zs.length cap2, .int .i64 nx]) (by simp [results, Try.results125, go_sem, r0, r1]) rfl ⟨ao2, cap2, rfl, f1, f2⟩
    · rw [Bool.not_eq_false] at hok
      go_upto_region 7 with (go_at_call 81; refine Calls.mono (specEntry_any e wc) ?_; rintro r u4 ⟨rfl, hu4⟩; rw [hok]; have HP4 : Hid (PX w u4 b (.slice ao2 zs.length cap2) nx zs (.slice ao zs.length cap) nx e) := HP.out.step hu4; clear hu4 HP k0 k1 e0 e1 e2 e3 e4)
      go_loopw [6] (fun i wr => ∃ k : Nat, k ≤ zs.length ∧ i = .int .i64 k ∧ PX w wr b (.slice ao2 zs.length cap2) nx zs (.slice ao zs.length cap) nx e ∧ Hid (∀ (j : Nat) (hj : j < zs.length), j < k → same zs[j] e = false)) (fun i _ => zs.length - (intOf i).toNat)
      case atStart => exact ⟨0, Nat.zero_le _, rfl, HP4.out, show ∀ (j : Nat) (hj : j < zs.length), j < 0 → same zs[j] e = false from fun j hj h => absurd h (Nat.not_lt_zero _)⟩
      case round =>
        obtain ⟨k, hk, rfl, hP, hno⟩ := hrel
        clear HP4
        have HP5 : Hid (PX w wr b (.slice ao2 zs.length cap2) nx zs (.slice ao zs.length cap) nx e) := hP
        clear hP
        obtain ⟨m0, m1⟩ := HP5.out.box.cel
        obtain ⟨t0, t1, t2, t3, t4⟩ := cel5 HP5.out.base.b1
        by_cases hlt : k < zs.length
        · obtain ⟨g, rfl⟩ := HP5.out.addr (by omega)
          have hz := te_read HP5.out.row k hlt
          obtain ⟨z, hze⟩ : ∃ z, zs[k] = z := ⟨_, rfl⟩
          rw [hze] at hz
          obtain ⟨d0, d1, d2, d3, d4⟩ := hz
          have HZ : Hid (zs[k] = z) := hze
          have hk0 : (0 : Int) ≤ (k : Int) := by omega
          have hk1 : (k : Int) < (zs.length : Int) := by omega
          have HPW : Hid (PX w (wr.alloc (.cells #[.int .i64 z.asid, .int .i64 z.page, .int .i64 z.frame, .int .i64 z.flags, .bool z.large] 66)) b (.slice (some ⟨g, 0, none⟩) zs.length cap2) nx zs (.slice ao zs.length cap) nx e) := HP5.out.step ((Below.refl _ _).alloc (Nat.le_refl _) _)
          have HBX : Hid ((wr.alloc (.cells #[.int .i64 z.asid, .int .i64 z.page, .int .i64 z.frame, .int .i64 z.flags, .bool z.large] 66)).heap[wr.heap.size]? = some (.cells #[.int .i64 z.asid, .int .i64 z.page, .int .i64 z.frame, .int .i64 z.flags, .bool z.large] 66 (0, 0))) := heap_new _ _
          have HNX : Hid (same z e = false → ∀ (j : Nat) (hj : j < zs.length), j < k + 1 → same zs[j] e = false) := fun hs j hj hjk => by
            by_cases ejk : j = k
            · subst ejk
              rw [HZ.out]
              exact hs
            · exact hno.out j hj (by omega)
          clear hze
          go_upto_region 10 with fail
          generalize wr.alloc (.cells #[.int .i64 z.asid, .int .i64 z.page, .int .i64 z.frame, .int .i64 z.flags, .bool z.large] 66) = W at *
          clear d0 d1 d2 d3 d4 m0 m1 t0 t1 t2 t3 t4
          obtain ⟨y0, y1, y2, y3, y4⟩ := cel5 HBX.out
          obtain ⟨t0, t1, t2, t3, t4⟩ := cel5 HPW.out.base.b1
          by_cases h1 : z.asid = e.asid
          · by_cases h2 : z.page = e.page
            · by_cases h3 : z.large = e.large
              · have HSM : Hid (same zs[k] e = true) := (show same zs[k] e = true by rw [HZ.out]; simp [same, h1, h2, h3])
                have hi : idxI (fun x => same x e) zs = k := idxI_at hlt HSM.out (fun j hj => hno.out j (by omega) hj)
                have HPL : Hid (putL zs nx e = zs.set k e ∧ putN zs nx e = nx) := by
                  constructor
                  · simp [putL, hok, hi]
                  · simp [putN, hi]
                obtain ⟨m0, m1⟩ := HPW.out.box.cel
                have gb := (HPW.out.row.lt g rfl).1
                have n1 : ¬ g = b := fun q => HPW.out.ne (by rw [q]; rfl)
                have n2 : ¬ b = g := fun q => n1 q.symm
                have n3 : ¬ g = w.heap.size + 1 + 1 := by omega
                have n4 : ¬ w.heap.size + 1 + 1 = g := by omega
                have n5 : ¬ b = w.heap.size + 1 + 1 := by omega
                have n6 : ¬ w.heap.size + 1 + 1 = b := by omega
                have n7 : ¬ g = w.heap.size + 1 := by omega
                have n8 : ¬ w.heap.size + 1 = g := by omega
                obtain ⟨v, v0, v1, v2, v3, v4⟩ := te_cells HPW.out.row rfl k hlt
                have hfz := HPW.out.row.frozenAt
                obtain ⟨q0, q1⟩ := cel2 HPW.out.base.b2
                have qf : ∀ x, W.frozen? ⟨w.heap.size + 1 + 1, x, none⟩ = false := (fun x => by simp [World.frozen?, HPW.out.base.b2])
                clear hi
                go_wp2
                obtain ⟨f1, f2, f3⟩ := (HPW.out.set k hlt e).fin
                obtain ⟨r0, r1⟩ := f3.cel
                rw [HPL.out.1, HPL.out.2]
                rw [List.length_set] at f1 ⊢
                exact bodyPost_ret (v := .agg #[.slice (some ⟨g, 0, none⟩) zs.length cap2, .int .i64 nx]) (by simp [results, Try.results125, go_sem, r0, r1]) rfl ⟨_, cap2, rfl, f1, f2⟩
              · have HS : Hid (same z e = false) := (show same z e = false by simp [same, h1, h2]; exact h3)
                have h4 : (z.large == e.large) = false := by simpa using h3
                go_wp2
                refine ⟨⟨k + 1, hlt, by go_num, HPW.out, HNX.out HS.out⟩, by simp [intOf]; omega⟩
            · have HS : Hid (same z e = false) := (show same z e = false by simp [same, h1, h2])
              go_wp2
              refine ⟨⟨k + 1, hlt, by go_num, HPW.out, HNX.out HS.out⟩, by simp [intOf]; omega⟩
          · have HS : Hid (same z e = false) := (show same z e = false by simp [same, h1])
            go_wp2
            refine ⟨⟨k + 1, hlt, by go_num, HPW.out, HNX.out HS.out⟩, by simp [intOf]; omega⟩
        · obtain rfl : k = zs.length := by omega
          have HIX : Hid (idxI (fun x => same x e) zs = -1) := idxI_none (fun j hj => hno.out j hj hj)
          have hj : ¬ 0 ≤ idxI (fun x => same x e) zs := by rw [HIX.out]; decide
          by_cases h16 : zs.length < 16
          · have HPL : Hid (putL zs nx e = zs ++ [e] ∧ putN zs nx e = nx) := by
              constructor
              · simp [putL, hok, hj, h16]
              · simp [putN, h16]
            have h17 : (zs.length : Int) < 16 := by omega
            have n5 : ¬ b = w.heap.size + 1 + 1 := by omega
            have n6 : ¬ w.heap.size + 1 + 1 = b := by omega
            obtain ⟨i0, hi0, hz0, hz1, hz2⟩ := info_parts Try.info66
            have HI0 : Hid (Try.prog.info? 66 = some i0) := hi0
            clear hj h16 hi0
            go_wp2_with (at_builtin; (refine wpList_append_lies _ rfl _ _ 59 rfl (w.heap.size + 3) 66 i0 (.agg #[.int .i64 0, .int .i64 0, .int .i64 0, .int .i64 0, .bool false]) 5 40 Try.underlying59 HI0.out hz0 hz1 hz2 rfl (by decide) (.slice ao2 zs.length cap2) zs.length (teR zs) rfl (by exact HP5.out.row.alloc _) ⟨wr.heap.size, 0, none⟩ 1 1 (teC e) rfl rfl (World.news_of_block (cs := #[.int .i64 e.asid, .int .i64 e.page, .int .i64 e.frame, .int .i64 e.flags, .bool e.large]) (by exact heap_new wr _)) (te_oneC e) (by decide) (by unfold maxLen; omega) (by omega) (by have := HP5.out.lb; have := HP5.out.box.lt; simp; omega) _ rfl ?_; intro g cap3 w1 ho hgr hli _; have HA := (HP5.out.step ((Below.refl _ _).alloc (Nat.le_refl _) _)).app (m := e) ho hgr hli; obtain ⟨v0, v1⟩ := HA.1.cel; obtain ⟨q0, q1⟩ := cel2 HA.2.1; have qf : ∀ x, w1.frozen? ⟨w.heap.size + 1 + 1, x, none⟩ = false := (fun x => by simp [World.frozen?, HA.2.1]); have bf : ∀ x, w1.frozen? ⟨b, x, none⟩ = false := (fun x => by simp [World.frozen?, (show w1.heap[b]? = _ from HA.1)]); have HP7 : Hid (PX w (w1.setCell ⟨b, 0, none⟩ (.slice (some ⟨g, 0, none⟩) (zs.length + 1) cap3)) b (.slice (some ⟨g, 0, none⟩) (zs.length + 1) cap3) nx (zs ++ [e]) (.slice ao zs.length cap) nx e) := HA.2.2; clear HA ho hgr hli HP5 m0 m1 t0 t1 t2 t3 t4 hz0 hz1 hz2))
            obtain ⟨f1, f2, f3⟩ := HP7.out.fin
            obtain ⟨r0, r1⟩ := f3.cel
            rw [HPL.out.1, HPL.out.2]
            have hln : (zs ++ [e]).length = zs.length + 1 := by simp
            rw [hln] at f1 ⊢
            exact bodyPost_ret (v := .agg #[.slice (some ⟨g, 0, none⟩) (zs.length + 1) cap3, .int .i64 nx]) (by simp [results, Try.results125, go_sem, r0, r1]) rfl ⟨_, cap3, rfl, f1, f2⟩
          · obtain ⟨k, rfl⟩ : ∃ k : Nat, nx = k := ⟨nx.toNat, by omega⟩
            have HPL : Hid (putL zs k e = zs.set k e ∧ putN zs k e = ((k : Int) + 1) % 16) := by
              constructor
              · simp [putL, hok, hj, h16]
              · simp [putN, hok, hj, h16]
            obtain ⟨g, rfl⟩ := HP5.out.addr (by omega)
            have hk : k < zs.length := by omega
            have hk1 : (k : Int) < (zs.length : Int) := by omega
            have hk2 : (k : Int) < 16 := by omega
            have gb := (HP5.out.row.lt g rfl).1
            have n1 : ¬ g = b := fun q => HP5.out.ne (by rw [q]; rfl)
            have n2 : ¬ b = g := fun q => n1 q.symm
            have n3 : ¬ g = w.heap.size + 1 + 1 := by omega
            have n4 : ¬ w.heap.size + 1 + 1 = g := by omega
            have n5 : ¬ b = w.heap.size + 1 + 1 := by omega
            have n6 : ¬ w.heap.size + 1 + 1 = b := by omega
            have n7 : ¬ g = w.heap.size + 1 := by omega
            have n8 : ¬ w.heap.size + 1 = g := by omega
            have h17 : ¬ (zs.length : Int) < 16 := by omega
            have hk3 : (0 : Int) ≤ (k : Int) := by omega
            obtain ⟨v, v0, v1, v2, v3, v4⟩ := te_cells HP5.out.row rfl k hk
            have hfz := HP5.out.row.frozenAt
            obtain ⟨q0, q1⟩ := cel2 HP5.out.base.b2
            have qf : ∀ x, wr.frozen? ⟨w.heap.size + 1 + 1, x, none⟩ = false := (fun x => by simp [World.frozen?, HP5.out.base.b2])
            have bf : ∀ x, wr.frozen? ⟨b, x, none⟩ = false := (fun x => by simp [World.frozen?, (show wr.heap[b]? = _ from HP5.out.box)])
            clear hj h16
            go_wp2
            obtain ⟨f1, f2, f3⟩ := ((HP5.out.set k hk e).nxt (((k : Int) + 1) % 16)).fin
            obtain ⟨r0, r1⟩ := f3.cel
            rw [HPL.out.1, HPL.out.2]
            rw [List.length_set] at f1 ⊢
            exact bodyPost_ret (v := .agg #[.slice (some ⟨g, 0, none⟩) zs.length cap2, .int .i64 (((k : Int) + 1) % 16)]) (by simp [results, Try.results125, go_sem, r0, r1]) rfl ⟨_, cap2, rfl, f1, f2⟩
end Go.Proofs.Ytfagohdmepnkkaa
