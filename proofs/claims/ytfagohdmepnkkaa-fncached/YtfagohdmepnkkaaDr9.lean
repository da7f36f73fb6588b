import Derived.Test.YtfagohdmepnkkaaDr8
import Derived.Test.YtfagohdmepnkkaaDr5
import Derived.OrdersHeld
namespace Go.Proofs.Ytfagohdmepnkkaa
open Go.ChangeShapes Go.WideShapes Go.ChangeAt Go.RowKit

/-- A drawn cache, in its box. -/
structure TX (B0 : Nat) (a : Option Addr) (len cap : Nat) (w : World) (p : Nat) (ao : Option Addr) (zs : List TE) (cp : Nat) (nx : Int) (u : World) : Prop where
  lt : B0 < w.heap.size
  src : SrcOk u B0 a len cap
  gr : w.grownBy u (some B0)
  lo : w.heap.size < p
  rbox : u.heap[w.heap.size]? = some (.cells #[.slice none 0 0, .int .i64 0] 61 (0, 0))
  box : u.heap[p]? = some (.cells #[.slice ao zs.length cp, .int .i64 nx] 61 (0, 0))
  row : u.ownsRow (w.heap.size + 1) 66 5 (.slice ao zs.length cp) zs.length (teR zs)
  ne : (Value.slice ao zs.length cp).ownBlock ≠ some p
  l17 : zs.length ≤ 17
theorem TX.step {B0 : Nat} {a : Option Addr} {len cap : Nat} {w : World} {p : Nat} {ao : Option Addr} {zs : List TE} {cp : Nat} {nx : Int} {u u' : World} (h : TX B0 a len cap w p ao zs cp nx u) (hs : SrcOk u' B0 a len cap) (hg : u.grownBy u' (some B0)) : TX B0 a len cap w p ao zs cp nx u' := by
  have h1 := h.lt
  have h2 := h.lo
  exact ⟨h.lt, hs, Lib.grownBy_trans h.gr hg, h.lo, (hg.block _ (Array.getElem?_eq_some_iff.1 h.rbox).1 (by simp; omega)).trans h.rbox, (hg.block _ (Array.getElem?_eq_some_iff.1 h.box).1 (by simp; omega)).trans h.box, row_g h.row (by omega) hg, h.ne, h.l17⟩
theorem TX.nx {B0 : Nat} {a : Option Addr} {len cap : Nat} {w : World} {p : Nat} {ao : Option Addr} {zs : List TE} {cp : Nat} {nx : Int} {u : World} (h : TX B0 a len cap w p ao zs cp nx u) (y : Int) : TX B0 a len cap w p ao zs cp y (u.setCell ⟨p, 1, none⟩ (.int .i64 y)) := by
  have h1 := h.lt
  have h2 := h.lo
  have q := heap_setCell_same u p 1 _ _ (.int .i64 y) h.box
  exact ⟨h.lt, h.src.keep (fun j hj => Below.heap_setCell _ _ _ _ (by simp only; omega)), g_set h.gr (by omega), h.lo, (Below.heap_setCell _ _ _ _ (by simp only; omega)).trans h.rbox, by simpa using q, own_set h.row h.ne, h.ne, h.l17⟩
/-- A cell of the first entry put. -/
theorem TX.first {B0 : Nat} {a : Option Addr} {len cap : Nat} {w : World} {p g : Nat} {zs : List TE} {cp : Nat} {nx : Int} {u : World} (h : TX B0 a len cap w p (some ⟨g, 0, none⟩) zs cp nx u) (j : Nat) (v : Value) (zs2 : List TE) (hl : zs2.length = zs.length) (hz : (teR zs).set j v = teR zs2) : TX B0 a len cap w p (some ⟨g, 0, none⟩) zs2 cp nx (u.setCell ⟨g, j, none⟩ v) := by
  have h1 := h.lt
  have h2 := h.lo
  have hg := h.row.lt g rfl
  have hne : g ≠ p := fun q => h.ne (by rw [q]; rfl)
  have st := h.row.stored j v
  rw [hz] at st
  refine ⟨h.lt, h.src.keep (fun i hi => Below.heap_setCell _ _ _ _ (by simp only; omega)), g_set h.gr (by omega), h.lo, (Below.heap_setCell _ _ _ _ (by simp only; omega)).trans h.rbox, ?_, ?_, ?_, by rw [hl]; exact h.l17⟩
  · rw [hl]
    exact (Below.heap_setCell _ _ _ _ (by simp only; omega)).trans h.box
  · rw [hl]
    exact st.1
  · rw [hl]
    exact h.ne
theorem cel2F {u : World} {b t : Nat} {a0 a1 : Value} (h : u.heap[b]? = some (.cells #[a0, a1] t (0, 0))) : u.cell? ⟨b, 0, none⟩ = some a0 ∧ u.cell? ⟨b, 1, none⟩ = some a1 ∧ ∀ x, u.frozen? ⟨b, x, none⟩ = false := by
  refine ⟨?_, ?_, fun x => ?_⟩
  all_goals first | (simp [World.cell?, h]; done) | (simp [World.frozen?, h]; done)
theorem TX.end {B0 : Nat} {a : Option Addr} {len cap : Nat} {w : World} {p : Nat} {ao : Option Addr} {zs : List TE} {cp : Nat} {nx : Int} {u U : World} (h : TX B0 a len cap w p ao zs cp nx u) (hU : (u.setCell ⟨w.heap.size, 0, none⟩ (.slice ao zs.length cp)).setCell ⟨w.heap.size, 1, none⟩ (.int .i64 nx) = U) : U.heap[w.heap.size]? = some (.cells #[.slice ao zs.length cp, .int .i64 nx] 61 (0, 0)) ∧ U.ownsRow (w.heap.size + 1) 66 5 (.slice ao zs.length cp) zs.length (teR zs) ∧ SrcOk U B0 a len cap ∧ w.grownBy U (some B0) := by
  subst hU
  have h1 := h.lt
  have z0 := heap_setCell_same u w.heap.size 0 _ _ (.slice ao zs.length cp) h.rbox
  have z1 := heap_setCell_same _ w.heap.size 1 _ _ (.int .i64 nx) z0
  have hne : (Value.slice ao zs.length cp).ownBlock ≠ some w.heap.size := fun q => by have := (h.row.lt _ q).1; omega
  exact ⟨by simpa using z1, own_set (own_set h.row hne) hne, h.src.keep (fun i hi => (Below.heap_setCell _ _ _ _ (by simp only; omega)).trans (Below.heap_setCell _ _ _ _ (by simp only; omega))), g_set (g_set h.gr (Nat.le_refl _)) (Nat.le_refl _)⟩
theorem first_cells {u : World} {B g cp n : Nat} {z : TE} {rest : List TE} (h : u.ownsRow B 66 5 (.slice (some ⟨g, 0, none⟩) n cp) n (teR (z :: rest))) : u.cell? ⟨g, 0, none⟩ = some (.int .i64 z.asid) ∧ u.cell? ⟨g, 1, none⟩ = some (.int .i64 z.page) ∧ u.cell? ⟨g, 2, none⟩ = some (.int .i64 z.frame) ∧ u.cell? ⟨g, 3, none⟩ = some (.int .i64 z.flags) ∧ u.cell? ⟨g, 4, none⟩ = some (.bool z.large) ∧ ∀ x, u.frozen? ⟨g, x, none⟩ = false := by
  have hn : 1 ≤ n := by
    have := h.1
    rw [teR_len] at this
    simp at this
    omega
  refine ⟨(h.cellAt 0 (by omega)).trans rfl, (h.cellAt 1 (by omega)).trans rfl, (h.cellAt 2 (by omega)).trans rfl, (h.cellAt 3 (by omega)).trans rfl, (h.cellAt 4 (by omega)).trans rfl, fun x => h.frozenAt x⟩
theorem appE {X : World} {B g q cp : Nat} {zs : List TE} {z : TE} (h : X.ownsRow B 66 5 (.slice (some ⟨g, 0, none⟩) zs.length cp) zs.length (teR zs)) (hq : X.heap[q]? = some (.cells #[.int .i64 z.asid, .int .i64 z.page, .int .i64 z.frame, .int .i64 z.flags, .bool z.large] 66 (0, 0))) (hl : zs.length ≤ 16) (hB : B ≤ X.heap.size) : ∃ v' u', (Builtin.append_ #[59, 59] 59 #[.slice (some ⟨g, 0, none⟩) zs.length cp, .slice (some ⟨q, 0, none⟩) 1 1]).run Try.prog X = .ok v' u' ∧ (u'.ownsRow B 66 5 v' (zs.length + 1) (teR (zs ++ [z])) ∧ X.grownBy u' (some g) ∧ (v'.ownBlock = some g ∨ v'.ownBlock = some X.heap.size)) := by
  obtain ⟨i0, hi0, hz0, hz1, hz2⟩ := info_parts Try.info66
  obtain ⟨v9, w2, hr9, h92, h93, _, h95⟩ := run_append_own_at (P := Try.prog) X B 59 59 66 i0 (.agg #[.int .i64 0, .int .i64 0, .int .i64 0, .int .i64 0, .bool false]) 5 40 Try.underlying59 hi0 hz0 hz1 hz2 rfl (by decide) (.slice (some ⟨g, 0, none⟩) zs.length cp) zs.length (teR zs) h ⟨q, 0, none⟩ 1 1 (teC z) rfl (World.news_of_block (cs := #[.int .i64 z.asid, .int .i64 z.page, .int .i64 z.frame, .int .i64 z.flags, .bool z.large]) hq) (te_oneC z) (by unfold maxLen; omega) (by omega) hB
  exact ⟨v9, w2, hr9, by rw [teR_app]; exact h92, h93, h95⟩
theorem TX.app {B0 : Nat} {a : Option Addr} {len cap : Nat} {w : World} {p g : Nat} {z : TE} {zs : List TE} {cp : Nat} {nx : Int} {X u : World} {ao2 : Option Addr} {cp2 : Nat} (h : TX B0 a len cap w p (some ⟨g, 0, none⟩) zs cp nx X) (hl : zs.length ≤ 16) (ho : u.ownsRow (w.heap.size + 1) 66 5 (.slice ao2 (zs.length + 1) cp2) (zs.length + 1) (teR (zs ++ [z]))) (hg : X.grownBy u (some g)) (hd : (Value.slice ao2 (zs.length + 1) cp2).ownBlock = some g ∨ (Value.slice ao2 (zs.length + 1) cp2).ownBlock = some X.heap.size) : TX B0 a len cap w p ao2 (zs ++ [z]) cp2 nx (u.setCell ⟨p, 0, none⟩ (.slice ao2 (zs.length + 1) cp2)) := by
  have hlt := h.lt
  have hlo := h.lo
  have hgl := (h.row.lt g rfl).1
  have hpl := (Array.getElem?_eq_some_iff.1 h.box).1
  have hgp : g ≠ p := fun q => h.ne (by rw [q]; rfl)
  have hk : ∀ j, j < X.heap.size → j ≠ g → u.heap[j]? = X.heap[j]? := fun j hj hq => hg.block j hj (by simp; omega)
  have hrl := (Array.getElem?_eq_some_iff.1 h.rbox).1
  have hln : (zs ++ [z]).length = zs.length + 1 := by simp
  have hbx := (hk p hpl (fun q => hgp q.symm)).trans h.box
  have hne2 : (Value.slice ao2 (zs.length + 1) cp2).ownBlock ≠ some p := fun q => by
    rcases hd with e | e
    · rw [e] at q
      exact hgp (Option.some.inj q)
    · rw [e] at q
      have q2 := Option.some.inj q
      omega
  have qb := heap_setCell_same u p 0 _ _ (.slice ao2 (zs.length + 1) cp2) hbx
  refine ⟨hlt, h.src.keep (fun j hj => (Below.heap_setCell _ _ _ _ (by simp only; omega)).trans (hk j (by have := h.src.lt; omega) (by omega))), g_set (gfar h.gr hg (fun q hq => by cases hq; omega)) (by omega), hlo, (Below.heap_setCell _ _ _ _ (by simp only; omega)).trans ((hk _ hrl (by omega)).trans h.rbox), ?_, ?_, ?_, by rw [hln]; omega⟩
  · rw [hln]
    simpa using qb
  · rw [hln]
    exact own_set ho hne2
  · rw [hln]
    exact hne2
theorem appN {X : World} {B g q cp n : Nat} {zs : List TE} {z : TE} (hn : zs.length = n) (h : X.ownsRow B 66 5 (.slice (some ⟨g, 0, none⟩) zs.length cp) zs.length (teR zs)) (hq : X.heap[q]? = some (.cells #[.int .i64 z.asid, .int .i64 z.page, .int .i64 z.frame, .int .i64 z.flags, .bool z.large] 66 (0, 0))) (hl : zs.length ≤ 16) (hB : B ≤ X.heap.size) : ∃ v' u', (Builtin.append_ #[59, 59] 59 #[.slice (some ⟨g, 0, none⟩) n cp, .slice (some ⟨q, 0, none⟩) 1 1]).run Try.prog X = .ok v' u' ∧ (u'.ownsRow B 66 5 v' (n + 1) (teR (zs ++ [z])) ∧ X.grownBy u' (some g) ∧ (v'.ownBlock = some g ∨ v'.ownBlock = some X.heap.size)) := by
  subst hn
  exact appE h hq hl hB
theorem TX.appN {B0 : Nat} {a : Option Addr} {len cap : Nat} {w : World} {p g n : Nat} {z : TE} {zs : List TE} {cp : Nat} {nx : Int} {X u : World} {ao2 : Option Addr} {cp2 : Nat} (h : TX B0 a len cap w p (some ⟨g, 0, none⟩) zs cp nx X) (hn : zs.length = n) (hl : zs.length ≤ 16) (ho : u.ownsRow (w.heap.size + 1) 66 5 (.slice ao2 (n + 1) cp2) (n + 1) (teR (zs ++ [z]))) (hg : X.grownBy u (some g)) (hd : (Value.slice ao2 (n + 1) cp2).ownBlock = some g ∨ (Value.slice ao2 (n + 1) cp2).ownBlock = some X.heap.size) : TX B0 a len cap w p ao2 (zs ++ [z]) cp2 nx (u.setCell ⟨p, 0, none⟩ (.slice ao2 (n + 1) cp2)) := by
  subst hn
  exact h.app hl ho hg hd
theorem lit_gr {u v : World} {b : Nat} (h : u.grownBy v (some b)) : u.grownBy v (some b) := h
/-- What a drawn cache is. -/
def DrT (B0 : Nat) (a : Option Addr) (len cap : Nat) (w : World) (e : Ending) (w' : World) : Prop := ∃ (ao : Option Addr) (zs : List TE) (cp : Nat) (nx : Int), e = .returned (.agg #[.slice ao zs.length cp, .int .i64 nx]) ∧ zs.length ≤ 17 ∧ w'.ownsRow (w.heap.size + 1) 66 5 (.slice ao zs.length cp) zs.length (teR zs) ∧ SrcOk w' B0 a len cap ∧ w.grownBy w' (some B0)
set_option maxRecDepth 100000 in
set_option maxHeartbeats 8000000 in
theorem src_anyTlb (B0 : Nat) (a : Option Addr) (len cap : Nat) (w : World) (h : SrcOk w B0 a len cap) :
    Calls Try.prog 78 #[.pointer (some ⟨B0, 0, none⟩)] w fun e w' => DrT B0 a len cap w e w' := by
  have hlt := h.lt
  have HS0 : Hid (SrcOk (w.alloc (.cells #[.slice none 0 0, .int .i64 0] 61)) B0 a len cap) := h.far (World.grownBy_alloc _ _ none)
  have HG0 : Hid (w.grownBy (w.alloc (.cells #[.slice none 0 0, .int .i64 0] 61)) (some B0)) := gAl
  have HR0 : Hid ((w.alloc (.cells #[.slice none 0 0, .int .i64 0] 61)).heap[w.heap.size]? = some (.cells #[.slice none 0 0, .int .i64 0] 61 (0, 0))) := (MapKept.heap_alloc w _).1
  have HSZ : Hid ((w.alloc (.cells #[.slice none 0 0, .int .i64 0] 61)).heap.size = w.heap.size + 1) := (show _ = _ by simp)
  clear h
  go_enter Try.func78, Try.ntmps78
  go_wp2_with fail
  generalize w.alloc (.cells #[.slice none 0 0, .int .i64 0] 61) = W at *
  refine (src_tlb B0 a len cap W HS0.out).mono ?_
  rintro e u1 ⟨ao, zs, cp, nx, rfl, l16, ho, hs1, hg1⟩
  have HT1 : Hid (TX B0 a len cap w u1.heap.size ao zs cp nx (u1.alloc (.cells #[.slice ao zs.length cp, .int .i64 nx] 61))) := (show TX B0 a len cap w u1.heap.size ao zs cp nx (u1.alloc (.cells #[.slice ao zs.length cp, .int .i64 nx] 61)) from by
    have hz := HSZ.out
    have hz1 := hg1.size
    exact ⟨hlt, hs1.far (World.grownBy_alloc _ _ none), Lib.grownBy_trans (Lib.grownBy_trans HG0.out hg1) gAl, by omega, (Below.heap_alloc _ _ _ (by omega)).trans ((hg1.block _ (Array.getElem?_eq_some_iff.1 HR0.out).1 (by simp; omega)).trans HR0.out), (MapKept.heap_alloc u1 _).1, te_weak (te_below ho ((Below.refl _ _).alloc (Nat.le_refl _) _)) (by omega), fun q => by have := (ho.lt _ q).2; omega, by omega⟩)
  clear ho hs1 hg1 HS0 HG0 HR0 HSZ
  go_upto_region 2 with fail
  generalize u1.alloc (.cells #[.slice ao zs.length cp, .int .i64 nx] 61) = U1 at *
  generalize u1.heap.size = p at *
  obtain ⟨q0, q1, qf⟩ := cel2F HT1.out.box
  have hlb := (Array.getElem?_eq_some_iff.1 HT1.out.box).1
  by_cases hz : zs.length = 0
  · have hz2 := List.length_eq_zero_iff.1 hz
    subst hz2
    clear hz
    go_upto_region 3 with fail
    clear q0 q1 qf hlb
    obtain ⟨nn, hnn⟩ : ∃ nn, ([] : List TE).length = nn := ⟨_, rfl⟩
    have HNN : Hid (([] : List TE).length = nn) := hnn
    obtain ⟨q0, q1, qf⟩ := cel2F HT1.out.box
    obtain ⟨t0, t1, tf⟩ := cel2F HT1.out.rbox
    have hlr := (Array.getElem?_eq_some_iff.1 HT1.out.rbox).1
    have hlb := (Array.getElem?_eq_some_iff.1 HT1.out.box).1
    rw [hnn] at q0
    clear hnn
    go_wp2
    obtain ⟨hfin, hro, hsr, hgr⟩ := HT1.out.end rfl
    rw [HNN.out] at hfin hro hsr hgr
    obtain ⟨f0, f1, _⟩ := cel2F hfin
    exact bodyPost_ret (v := .agg #[.slice ao nn cp, .int .i64 nx]) (by simp [results, Try.results78, go_sem, f0, f1]) rfl ⟨ao, ([] : List TE), cp, nx, by rw [HNN.out], HT1.out.l17, by rw [HNN.out]; exact hro, hsr, hgr⟩
  · have hz1 : ¬ ((zs.length : Nat) : Int) = 0 := by omega
    obtain ⟨z, rest, rfl⟩ : ∃ z rest, zs = z :: rest := by
      cases zs with
      | nil => exact absurd rfl hz
      | cons z rest => exact ⟨z, rest, rfl⟩
    obtain ⟨g, rfl⟩ : ∃ g, ao = some ⟨g, 0, none⟩ := by
      rcases HT1.out.row.2 with ⟨e, e2⟩ | ⟨g, cap2, cur, hv, _⟩
      · exact absurd e2 (by simp)
      · injection hv with e1
        exact ⟨g, e1⟩
    go_wp2_with fail
    refine (src_one B0 a len cap 5 U1 HT1.out.src (by omega)).mono ?_
    rintro e U2 ⟨t1, rfl, hs2, hg2⟩
    have HT2 : Hid (TX B0 a len cap w p (some ⟨g, 0, none⟩) (z :: rest) cp nx U2) := HT1.out.step hs2 hg2
    clear hs2 hg2 HT1 q0 q1 qf hlb
    cases t1
    · skip
      obtain ⟨nn, hnn⟩ : ∃ nn, (z :: rest).length = nn := ⟨_, rfl⟩
      have HNN : Hid ((z :: rest).length = nn) := hnn
      obtain ⟨q0, q1, qf⟩ := cel2F HT2.out.box
      obtain ⟨t0, t1, tf⟩ := cel2F HT2.out.rbox
      have hlr := (Array.getElem?_eq_some_iff.1 HT2.out.rbox).1
      have hlb := (Array.getElem?_eq_some_iff.1 HT2.out.box).1
      rw [hnn] at q0
      clear hnn
      go_wp2
      obtain ⟨hfin, hro, hsr, hgr⟩ := HT2.out.end rfl
      rw [HNN.out] at hfin hro hsr hgr
      obtain ⟨f0, f1, _⟩ := cel2F hfin
      exact bodyPost_ret (v := .agg #[.slice (some ⟨g, 0, none⟩) nn cp, .int .i64 nx]) (by simp [results, Try.results78, go_sem, f0, f1]) rfl ⟨(some ⟨g, 0, none⟩), (z :: rest), cp, nx, by rw [HNN.out], HT2.out.l17, by rw [HNN.out]; exact hro, hsr, hgr⟩
    · go_wp2_with fail
      refine (src_n B0 a len cap 5 U2 HT2.out.src (by omega)).mono ?_
      rintro e U3 ⟨k5, rfl, k50, k51, hs3, hg3⟩
      have HT3 : Hid (TX B0 a len cap w p (some ⟨g, 0, none⟩) (z :: rest) cp nx U3) := HT2.out.step hs3 hg3
      clear hs3 hg3 HT2
      obtain ⟨c0, c1, c2, c3, c4, cf⟩ := first_cells HT3.out.row
      obtain ⟨q0, q1, qf⟩ := cel2F HT3.out.box
      have hlb := (Array.getElem?_eq_some_iff.1 HT3.out.box).1
      have hlg := (HT3.out.row.lt g rfl).2
      have hgp : g ≠ p := fun q => HT3.out.ne (by rw [q]; rfl)
      have hn1 : (0 : Int) < (((z :: rest).length : Nat) : Int) := by simp
      obtain rfl | rfl | rfl | rfl | rfl : k5 = 0 ∨ k5 = 1 ∨ k5 = 2 ∨ k5 = 3 ∨ k5 = 4 := by omega
      · clear c0 c1 c2 c3 c4 cf
        have HS9 : Hid (SrcOk U3 B0 a len cap) := HT3.out.src
        have HG9 : Hid (w.grownBy U3 (some B0)) := HT3.out.gr
        have HSa : Hid (SrcOk (U3.alloc (.cells #[.int .i64 (-1), .int .i64 16, .int .i64 15] 2)) B0 a len cap) := HS9.out.far (World.grownBy_alloc _ _ none)
        have HGa : Hid (w.grownBy (U3.alloc (.cells #[.int .i64 (-1), .int .i64 16, .int .i64 15] 2)) (some B0)) := Lib.grownBy_trans HG9.out gAl
        have hPx : B0 < U3.heap.size := by have := HG9.out.size; omega
        go_wp2_with fail
        refine (src_n B0 a len cap 3 (U3.alloc (.cells #[.int .i64 (-1), .int .i64 16, .int .i64 15] 2)) HSa.out (by omega)).mono ?_
        rintro e X1 ⟨q9, rfl, q90, q91, hsV, hgV⟩
        obtain ⟨Q9, rfl⟩ := Int.eq_ofNat_of_zero_le q90
        have hQ9 : Q9 < 3 := by omega
        have hQ91 : (Q9 : Int) < 3 := by omega
        obtain ⟨y9, hy9, hy9lo, hy9hi, hy9m⟩ := lit_draw (C := [-1, 16, 15]) (lo := -1) (hi := 16) hPx hgV Q9 hQ9 (by unfold inB; decide)
        have HSX : Hid (SrcOk X1 B0 a len cap) := hsV
        have hgV9 : Hid _ := hgV
        have HGX : Hid (w.grownBy X1 (some B0)) := Lib.grownBy_trans HGa.out hgV
        clear hsV hgV HSa HGa HS9 HG9 q91 q90
        have HT5 : Hid (TX B0 a len cap w p (some ⟨g, 0, none⟩) (z :: rest) cp nx X1) := (HT3.out.step (HT3.out.src.far (World.grownBy_alloc _ (.cells #[.int .i64 (-1), .int .i64 16, .int .i64 15] 2) none)) gAl).step HSX.out (lit_gr hgV9.out)
        obtain ⟨d0, d1, df⟩ := cel2F HT5.out.box
        have hld := (Array.getElem?_eq_some_iff.1 HT5.out.box).1
        have HT6 : Hid _ := HT5.out.nx y9
        clear q0 q1 qf hlb HT3
        go_upto_region 15 with fail
        generalize X1.setCell ⟨p, 1, none⟩ (.int .i64 y9) = X2 at *
        clear d0 d1 df hld HT5
        obtain ⟨nn, hnn⟩ : ∃ nn, (z :: rest).length = nn := ⟨_, rfl⟩
        have HNN : Hid ((z :: rest).length = nn) := hnn
        obtain ⟨q0, q1, qf⟩ := cel2F HT6.out.box
        obtain ⟨t0, t1, tf⟩ := cel2F HT6.out.rbox
        have hlr := (Array.getElem?_eq_some_iff.1 HT6.out.rbox).1
        have hlb := (Array.getElem?_eq_some_iff.1 HT6.out.box).1
        rw [hnn] at q0
        clear hnn
        go_wp2
        obtain ⟨hfin, hro, hsr, hgr⟩ := HT6.out.end rfl
        rw [HNN.out] at hfin hro hsr hgr
        obtain ⟨f0, f1, _⟩ := cel2F hfin
        exact bodyPost_ret (v := .agg #[.slice (some ⟨g, 0, none⟩) nn cp, .int .i64 y9]) (by simp [results, Try.results78, go_sem, f0, f1]) rfl ⟨(some ⟨g, 0, none⟩), (z :: rest), cp, y9, by rw [HNN.out], HT6.out.l17, by rw [HNN.out]; exact hro, hsr, hgr⟩
      · clear c0 c1 c2 c3 c4 cf q0 q1 qf
        go_upto_region 8 with fail
        have HT4 : Hid (TX B0 a len cap w p (some ⟨g, 0, none⟩) (z :: rest) cp nx U3.drew) := HT3.out.step (HT3.out.src.bel (Below.refl _ _).drew) (gbel (World.grownBy.refl _ _) (Below.refl _ _).drew)
        obtain ⟨nn, hnn⟩ : ∃ nn, (z :: rest).length = nn := ⟨_, rfl⟩
        have HNN : Hid ((z :: rest).length = nn) := hnn
        rw [hnn] at hn1
        clear hnn hlb hlg
        refine wp_region_held (S := fun _ => True) (by kernel_rfl) ?_
        change wpAnyH _ _ _ _ _ _ _ _ (World.drew _)
        clear HT3
        generalize World.drew U3 = s3 at *
        refine wpAnyH_take (i := 0) (v := .pointer (some ⟨p, 0, none⟩)) rfl (by kernel_rfl) (by kernel_rfl) (by kernel_rfl) (fun _ _ _ h => h) (Or.inl ⟨by rfl, fun w9 _ => ?_⟩) trivial ?_
        · go_simp
        refine wpAnyH_take (i := 2) (v := .pointer (some ⟨p, 0, none⟩)) rfl (by kernel_rfl) (by kernel_rfl) (by kernel_rfl) (fun _ _ _ h => h) (Or.inl ⟨by rfl, fun w9 _ => ?_⟩) trivial ?_
        · go_simp
        refine wpAnyH_all (rs := [1, 3]) (by kernel_rfl) (by simp) (all_two (held_step rfl (by rfl) fun K hK => ?_) (held_step rfl (by rfl) fun K hK => ?_))
        · have q0 := (cel2F HT4.out.box).1
          rw [HNN.out] at q0
          go_simp
          refine hK _ _ trivial ?_
          clear hK K
          clear q0
          refine wpAnyH_all (rs := [3]) (by kernel_rfl) (by simp) (all_one (held_step rfl (by rfl) fun K hK => ?_))
          have q0 := (cel2F HT4.out.box).1
          rw [HNN.out] at q0
          go_simp
          refine hK _ _ trivial ?_
          clear hK K
          clear q0
          refine wpAnyH_take (i := 4) (v := .pointer (some ⟨g, 0, none⟩)) rfl (by kernel_rfl) (by kernel_rfl) (by kernel_rfl) (fun _ _ _ h => h) (Or.inl ⟨by rfl, fun w9 _ => ?_⟩) trivial ?_
          · (go_simp; try (intro h0; exfalso; omega))
          refine wpAnyH_all (rs := [5]) (by kernel_rfl) (by simp) (all_one (held_step rfl (by rfl) fun K hK => ?_))
          obtain ⟨c0, c1, c2, c3, c4, cf⟩ := first_cells HT4.out.row
          go_simp
          refine hK _ _ trivial ?_
          clear hK K
          clear c0 c1 c2 c3 c4 cf
          refine wpAnyH_all (rs := [6]) (by kernel_rfl) (by simp) (all_one (held_step rfl (by rfl) fun K hK => ?_))
          have HTX : Hid (TX B0 a len cap w p (some ⟨g, 0, none⟩) (z :: rest) cp nx (s3.alloc (.cells #[.int .i64 z.asid, .int .i64 z.page, .int .i64 z.frame, .int .i64 z.flags, .bool z.large] 66))) := HT4.out.step (HT4.out.src.far (World.grownBy_alloc _ _ none)) gAl
          have HXC : Hid ((s3.alloc (.cells #[.int .i64 z.asid, .int .i64 z.page, .int .i64 z.frame, .int .i64 z.flags, .bool z.large] 66)).heap[s3.heap.size]? = some (.cells #[.int .i64 z.asid, .int .i64 z.page, .int .i64 z.frame, .int .i64 z.flags, .bool z.large] 66 (0, 0))) := (MapKept.heap_alloc s3 _).1
          go_simp
          refine hK _ _ trivial ?_
          clear hK K
          generalize s3.alloc (.cells #[.int .i64 z.asid, .int .i64 z.page, .int .i64 z.frame, .int .i64 z.flags, .bool z.large] 66) = X at *
          refine wpAnyH_all (rs := [7]) (by kernel_rfl) (by simp) (all_one (held_step rfl (by rfl) fun K hK => ?_))
          have HA : Hid _ := appN (z := z) HNN.out HTX.out.row HXC.out l16 (by have h1 := HTX.out.gr.size; have h2 := HTX.out.lo; have h3 := (Array.getElem?_eq_some_iff.1 HTX.out.box).1; omega)
          refine wp_append_ex _ _ _ 59 rfl (.slice (some ⟨g, 0, none⟩) nn cp) (.slice (some ⟨s3.heap.size, 0, none⟩) 1 1) rfl rfl HA.out ?_
          rintro v9 W5 ⟨ho, hg, hd⟩
          obtain ⟨ao2, cp2, he9⟩ := te_sl ho
          subst he9
          have HTY : Hid (TX B0 a len cap w p ao2 ((z :: rest) ++ [z]) cp2 nx (W5.setCell ⟨p, 0, none⟩ (.slice ao2 (nn + 1) cp2))) := HTX.out.appN HNN.out l16 ho hg hd
          have hbx : Hid (W5.heap[p]? = some (.cells #[.slice (some ⟨g, 0, none⟩) nn cp, .int .i64 nx] 61 (0, 0))) := (show _ = _ by rw [← HNN.out]; exact (hg.block p (Array.getElem?_eq_some_iff.1 HTX.out.box).1 (by simp; omega)).trans HTX.out.box)
          clear ho hg hd
          refine hK _ _ trivial ?_
          clear hK K
          refine wpAnyH_take (i := 8) (v := .pointer (some ⟨p, 0, none⟩)) rfl (by kernel_rfl) (by kernel_rfl) (by kernel_rfl) (fun _ _ _ h => h) (Or.inl ⟨by rfl, fun w9 _ => ?_⟩) trivial ?_
          · go_simp
          refine wpAnyH_all (rs := [9]) (by kernel_rfl) (by simp) (all_one (held_step rfl (by rfl) fun K hK => ?_))
          obtain ⟨b0, b1, bf⟩ := cel2F hbx.out
          have hlb2 := (Array.getElem?_eq_some_iff.1 hbx.out).1
          go_simp
          refine hK _ _ trivial ?_
          clear hK K
          clear b0 b1 bf hlb2 hbx
          refine wpAnyH_done (by kernel_rfl) ?_ _
          go_simp
          clear HNN HA HTX HXC hn1 hgp
          generalize W5.setCell ⟨p, 0, none⟩ (.slice ao2 (nn + 1) cp2) = U4 at *
          obtain ⟨nn, hnn⟩ : ∃ nn, ((z :: rest) ++ [z]).length = nn := ⟨_, rfl⟩
          have HNN : Hid (((z :: rest) ++ [z]).length = nn) := hnn
          obtain ⟨q0, q1, qf⟩ := cel2F HTY.out.box
          obtain ⟨t0, t1, tf⟩ := cel2F HTY.out.rbox
          have hlr := (Array.getElem?_eq_some_iff.1 HTY.out.rbox).1
          have hlb := (Array.getElem?_eq_some_iff.1 HTY.out.box).1
          rw [hnn] at q0
          clear hnn
          go_wp2
          obtain ⟨hfin, hro, hsr, hgr⟩ := HTY.out.end rfl
          rw [HNN.out] at hfin hro hsr hgr
          obtain ⟨f0, f1, _⟩ := cel2F hfin
          exact bodyPost_ret (v := .agg #[.slice ao2 nn cp2, .int .i64 nx]) (by simp [results, Try.results78, go_sem, f0, f1]) rfl ⟨ao2, ((z :: rest) ++ [z]), cp2, nx, by rw [HNN.out], HTY.out.l17, by rw [HNN.out]; exact hro, hsr, hgr⟩
        · have q0 := (cel2F HT4.out.box).1
          rw [HNN.out] at q0
          go_simp
          refine hK _ _ trivial ?_
          clear hK K
          clear q0
          refine wpAnyH_take (i := 4) (v := .pointer (some ⟨g, 0, none⟩)) rfl (by kernel_rfl) (by kernel_rfl) (by kernel_rfl) (fun _ _ _ h => h) (Or.inl ⟨by rfl, fun w9 _ => ?_⟩) trivial ?_
          · (go_simp; try (intro h0; exfalso; omega))
          refine wpAnyH_all (rs := [1, 5]) (by kernel_rfl) (by simp) (all_two (held_step rfl (by rfl) fun K hK => ?_) (held_step rfl (by rfl) fun K hK => ?_))
          · have q0 := (cel2F HT4.out.box).1
            rw [HNN.out] at q0
            go_simp
            refine hK _ _ trivial ?_
            clear hK K
            clear q0
            refine wpAnyH_all (rs := [5]) (by kernel_rfl) (by simp) (all_one (held_step rfl (by rfl) fun K hK => ?_))
            obtain ⟨c0, c1, c2, c3, c4, cf⟩ := first_cells HT4.out.row
            go_simp
            refine hK _ _ trivial ?_
            clear hK K
            clear c0 c1 c2 c3 c4 cf
            refine wpAnyH_all (rs := [6]) (by kernel_rfl) (by simp) (all_one (held_step rfl (by rfl) fun K hK => ?_))
            have HTX : Hid (TX B0 a len cap w p (some ⟨g, 0, none⟩) (z :: rest) cp nx (s3.alloc (.cells #[.int .i64 z.asid, .int .i64 z.page, .int .i64 z.frame, .int .i64 z.flags, .bool z.large] 66))) := HT4.out.step (HT4.out.src.far (World.grownBy_alloc _ _ none)) gAl
            have HXC : Hid ((s3.alloc (.cells #[.int .i64 z.asid, .int .i64 z.page, .int .i64 z.frame, .int .i64 z.flags, .bool z.large] 66)).heap[s3.heap.size]? = some (.cells #[.int .i64 z.asid, .int .i64 z.page, .int .i64 z.frame, .int .i64 z.flags, .bool z.large] 66 (0, 0))) := (MapKept.heap_alloc s3 _).1
            go_simp
            refine hK _ _ trivial ?_
            clear hK K
            generalize s3.alloc (.cells #[.int .i64 z.asid, .int .i64 z.page, .int .i64 z.frame, .int .i64 z.flags, .bool z.large] 66) = X at *
            refine wpAnyH_all (rs := [7]) (by kernel_rfl) (by simp) (all_one (held_step rfl (by rfl) fun K hK => ?_))
            have HA : Hid _ := appN (z := z) HNN.out HTX.out.row HXC.out l16 (by have h1 := HTX.out.gr.size; have h2 := HTX.out.lo; have h3 := (Array.getElem?_eq_some_iff.1 HTX.out.box).1; omega)
            refine wp_append_ex _ _ _ 59 rfl (.slice (some ⟨g, 0, none⟩) nn cp) (.slice (some ⟨s3.heap.size, 0, none⟩) 1 1) rfl rfl HA.out ?_
            rintro v9 W5 ⟨ho, hg, hd⟩
            obtain ⟨ao2, cp2, he9⟩ := te_sl ho
            subst he9
            have HTY : Hid (TX B0 a len cap w p ao2 ((z :: rest) ++ [z]) cp2 nx (W5.setCell ⟨p, 0, none⟩ (.slice ao2 (nn + 1) cp2))) := HTX.out.appN HNN.out l16 ho hg hd
            have hbx : Hid (W5.heap[p]? = some (.cells #[.slice (some ⟨g, 0, none⟩) nn cp, .int .i64 nx] 61 (0, 0))) := (show _ = _ by rw [← HNN.out]; exact (hg.block p (Array.getElem?_eq_some_iff.1 HTX.out.box).1 (by simp; omega)).trans HTX.out.box)
            clear ho hg hd
            refine hK _ _ trivial ?_
            clear hK K
            refine wpAnyH_take (i := 8) (v := .pointer (some ⟨p, 0, none⟩)) rfl (by kernel_rfl) (by kernel_rfl) (by kernel_rfl) (fun _ _ _ h => h) (Or.inl ⟨by rfl, fun w9 _ => ?_⟩) trivial ?_
            · go_simp
            refine wpAnyH_all (rs := [9]) (by kernel_rfl) (by simp) (all_one (held_step rfl (by rfl) fun K hK => ?_))
            obtain ⟨b0, b1, bf⟩ := cel2F hbx.out
            have hlb2 := (Array.getElem?_eq_some_iff.1 hbx.out).1
            go_simp
            refine hK _ _ trivial ?_
            clear hK K
            clear b0 b1 bf hlb2 hbx
            refine wpAnyH_done (by kernel_rfl) ?_ _
            go_simp
            clear HNN HA HTX HXC hn1 hgp
            generalize W5.setCell ⟨p, 0, none⟩ (.slice ao2 (nn + 1) cp2) = U4 at *
            obtain ⟨nn, hnn⟩ : ∃ nn, ((z :: rest) ++ [z]).length = nn := ⟨_, rfl⟩
            have HNN : Hid (((z :: rest) ++ [z]).length = nn) := hnn
            obtain ⟨q0, q1, qf⟩ := cel2F HTY.out.box
            obtain ⟨t0, t1, tf⟩ := cel2F HTY.out.rbox
            have hlr := (Array.getElem?_eq_some_iff.1 HTY.out.rbox).1
            have hlb := (Array.getElem?_eq_some_iff.1 HTY.out.box).1
            rw [hnn] at q0
            clear hnn
            go_wp2
            obtain ⟨hfin, hro, hsr, hgr⟩ := HTY.out.end rfl
            rw [HNN.out] at hfin hro hsr hgr
            obtain ⟨f0, f1, _⟩ := cel2F hfin
            exact bodyPost_ret (v := .agg #[.slice ao2 nn cp2, .int .i64 nx]) (by simp [results, Try.results78, go_sem, f0, f1]) rfl ⟨ao2, ((z :: rest) ++ [z]), cp2, nx, by rw [HNN.out], HTY.out.l17, by rw [HNN.out]; exact hro, hsr, hgr⟩
          · obtain ⟨c0, c1, c2, c3, c4, cf⟩ := first_cells HT4.out.row
            go_simp
            refine hK _ _ trivial ?_
            clear hK K
            clear c0 c1 c2 c3 c4 cf
            refine wpAnyH_all (rs := [1, 6]) (by kernel_rfl) (by simp) (all_two (held_step rfl (by rfl) fun K hK => ?_) (held_step rfl (by rfl) fun K hK => ?_))
            · have q0 := (cel2F HT4.out.box).1
              rw [HNN.out] at q0
              go_simp
              refine hK _ _ trivial ?_
              clear hK K
              clear q0
              refine wpAnyH_all (rs := [6]) (by kernel_rfl) (by simp) (all_one (held_step rfl (by rfl) fun K hK => ?_))
              have HTX : Hid (TX B0 a len cap w p (some ⟨g, 0, none⟩) (z :: rest) cp nx (s3.alloc (.cells #[.int .i64 z.asid, .int .i64 z.page, .int .i64 z.frame, .int .i64 z.flags, .bool z.large] 66))) := HT4.out.step (HT4.out.src.far (World.grownBy_alloc _ _ none)) gAl
              have HXC : Hid ((s3.alloc (.cells #[.int .i64 z.asid, .int .i64 z.page, .int .i64 z.frame, .int .i64 z.flags, .bool z.large] 66)).heap[s3.heap.size]? = some (.cells #[.int .i64 z.asid, .int .i64 z.page, .int .i64 z.frame, .int .i64 z.flags, .bool z.large] 66 (0, 0))) := (MapKept.heap_alloc s3 _).1
              go_simp
              refine hK _ _ trivial ?_
              clear hK K
              generalize s3.alloc (.cells #[.int .i64 z.asid, .int .i64 z.page, .int .i64 z.frame, .int .i64 z.flags, .bool z.large] 66) = X at *
              refine wpAnyH_all (rs := [7]) (by kernel_rfl) (by simp) (all_one (held_step rfl (by rfl) fun K hK => ?_))
              have HA : Hid _ := appN (z := z) HNN.out HTX.out.row HXC.out l16 (by have h1 := HTX.out.gr.size; have h2 := HTX.out.lo; have h3 := (Array.getElem?_eq_some_iff.1 HTX.out.box).1; omega)
              refine wp_append_ex _ _ _ 59 rfl (.slice (some ⟨g, 0, none⟩) nn cp) (.slice (some ⟨s3.heap.size, 0, none⟩) 1 1) rfl rfl HA.out ?_
              rintro v9 W5 ⟨ho, hg, hd⟩
              obtain ⟨ao2, cp2, he9⟩ := te_sl ho
              subst he9
              have HTY : Hid (TX B0 a len cap w p ao2 ((z :: rest) ++ [z]) cp2 nx (W5.setCell ⟨p, 0, none⟩ (.slice ao2 (nn + 1) cp2))) := HTX.out.appN HNN.out l16 ho hg hd
              have hbx : Hid (W5.heap[p]? = some (.cells #[.slice (some ⟨g, 0, none⟩) nn cp, .int .i64 nx] 61 (0, 0))) := (show _ = _ by rw [← HNN.out]; exact (hg.block p (Array.getElem?_eq_some_iff.1 HTX.out.box).1 (by simp; omega)).trans HTX.out.box)
              clear ho hg hd
              refine hK _ _ trivial ?_
              clear hK K
              refine wpAnyH_take (i := 8) (v := .pointer (some ⟨p, 0, none⟩)) rfl (by kernel_rfl) (by kernel_rfl) (by kernel_rfl) (fun _ _ _ h => h) (Or.inl ⟨by rfl, fun w9 _ => ?_⟩) trivial ?_
              · go_simp
              refine wpAnyH_all (rs := [9]) (by kernel_rfl) (by simp) (all_one (held_step rfl (by rfl) fun K hK => ?_))
              obtain ⟨b0, b1, bf⟩ := cel2F hbx.out
              have hlb2 := (Array.getElem?_eq_some_iff.1 hbx.out).1
              go_simp
              refine hK _ _ trivial ?_
              clear hK K
              clear b0 b1 bf hlb2 hbx
              refine wpAnyH_done (by kernel_rfl) ?_ _
              go_simp
              clear HNN HA HTX HXC hn1 hgp
              generalize W5.setCell ⟨p, 0, none⟩ (.slice ao2 (nn + 1) cp2) = U4 at *
              obtain ⟨nn, hnn⟩ : ∃ nn, ((z :: rest) ++ [z]).length = nn := ⟨_, rfl⟩
              have HNN : Hid (((z :: rest) ++ [z]).length = nn) := hnn
              obtain ⟨q0, q1, qf⟩ := cel2F HTY.out.box
              obtain ⟨t0, t1, tf⟩ := cel2F HTY.out.rbox
              have hlr := (Array.getElem?_eq_some_iff.1 HTY.out.rbox).1
              have hlb := (Array.getElem?_eq_some_iff.1 HTY.out.box).1
              rw [hnn] at q0
              clear hnn
              go_wp2
              obtain ⟨hfin, hro, hsr, hgr⟩ := HTY.out.end rfl
              rw [HNN.out] at hfin hro hsr hgr
              obtain ⟨f0, f1, _⟩ := cel2F hfin
              exact bodyPost_ret (v := .agg #[.slice ao2 nn cp2, .int .i64 nx]) (by simp [results, Try.results78, go_sem, f0, f1]) rfl ⟨ao2, ((z :: rest) ++ [z]), cp2, nx, by rw [HNN.out], HTY.out.l17, by rw [HNN.out]; exact hro, hsr, hgr⟩
            · have HTX : Hid (TX B0 a len cap w p (some ⟨g, 0, none⟩) (z :: rest) cp nx (s3.alloc (.cells #[.int .i64 z.asid, .int .i64 z.page, .int .i64 z.frame, .int .i64 z.flags, .bool z.large] 66))) := HT4.out.step (HT4.out.src.far (World.grownBy_alloc _ _ none)) gAl
              have HXC : Hid ((s3.alloc (.cells #[.int .i64 z.asid, .int .i64 z.page, .int .i64 z.frame, .int .i64 z.flags, .bool z.large] 66)).heap[s3.heap.size]? = some (.cells #[.int .i64 z.asid, .int .i64 z.page, .int .i64 z.frame, .int .i64 z.flags, .bool z.large] 66 (0, 0))) := (MapKept.heap_alloc s3 _).1
              go_simp
              refine hK _ _ trivial ?_
              clear hK K
              generalize s3.alloc (.cells #[.int .i64 z.asid, .int .i64 z.page, .int .i64 z.frame, .int .i64 z.flags, .bool z.large] 66) = X at *
              refine wpAnyH_all (rs := [1]) (by kernel_rfl) (by simp) (all_one (held_step rfl (by rfl) fun K hK => ?_))
              have q0 := (cel2F HTX.out.box).1
              rw [HNN.out] at q0
              go_simp
              refine hK _ _ trivial ?_
              clear hK K
              clear q0
              refine wpAnyH_all (rs := [7]) (by kernel_rfl) (by simp) (all_one (held_step rfl (by rfl) fun K hK => ?_))
              have HA : Hid _ := appN (z := z) HNN.out HTX.out.row HXC.out l16 (by have h1 := HTX.out.gr.size; have h2 := HTX.out.lo; have h3 := (Array.getElem?_eq_some_iff.1 HTX.out.box).1; omega)
              refine wp_append_ex _ _ _ 59 rfl (.slice (some ⟨g, 0, none⟩) nn cp) (.slice (some ⟨s3.heap.size, 0, none⟩) 1 1) rfl rfl HA.out ?_
              rintro v9 W5 ⟨ho, hg, hd⟩
              obtain ⟨ao2, cp2, he9⟩ := te_sl ho
              subst he9
              have HTY : Hid (TX B0 a len cap w p ao2 ((z :: rest) ++ [z]) cp2 nx (W5.setCell ⟨p, 0, none⟩ (.slice ao2 (nn + 1) cp2))) := HTX.out.appN HNN.out l16 ho hg hd
              have hbx : Hid (W5.heap[p]? = some (.cells #[.slice (some ⟨g, 0, none⟩) nn cp, .int .i64 nx] 61 (0, 0))) := (show _ = _ by rw [← HNN.out]; exact (hg.block p (Array.getElem?_eq_some_iff.1 HTX.out.box).1 (by simp; omega)).trans HTX.out.box)
              clear ho hg hd
              refine hK _ _ trivial ?_
              clear hK K
              refine wpAnyH_take (i := 8) (v := .pointer (some ⟨p, 0, none⟩)) rfl (by kernel_rfl) (by kernel_rfl) (by kernel_rfl) (fun _ _ _ h => h) (Or.inl ⟨by rfl, fun w9 _ => ?_⟩) trivial ?_
              · go_simp
              refine wpAnyH_all (rs := [9]) (by kernel_rfl) (by simp) (all_one (held_step rfl (by rfl) fun K hK => ?_))
              obtain ⟨b0, b1, bf⟩ := cel2F hbx.out
              have hlb2 := (Array.getElem?_eq_some_iff.1 hbx.out).1
              go_simp
              refine hK _ _ trivial ?_
              clear hK K
              clear b0 b1 bf hlb2 hbx
              refine wpAnyH_done (by kernel_rfl) ?_ _
              go_simp
              clear HNN HA HTX HXC hn1 hgp
              generalize W5.setCell ⟨p, 0, none⟩ (.slice ao2 (nn + 1) cp2) = U4 at *
              obtain ⟨nn, hnn⟩ : ∃ nn, ((z :: rest) ++ [z]).length = nn := ⟨_, rfl⟩
              have HNN : Hid (((z :: rest) ++ [z]).length = nn) := hnn
              obtain ⟨q0, q1, qf⟩ := cel2F HTY.out.box
              obtain ⟨t0, t1, tf⟩ := cel2F HTY.out.rbox
              have hlr := (Array.getElem?_eq_some_iff.1 HTY.out.rbox).1
              have hlb := (Array.getElem?_eq_some_iff.1 HTY.out.box).1
              rw [hnn] at q0
              clear hnn
              go_wp2
              obtain ⟨hfin, hro, hsr, hgr⟩ := HTY.out.end rfl
              rw [HNN.out] at hfin hro hsr hgr
              obtain ⟨f0, f1, _⟩ := cel2F hfin
              exact bodyPost_ret (v := .agg #[.slice ao2 nn cp2, .int .i64 nx]) (by simp [results, Try.results78, go_sem, f0, f1]) rfl ⟨ao2, ((z :: rest) ++ [z]), cp2, nx, by rw [HNN.out], HTY.out.l17, by rw [HNN.out]; exact hro, hsr, hgr⟩
      · have HT4 : Hid (TX B0 a len cap w p (some ⟨g, 0, none⟩) ({ z with asid := 256 } :: rest) cp nx (U3.setCell ⟨g, 0, none⟩ (.int .i64 256))) := HT3.out.first 0 (.int .i64 256) ({ z with asid := 256 } :: rest) rfl rfl
        go_upto_region 15 with fail
        generalize U3.setCell ⟨g, 0, none⟩ (.int .i64 256) = U4 at *
        clear c0 c1 c2 c3 c4 cf q0 q1 qf hlb hlg HT3
        obtain ⟨nn, hnn⟩ : ∃ nn, ({ z with asid := 256 } :: rest).length = nn := ⟨_, rfl⟩
        have HNN : Hid (({ z with asid := 256 } :: rest).length = nn) := hnn
        obtain ⟨q0, q1, qf⟩ := cel2F HT4.out.box
        obtain ⟨t0, t1, tf⟩ := cel2F HT4.out.rbox
        have hlr := (Array.getElem?_eq_some_iff.1 HT4.out.rbox).1
        have hlb := (Array.getElem?_eq_some_iff.1 HT4.out.box).1
        rw [hnn] at q0
        clear hnn
        go_wp2
        obtain ⟨hfin, hro, hsr, hgr⟩ := HT4.out.end rfl
        rw [HNN.out] at hfin hro hsr hgr
        obtain ⟨f0, f1, _⟩ := cel2F hfin
        exact bodyPost_ret (v := .agg #[.slice (some ⟨g, 0, none⟩) nn cp, .int .i64 nx]) (by simp [results, Try.results78, go_sem, f0, f1]) rfl ⟨(some ⟨g, 0, none⟩), ({ z with asid := 256 } :: rest), cp, nx, by rw [HNN.out], HT4.out.l17, by rw [HNN.out]; exact hro, hsr, hgr⟩
      · have HSB : Hid (∀ w' : World, w'.heap[p]? = some (.cells #[.slice (some ⟨g, 0, none⟩) (z :: rest).length cp, .int .i64 nx] 61 (0, 0)) → w'.cell? ⟨p, 0, none⟩ = some (.slice (some ⟨g, 0, none⟩) (z :: rest).length cp) ∧ w'.cell? ⟨p, 1, none⟩ = some (.int .i64 nx)) := fun w' hW => by
          obtain ⟨b0, b1, _⟩ := cel2F hW
          exact ⟨b0, b1⟩
        clear c0 c1 c2 c3 c4 cf q0 q1 qf
        go_upto_region 12 with fail
        have HT4 : Hid (TX B0 a len cap w p (some ⟨g, 0, none⟩) (z :: rest) cp nx U3.drew) := HT3.out.step (HT3.out.src.bel (Below.refl _ _).drew) (gbel (World.grownBy.refl _ _) (Below.refl _ _).drew)
        refine wp_region_held (S := fun w' => w'.cell? ⟨p, 0, none⟩ = some (.slice (some ⟨g, 0, none⟩) (z :: rest).length cp) ∧ w'.cell? ⟨p, 1, none⟩ = some (.int .i64 nx)) (by kernel_rfl) ?_
        change wpAnyH _ _ _ _ _ _ _ _ (World.drew _)
        clear HT3 hlb hlg
        generalize World.drew U3 = s3 at *
        refine wpAnyH_take (i := 0) (v := .pointer (some ⟨p, 0, none⟩)) rfl (by kernel_rfl) (by kernel_rfl) (by kernel_rfl) (fun _ _ _ h => h) (Or.inl ⟨by rfl, fun w9 _ => ?_⟩) (HSB.out _ HT4.out.box) ?_
        · go_simp
        refine wpAnyH_take (i := 1) (v := .slice (some ⟨g, 0, none⟩) (z :: rest).length cp) rfl (by kernel_rfl) (by kernel_rfl) (by kernel_rfl) (fun _ _ _ h => h) (Or.inl ⟨by rfl, fun w9 h9 => ?_⟩) (HSB.out _ HT4.out.box) ?_
        · have h91 := h9.1
          go_simp
        refine wpAnyH_take (i := 2) (v := .pointer (some ⟨B0, 0, none⟩)) rfl (by kernel_rfl) (by kernel_rfl) (by kernel_rfl) (fun _ _ _ h => h) (Or.inl ⟨by rfl, fun w9 _ => ?_⟩) (HSB.out _ HT4.out.box) ?_
        · go_simp
        refine wpAnyH_all (rs := [3]) (by kernel_rfl) (by simp) (all_one (held_step rfl (by rfl) fun K hK => ?_))
        have HAH : Hid _ := src_n B0 a len cap 2 s3 HT4.out.src (by omega)
        go_simp
        refine Calls.mono HAH.out ?_
        clear HAH
        rintro e9 W1 ⟨q9, rfl, q90, q91, hs9, hg9⟩
        have HT5 : Hid (TX B0 a len cap w p (some ⟨g, 0, none⟩) (z :: rest) cp nx W1) := HT4.out.step hs9 hg9
        clear hs9 hg9 HT4
        refine hK _ _ (HSB.out _ HT5.out.box) ?_
        clear hK K
        refine wpAnyH_take (i := 4) (v := .int .i64 (1024 - q9)) rfl (by kernel_rfl) (by kernel_rfl) (by kernel_rfl) (fun _ _ _ h => h) (Or.inl ⟨by rfl, fun w9 _ => ?_⟩) (HSB.out _ HT5.out.box) ?_
        · go_simp
          first | omega | (rw [IntKind.wrap_i64]; omega)
        refine wpAnyH_take (i := 5) (v := .pointer (some ⟨g, 0, none⟩)) rfl (by kernel_rfl) (by kernel_rfl) (by kernel_rfl) (fun _ _ _ h => h) (Or.inl ⟨by rfl, fun w9 _ => ?_⟩) (HSB.out _ HT5.out.box) ?_
        · go_simp
        refine wpAnyH_take (i := 6) (v := .pointer (some ⟨g, 1, none⟩)) rfl (by kernel_rfl) (by kernel_rfl) (by kernel_rfl) (fun _ _ _ h => h) (Or.inl ⟨by rfl, fun w9 _ => ?_⟩) (HSB.out _ HT5.out.box) ?_
        · go_simp
        refine wpAnyH_all (rs := [7]) (by kernel_rfl) (by simp) (all_one (held_step rfl (by rfl) fun K hK => ?_))
        obtain ⟨c0, c1, c2, c3, c4, cf⟩ := first_cells HT5.out.row
        have hlg := (HT5.out.row.lt g rfl).2
        have HT6 : Hid (TX B0 a len cap w p (some ⟨g, 0, none⟩) ({ z with page := 1024 - q9 } :: rest) cp nx (W1.setCell ⟨g, 1, none⟩ (.int .i64 (1024 - q9)))) := HT5.out.first 1 (.int .i64 (1024 - q9)) ({ z with page := 1024 - q9 } :: rest) rfl rfl
        go_simp
        refine hK _ _ (HSB.out _ HT6.out.box) ?_
        clear hK K HSB c0 c1 c2 c3 c4 cf hlg HT5
        refine wpAnyH_done (by kernel_rfl) ?_ _
        go_simp
        generalize W1.setCell ⟨g, 1, none⟩ (.int .i64 (1024 - q9)) = U4 at *
        obtain ⟨nn, hnn⟩ : ∃ nn, ({ z with page := 1024 - q9 } :: rest).length = nn := ⟨_, rfl⟩
        have HNN : Hid (({ z with page := 1024 - q9 } :: rest).length = nn) := hnn
        obtain ⟨q0, q1, qf⟩ := cel2F HT6.out.box
        obtain ⟨t0, t1, tf⟩ := cel2F HT6.out.rbox
        have hlr := (Array.getElem?_eq_some_iff.1 HT6.out.rbox).1
        have hlb := (Array.getElem?_eq_some_iff.1 HT6.out.box).1
        rw [hnn] at q0
        clear hnn
        go_wp2
        obtain ⟨hfin, hro, hsr, hgr⟩ := HT6.out.end rfl
        rw [HNN.out] at hfin hro hsr hgr
        obtain ⟨f0, f1, _⟩ := cel2F hfin
        exact bodyPost_ret (v := .agg #[.slice (some ⟨g, 0, none⟩) nn cp, .int .i64 nx]) (by simp [results, Try.results78, go_sem, f0, f1]) rfl ⟨(some ⟨g, 0, none⟩), ({ z with page := 1024 - q9 } :: rest), cp, nx, by rw [HNN.out], HT6.out.l17, by rw [HNN.out]; exact hro, hsr, hgr⟩
      · have HT4 : Hid (TX B0 a len cap w p (some ⟨g, 0, none⟩) ({ z with large := true } :: rest) cp nx (U3.setCell ⟨g, 4, none⟩ (.bool true))) := HT3.out.first 4 (.bool true) ({ z with large := true } :: rest) rfl rfl
        go_upto_region 15 with fail
        generalize U3.setCell ⟨g, 4, none⟩ (.bool true) = U4 at *
        clear c0 c1 c2 c3 c4 cf q0 q1 qf hlb hlg HT3
        obtain ⟨nn, hnn⟩ : ∃ nn, ({ z with large := true } :: rest).length = nn := ⟨_, rfl⟩
        have HNN : Hid (({ z with large := true } :: rest).length = nn) := hnn
        obtain ⟨q0, q1, qf⟩ := cel2F HT4.out.box
        obtain ⟨t0, t1, tf⟩ := cel2F HT4.out.rbox
        have hlr := (Array.getElem?_eq_some_iff.1 HT4.out.rbox).1
        have hlb := (Array.getElem?_eq_some_iff.1 HT4.out.box).1
        rw [hnn] at q0
        clear hnn
        go_wp2
        obtain ⟨hfin, hro, hsr, hgr⟩ := HT4.out.end rfl
        rw [HNN.out] at hfin hro hsr hgr
        obtain ⟨f0, f1, _⟩ := cel2F hfin
        exact bodyPost_ret (v := .agg #[.slice (some ⟨g, 0, none⟩) nn cp, .int .i64 nx]) (by simp [results, Try.results78, go_sem, f0, f1]) rfl ⟨(some ⟨g, 0, none⟩), ({ z with large := true } :: rest), cp, nx, by rw [HNN.out], HT4.out.l17, by rw [HNN.out]; exact hro, hsr, hgr⟩
end Go.Proofs.Ytfagohdmepnkkaa
