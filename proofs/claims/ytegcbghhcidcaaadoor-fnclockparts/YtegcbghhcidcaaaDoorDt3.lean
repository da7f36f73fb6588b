import Derived.Test.YtegcbghhcidcaaaDoorDt2
namespace Go.Proofs.YtegcbghhcidcaaaDoor
open Go.ChangeShapes Go.WideShapes Go.ChangeAt Go.RowKit

/-- From here on more is kept. -/
theorem AnyE.strong {P : Program} {md : Region.Mode} {ops : Array Oper} {Q : Exit → Act → World → Prop} {S S' : World → Prop} {X : List Nat} (hs : ∀ w, S' w → S w) : ∀ (f : Nat) (L : Array Bool) (a : Act) (w : World), AnyE P md ops Q S' X f L a w → AnyE P md ops Q S X f L a w
  | 0, _, _, _, h => h
  | f + 1, _, _, _, h => ⟨h.1, fun i hi => wpOp_mono (fun _ _ h' => ⟨fun hn => hs _ (h'.1 hn), AnyE.strong hs f _ _ _ h'.2⟩) (h.2 i hi)⟩
/-- One of three that are laid, behind a draw. -/
theorem lit_three {u u2 : World} {b t : Nat} {a0 a1 a2 : Int} (hb : b < u.heap.size) (hg : (u.alloc (.cells #[.int .i64 a0, .int .i64 a1, .int .i64 a2] t)).grownBy u2 (some b)) (R : Nat) (hR : R < 3) : ∃ y : Int, u2.cell? ⟨u.heap.size, R, none⟩ = some (.int .i64 y) := by
  have h1 : u2.heap[u.heap.size]? = some (.cells (([a0, a1, a2] : List Int).map (Value.int .i64)).toArray t (0, 0)) := (hg.block _ (by simp) (by simp; omega)).trans (MapKept.heap_alloc u _).1
  exact ⟨_, lit_cell h1 hR⟩
theorem CB.put6b {B0 : Nat} {a : Option Addr} {len cap : Nat} {w : World} {p : Nat} {c : CK} {x : Value} {n : Nat} {u : World} (h : CB B0 a len cap w p c x n u) : CB B0 a len cap w p c (.slice (some ⟨u.heap.size, 0, none⟩) 0 0) 0 ((u.setCell ⟨p, 6, none⟩ (.slice (some ⟨u.heap.size, 0, none⟩) 0 0)).alloc (.cells #[] 34)) := by
  have h1 := h.lt
  have h2 := h.lo
  have h3 := h.gr.size
  have hps := h.box.lt
  have hsz : (u.setCell ⟨p, 6, none⟩ (.slice (some ⟨u.heap.size, 0, none⟩) 0 0)).heap.size = u.heap.size := by simp [World.setCell]
  have HEM : ((u.setCell ⟨p, 6, none⟩ (.slice (some ⟨u.heap.size, 0, none⟩) 0 0)).alloc (.cells #[] 34)).ownsRow (u.setCell ⟨p, 6, none⟩ (.slice (some ⟨u.heap.size, 0, none⟩) 0 0)).heap.size 34 3 (.slice (some ⟨(u.setCell ⟨p, 6, none⟩ (.slice (some ⟨u.heap.size, 0, none⟩) 0 0)).heap.size, 0, none⟩) 0 0) 0 [] := World.ownsRow_lit _ #[] 0 (by simp) (by decide) rfl
  rw [hsz] at HEM
  refine ⟨h.lt, (s_set h.src (by omega)).far (World.grownBy_alloc _ _ none), Lib.grownBy_trans (g_set h.gr (by omega)) gAl, h.lo, (Below.heap_alloc _ _ _ (by rw [hsz]; omega)).trans ((Below.heap_setCell _ _ _ _ (by simp only; omega)).trans h.res), ?_, ⟨[], ti_weak HEM (by omega)⟩, fun e => ?_⟩
  · unfold BoxK
    refine (Below.heap_alloc _ _ _ (by rw [hsz]; omega)).trans ?_
    have hb := h.box
    unfold BoxK at hb
    simp [World.setCell, Array.getElem?_modify, hb]
  · simp [Value.ownBlock] at e
    omega
theorem cell_lt {u : World} {b o : Nat} {v : Value} (h : u.cell? ⟨b, o, none⟩ = some v) : b < u.heap.size := World.block_lt_of_cell? u _ h
theorem cb_new {B0 : Nat} {a : Option Addr} {len cap : Nat} {w W u1 : World} {c : CK} {ao : Option Addr} {n cp : Nat} (hlt : B0 < w.heap.size) (hsz : W.heap.size = w.heap.size + 1) (hr : W.heap[w.heap.size]? = some (.cells #[.int .i64 0, .int .i64 0, .int .i64 0, .int .i64 0, .int .i64 0, .bool false, .slice none 0 0] 25 (0, 0))) (hgw : w.grownBy W (some B0)) (hg : W.grownBy u1 (some B0)) (hs : SrcOk u1 B0 a len cap) (hrow : ∃ ys, u1.ownsRow (W.heap.size + 1) 34 3 (.slice ao n cp) n ys) : CB B0 a len cap w u1.heap.size c (.slice ao n cp) n (u1.alloc (.cells #[.int .i64 c.host, .int .i64 c.guest, .int .i64 c.num, .int .i64 c.den, .int .i64 c.part, .bool c.frz, .slice ao n cp] 25)) := by
  obtain ⟨ys, ho⟩ := hrow
  have h1 := hg.size
  have hres : u1.heap[w.heap.size]? = some (.cells #[.int .i64 0, .int .i64 0, .int .i64 0, .int .i64 0, .int .i64 0, .bool false, .slice none 0 0] 25 (0, 0)) := (hg.block _ (by omega) (by simp; omega)).trans hr
  refine ⟨hlt, hs.far (World.grownBy_alloc _ _ none), Lib.grownBy_trans (Lib.grownBy_trans hgw hg) gAl, by omega, (Below.heap_alloc _ _ _ (by omega)).trans hres, heap_new u1 _, ⟨ys, ti_weak (ho.alloc _) (by omega)⟩, fun e => ?_⟩
  have := (ho.lt _ e).2
  omega
set_option maxRecDepth 100000 in
set_option maxHeartbeats 16000000 in
theorem src_anyClock (B0 : Nat) (a : Option Addr) (len cap : Nat) (w : World) (h : SrcOk w B0 a len cap) :
    Calls Tryd.prog 10 #[.pointer (some ⟨B0, 0, none⟩)] w fun e w' => ∃ (c : CK) (ax : Option Addr) (n kx : Nat), e = .returned (ckA c (.slice ax n kx)) ∧ w.grownBy w' (some B0) := by
  have hlt := h.lt
  have HS : Hid (SrcOk (w.alloc (.cells #[.int .i64 0, .int .i64 0, .int .i64 0, .int .i64 0, .int .i64 0, .bool false, .slice none 0 0] 25)) B0 a len cap) := h.far (World.grownBy_alloc _ _ none)
  have HGW : Hid (w.grownBy (w.alloc (.cells #[.int .i64 0, .int .i64 0, .int .i64 0, .int .i64 0, .int .i64 0, .bool false, .slice none 0 0] 25)) (some B0)) := gAl
  have HR0 : Hid ((w.alloc (.cells #[.int .i64 0, .int .i64 0, .int .i64 0, .int .i64 0, .int .i64 0, .bool false, .slice none 0 0] 25)).heap[w.heap.size]? = some (.cells #[.int .i64 0, .int .i64 0, .int .i64 0, .int .i64 0, .int .i64 0, .bool false, .slice none 0 0] 25 (0, 0))) := (MapKept.heap_alloc w _).1
  have HSZ : Hid ((w.alloc (.cells #[.int .i64 0, .int .i64 0, .int .i64 0, .int .i64 0, .int .i64 0, .bool false, .slice none 0 0] 25)).heap.size = w.heap.size + 1) := (show _ = _ by simp)
  clear h
  go_enter Tryd.func10, Tryd.ntmps10
  go_upto_region 1 with fail
  generalize w.alloc (.cells #[.int .i64 0, .int .i64 0, .int .i64 0, .int .i64 0, .int .i64 0, .bool false, .slice none 0 0] 25) = W at *
  go_upto_region 2 with (go_at_call 18; refine (src_clock B0 a len cap W HS.out).mono ?_; rintro e u1 ⟨⟨ho, gu, nu, de, pa, fz, ts0⟩, ao, n, cp, rfl, hn10, hrow, hs1, hg1⟩; have HN10 : Hid (n ≤ 10) := hn10; have HRW : Hid _ := hrow; have HS1 : Hid _ := hs1; have HG1 : Hid _ := hg1; clear hn10 hrow hs1 hg1; unfold ckA; simp only)
  have HC : Hid (CB B0 a len cap w u1.heap.size ⟨ho, gu, nu, de, pa, fz, ts0⟩ (.slice ao n cp) n (u1.alloc (.cells #[.int .i64 ho, .int .i64 gu, .int .i64 nu, .int .i64 de, .int .i64 pa, .bool fz, .slice ao n cp] 25))) := cb_new hlt HSZ.out HR0.out HGW.out HG1.out HS1.out HRW.out
  generalize (u1.alloc (.cells #[.int .i64 ho, .int .i64 gu, .int .i64 nu, .int .i64 de, .int .i64 pa, .bool fz, .slice ao n cp] 25)) = u2 at *
  generalize u1.heap.size = p at *
  generalize (⟨ho, gu, nu, de, pa, fz, ts0⟩ : CK) = c at *
  clear HS HGW HR0 HSZ HRW HS1 HG1
  have HN : Hid (∀ (q : Nat) u9, q ≤ 9 → SrcOk u9 B0 a len cap → Calls Tryd.prog 20 #[.pointer (some ⟨B0, 0, none⟩), .int .i64 (q : Int)] u9 fun e w' => ∃ R : Nat, e = .returned (.int .i64 (R : Int)) ∧ (R < q ∨ R = 0) ∧ SrcOk w' B0 a len cap ∧ u9.grownBy w' (some B0)) := fun q u9 hq h9 => (src_n B0 a len cap q u9 h9 (by omega)).mono (by rintro e w' ⟨r, rfl, r0, r1, hs, hg⟩; obtain ⟨R, rfl⟩ := Int.eq_ofNat_of_zero_le r0; exact ⟨R, rfl, by omega, hs, hg⟩)
  have HN3 : Hid (∀ u9, SrcOk u9 B0 a len cap → Calls Tryd.prog 20 #[.pointer (some ⟨B0, 0, none⟩), .int .i64 3] u9 fun e w' => ∃ R : Nat, e = .returned (.int .i64 (R : Int)) ∧ R < 3 ∧ SrcOk w' B0 a len cap ∧ u9.grownBy w' (some B0)) := fun u9 h9 => (HN.out 3 u9 (by omega) h9).mono (by rintro e w' ⟨R, rfl, hR, hs, hg⟩; exact ⟨R, rfl, by omega, hs, hg⟩)
  have HN4 : Hid (∀ u9, SrcOk u9 B0 a len cap → Calls Tryd.prog 20 #[.pointer (some ⟨B0, 0, none⟩), .int .i64 4] u9 fun e w' => ∃ R : Nat, e = .returned (.int .i64 (R : Int)) ∧ R < 4 ∧ SrcOk w' B0 a len cap ∧ u9.grownBy w' (some B0)) := fun u9 h9 => (HN.out 4 u9 (by omega) h9).mono (by rintro e w' ⟨R, rfl, hR, hs, hg⟩; exact ⟨R, rfl, by omega, hs, hg⟩)
  have HN8 : Hid (∀ u9, SrcOk u9 B0 a len cap → Calls Tryd.prog 20 #[.pointer (some ⟨B0, 0, none⟩), .int .i64 8] u9 fun e w' => ∃ r : Int, e = .returned (.int .i64 r) ∧ (0 ≤ r ∧ r < 8) ∧ SrcOk w' B0 a len cap ∧ u9.grownBy w' (some B0)) := fun u9 h9 => (src_n B0 a len cap 8 u9 h9 (by omega)).mono (by rintro e w' ⟨r, rfl, r0, r1, hs, hg⟩; exact ⟨r, rfl, by omega, hs, hg⟩)
  clear HN
  have HTM : Hid (∀ u9, SrcOk u9 B0 a len cap → Calls Tryd.prog 21 #[.pointer (some ⟨B0, 0, none⟩)] u9 fun e w' => ∃ m0 m1 m2 : Int, e = .returned (.agg #[.int .i64 m0, .int .i64 m1, .int .i64 m2]) ∧ SrcOk w' B0 a len cap ∧ u9.grownBy w' (some B0)) := fun u9 h9 => (src_timer B0 a len cap u9 h9).mono (by rintro e w' ⟨m, rfl, hs, hg⟩; exact ⟨m.due, m.period, m.policy, rfl, hs, hg⟩)
  go_upto_region 3 with (go_at_call 19; refine (src_one B0 a len cap 5 u2 HC.out.src (by omega)).mono ?_; rintro e u3 ⟨t3, rfl, hs3, hg3⟩; have HC3 : Hid (CB B0 a len cap w p c (.slice ao n cp) n u3) := HC.out.step hs3 hg3; clear hs3 hg3 HC)
  cases t3
  · skip
    obtain ⟨k0, k1, k2, k3, k4, k5, k6, kf⟩ := HC3.out.box.cel
    have kl := HC3.out.box.lt
    obtain ⟨t0, t1, t2, t3, t4, t5, t6, tf⟩ := cel7 HC3.out.res
    have tl := (Array.getElem?_eq_some_iff.1 HC3.out.res).1
    go_wp2
    obtain ⟨hb, hrow, hsr, hgr⟩ := HC3.out.fin rfl
    obtain ⟨f0, f1, f2, f3, f4, f5, f6, ff⟩ := cel7 hb
    exact bodyPost_ret (v := ckA c (.slice ao n cp)) (by simp [results, Tryd.results10, go_sem, ckA, f0, f1, f2, f3, f4, f5, f6]) rfl ⟨c, _, _, _, rfl, hgr⟩
  go_upto_region 5 with (go_at_call 20; refine Calls.mono (HN8.out _ HC3.out.src) ?_; rintro e u4 ⟨r4, rfl, hr4, hs4, hg4⟩; have HC4 : Hid (CB B0 a len cap w p c (.slice ao n cp) n u4) := HC3.out.step hs4 hg4; clear hs4 hg4 HC3)
  obtain rfl | rfl | rfl | rfl | rfl | rfl | rfl | rfl : r4 = 0 ∨ r4 = 1 ∨ r4 = 2 ∨ r4 = 3 ∨ r4 = 4 ∨ r4 = 5 ∨ r4 = 6 ∨ r4 = 7 := by omega
  · obtain ⟨k0, k1, k2, k3, k4, k5, k6, kf⟩ := HC4.out.box.cel
    have kl := HC4.out.box.lt
    go_upto_region 25 with (go_at_call 20; refine Calls.mono (HN3.out _ (HC4.out.al _).src) ?_; rintro e u6 ⟨R, rfl, hR, hs6, hg6⟩; obtain ⟨y, hy⟩ := lit_three (Nat.lt_of_lt_of_le hlt HC4.out.gr.size) hg6 R hR; have HC6 : Hid (CB B0 a len cap w p c (.slice ao n cp) n u6) := (HC4.out.al _).step hs6 hg6; have hyl := (cell_lt hy); have hR0 : (0 : Int) ≤ (R : Int) := (by omega); have hR1 : (R : Int) < 3 := (by omega); clear hs6 hg6 k0 k1 k2 k3 k4 k5 k6 kf kl HC4; obtain ⟨k0, k1, k2, k3, k4, k5, k6, kf⟩ := HC6.out.box.cel; have kl := HC6.out.box.lt)
    clear k0 k1 k2 k3 k4 k5 k6 kf kl hy hyl
    have HZ : Hid (CB B0 a len cap w p { c with host := y } (.slice ao n cp) n (u6.setCell ⟨p, 0, none⟩ (.int .i64 y))) := HC6.out.put0 y
    generalize (u6.setCell ⟨p, 0, none⟩ (.int .i64 y)) = W9 at *
    generalize ({ c with host := y } : CK) = c9 at *
    obtain ⟨k0, k1, k2, k3, k4, k5, k6, kf⟩ := HZ.out.box.cel
    have kl := HZ.out.box.lt
    obtain ⟨t0, t1, t2, t3, t4, t5, t6, tf⟩ := cel7 HZ.out.res
    have tl := (Array.getElem?_eq_some_iff.1 HZ.out.res).1
    go_wp2
    obtain ⟨hb, hrow, hsr, hgr⟩ := HZ.out.fin rfl
    obtain ⟨f0, f1, f2, f3, f4, f5, f6, ff⟩ := cel7 hb
    exact bodyPost_ret (v := ckA c9 (.slice ao n cp)) (by simp [results, Tryd.results10, go_sem, ckA, f0, f1, f2, f3, f4, f5, f6]) rfl ⟨c9, _, _, _, rfl, hgr⟩
  · obtain ⟨k0, k1, k2, k3, k4, k5, k6, kf⟩ := HC4.out.box.cel
    have kl := HC4.out.box.lt
    go_upto_region 25 with (go_at_call 20; refine Calls.mono (HN3.out _ (HC4.out.al _).src) ?_; rintro e u6 ⟨R, rfl, hR, hs6, hg6⟩; obtain ⟨y, hy⟩ := lit_three (Nat.lt_of_lt_of_le hlt HC4.out.gr.size) hg6 R hR; have HC6 : Hid (CB B0 a len cap w p c (.slice ao n cp) n u6) := (HC4.out.al _).step hs6 hg6; have hyl := (cell_lt hy); have hR0 : (0 : Int) ≤ (R : Int) := (by omega); have hR1 : (R : Int) < 3 := (by omega); clear hs6 hg6 k0 k1 k2 k3 k4 k5 k6 kf kl HC4; obtain ⟨k0, k1, k2, k3, k4, k5, k6, kf⟩ := HC6.out.box.cel; have kl := HC6.out.box.lt)
    clear k0 k1 k2 k3 k4 k5 k6 kf kl hy hyl
    have HZ : Hid (CB B0 a len cap w p { c with guest := y } (.slice ao n cp) n (u6.setCell ⟨p, 1, none⟩ (.int .i64 y))) := HC6.out.put1 y
    generalize (u6.setCell ⟨p, 1, none⟩ (.int .i64 y)) = W9 at *
    generalize ({ c with guest := y } : CK) = c9 at *
    obtain ⟨k0, k1, k2, k3, k4, k5, k6, kf⟩ := HZ.out.box.cel
    have kl := HZ.out.box.lt
    obtain ⟨t0, t1, t2, t3, t4, t5, t6, tf⟩ := cel7 HZ.out.res
    have tl := (Array.getElem?_eq_some_iff.1 HZ.out.res).1
    go_wp2
    obtain ⟨hb, hrow, hsr, hgr⟩ := HZ.out.fin rfl
    obtain ⟨f0, f1, f2, f3, f4, f5, f6, ff⟩ := cel7 hb
    exact bodyPost_ret (v := ckA c9 (.slice ao n cp)) (by simp [results, Tryd.results10, go_sem, ckA, f0, f1, f2, f3, f4, f5, f6]) rfl ⟨c9, _, _, _, rfl, hgr⟩
  · obtain ⟨k0, k1, k2, k3, k4, k5, k6, kf⟩ := HC4.out.box.cel
    have kl := HC4.out.box.lt
    go_upto_region 25 with (go_at_call 20; refine Calls.mono (HN3.out _ (HC4.out.al _).src) ?_; rintro e u6 ⟨R, rfl, hR, hs6, hg6⟩; obtain ⟨y, hy⟩ := lit_three (Nat.lt_of_lt_of_le hlt HC4.out.gr.size) hg6 R hR; have HC6 : Hid (CB B0 a len cap w p c (.slice ao n cp) n u6) := (HC4.out.al _).step hs6 hg6; have hyl := (cell_lt hy); have hR0 : (0 : Int) ≤ (R : Int) := (by omega); have hR1 : (R : Int) < 3 := (by omega); clear hs6 hg6 k0 k1 k2 k3 k4 k5 k6 kf kl HC4; obtain ⟨k0, k1, k2, k3, k4, k5, k6, kf⟩ := HC6.out.box.cel; have kl := HC6.out.box.lt)
    clear k0 k1 k2 k3 k4 k5 k6 kf kl hy hyl
    have HZ : Hid (CB B0 a len cap w p { c with num := y } (.slice ao n cp) n (u6.setCell ⟨p, 2, none⟩ (.int .i64 y))) := HC6.out.put2 y
    generalize (u6.setCell ⟨p, 2, none⟩ (.int .i64 y)) = W9 at *
    generalize ({ c with num := y } : CK) = c9 at *
    obtain ⟨k0, k1, k2, k3, k4, k5, k6, kf⟩ := HZ.out.box.cel
    have kl := HZ.out.box.lt
    obtain ⟨t0, t1, t2, t3, t4, t5, t6, tf⟩ := cel7 HZ.out.res
    have tl := (Array.getElem?_eq_some_iff.1 HZ.out.res).1
    go_wp2
    obtain ⟨hb, hrow, hsr, hgr⟩ := HZ.out.fin rfl
    obtain ⟨f0, f1, f2, f3, f4, f5, f6, ff⟩ := cel7 hb
    exact bodyPost_ret (v := ckA c9 (.slice ao n cp)) (by simp [results, Tryd.results10, go_sem, ckA, f0, f1, f2, f3, f4, f5, f6]) rfl ⟨c9, _, _, _, rfl, hgr⟩
  · obtain ⟨k0, k1, k2, k3, k4, k5, k6, kf⟩ := HC4.out.box.cel
    have kl := HC4.out.box.lt
    go_upto_region 25 with (go_at_call 20; refine Calls.mono (HN3.out _ (HC4.out.al _).src) ?_; rintro e u6 ⟨R, rfl, hR, hs6, hg6⟩; obtain ⟨y, hy⟩ := lit_three (Nat.lt_of_lt_of_le hlt HC4.out.gr.size) hg6 R hR; have HC6 : Hid (CB B0 a len cap w p c (.slice ao n cp) n u6) := (HC4.out.al _).step hs6 hg6; have hyl := (cell_lt hy); have hR0 : (0 : Int) ≤ (R : Int) := (by omega); have hR1 : (R : Int) < 3 := (by omega); clear hs6 hg6 k0 k1 k2 k3 k4 k5 k6 kf kl HC4; obtain ⟨k0, k1, k2, k3, k4, k5, k6, kf⟩ := HC6.out.box.cel; have kl := HC6.out.box.lt)
    clear k0 k1 k2 k3 k4 k5 k6 kf kl hy hyl
    have HZ : Hid (CB B0 a len cap w p { c with den := y } (.slice ao n cp) n (u6.setCell ⟨p, 3, none⟩ (.int .i64 y))) := HC6.out.put3 y
    generalize (u6.setCell ⟨p, 3, none⟩ (.int .i64 y)) = W9 at *
    generalize ({ c with den := y } : CK) = c9 at *
    obtain ⟨k0, k1, k2, k3, k4, k5, k6, kf⟩ := HZ.out.box.cel
    have kl := HZ.out.box.lt
    obtain ⟨t0, t1, t2, t3, t4, t5, t6, tf⟩ := cel7 HZ.out.res
    have tl := (Array.getElem?_eq_some_iff.1 HZ.out.res).1
    go_wp2
    obtain ⟨hb, hrow, hsr, hgr⟩ := HZ.out.fin rfl
    obtain ⟨f0, f1, f2, f3, f4, f5, f6, ff⟩ := cel7 hb
    exact bodyPost_ret (v := ckA c9 (.slice ao n cp)) (by simp [results, Tryd.results10, go_sem, ckA, f0, f1, f2, f3, f4, f5, f6]) rfl ⟨c9, _, _, _, rfl, hgr⟩
  · obtain ⟨k0, k1, k2, k3, k4, k5, k6, kf⟩ := HC4.out.box.cel
    have kl := HC4.out.box.lt
    go_upto_region 25 with fail
    clear k0 k1 k2 k3 k4 k5 k6 kf kl
    have HZ : Hid (CB B0 a len cap w p { c with part := c.den } (.slice ao n cp) n (u4.setCell ⟨p, 4, none⟩ (.int .i64 c.den))) := HC4.out.put4 c.den
    generalize (u4.setCell ⟨p, 4, none⟩ (.int .i64 c.den)) = W9 at *
    generalize ({ c with part := c.den } : CK) = c9 at *
    obtain ⟨k0, k1, k2, k3, k4, k5, k6, kf⟩ := HZ.out.box.cel
    have kl := HZ.out.box.lt
    obtain ⟨t0, t1, t2, t3, t4, t5, t6, tf⟩ := cel7 HZ.out.res
    have tl := (Array.getElem?_eq_some_iff.1 HZ.out.res).1
    go_wp2
    obtain ⟨hb, hrow, hsr, hgr⟩ := HZ.out.fin rfl
    obtain ⟨f0, f1, f2, f3, f4, f5, f6, ff⟩ := cel7 hb
    exact bodyPost_ret (v := ckA c9 (.slice ao n cp)) (by simp [results, Tryd.results10, go_sem, ckA, f0, f1, f2, f3, f4, f5, f6]) rfl ⟨c9, _, _, _, rfl, hgr⟩
  · go_upto_region 16 with fail
    have HD : Hid (CB B0 a len cap w p c (.slice ao n cp) n u4.drew) := HC4.out.drew
    refine AnyE.start (fun w9 => CW B0 a len cap w p c (.slice ao n cp) w9) [12, 13, 14] (by kernel_rfl) ?_
    generalize u4.drew = wd at *
    refine AnyE.take (i := 0) (v := .pointer (some ⟨p, 6, none⟩)) rfl (by kernel_rfl) (by kernel_rfl) (by kernel_rfl) (by kernel_rfl) (by kernel_rfl) (fun _ _ _ h => h) (Or.inl ⟨by kernel_rfl, fun w9 h9 => ?_⟩) HD.out.weak ?_
    · go_simp
    refine AnyE.take (i := 1) (v := .slice ao n cp) rfl (by kernel_rfl) (by kernel_rfl) (by kernel_rfl) (by kernel_rfl) (by kernel_rfl) (fun _ _ _ h => h) (Or.inl ⟨by kernel_rfl, fun w9 h9 => ?_⟩) HD.out.weak ?_
    · obtain ⟨y0, y1, y2, y3, y4, y5, y6, yf⟩ := h9.box.cel; have yl := h9.box.lt; go_simp
    refine AnyE.take (i := 3) (v := .pointer (some ⟨B0, 0, none⟩)) rfl (by kernel_rfl) (by kernel_rfl) (by kernel_rfl) (by kernel_rfl) (by kernel_rfl) (fun _ _ _ h => h) (Or.inl ⟨by kernel_rfl, fun w9 h9 => ?_⟩) HD.out.weak ?_
    · go_simp
    refine AnyE.take (i := 7) (v := .pointer (some ⟨B0, 0, none⟩)) rfl (by kernel_rfl) (by kernel_rfl) (by kernel_rfl) (by kernel_rfl) (by kernel_rfl) (fun _ _ _ h => h) (Or.inl ⟨by kernel_rfl, fun w9 h9 => ?_⟩) HD.out.weak ?_
    · go_simp
    refine AnyE.two 2 4 (by kernel_rfl) rfl rfl (by kernel_rfl) (by kernel_rfl) (fun K hK => ?_) (fun K hK => ?_)
    · skip
      have HL : Hid (CB B0 a len cap w p c (.slice ao n cp) n (wd.alloc (.cells #[.int .i64 (-1), .int .i64 2199023255552, .int .i64 2199023255553] 2))) := HD.out.al _
      have HLT : Hid ((wd.alloc (.cells #[.int .i64 (-1), .int .i64 2199023255552, .int .i64 2199023255553] 2)).heap[wd.heap.size]? = some (.cells (([-1, 2199023255552, 2199023255553] : List Int).map (Value.int .i64)).toArray 2 (0, 0))) := (MapKept.heap_alloc wd _).1
      have HLB : Hid (B0 < wd.heap.size) := Nat.lt_of_lt_of_le hlt HD.out.gr.size
      go_simp
      refine hK _ _ (fun _ => HL.out.weak) ?_
      clear hK K
      generalize (wd.alloc (.cells #[.int .i64 (-1), .int .i64 2199023255552, .int .i64 2199023255553] 2)) = wl at *
      generalize wd.heap.size = bl at *
      refine AnyE.strong (S' := fun w9 => CW B0 a len cap w p c (.slice ao n cp) w9 ∧ w9.heap[bl]? = some (.cells (([-1, 2199023255552, 2199023255553] : List Int).map (Value.int .i64)).toArray 2 (0, 0))) (fun _ h => h.1) _ _ _ _ ?_
      refine AnyE.one 4 (by kernel_rfl) rfl (by kernel_rfl) fun K hK => ?_
      go_simp
      go_wp2_with (go_at_call 20; refine Calls.mono (HN3.out _ HL.out.src) ?_; rintro e u6 ⟨R, rfl, hR, hs6, hg6⟩; have HD6 : Hid (CB B0 a len cap w p c (.slice ao n cp) n u6) := HL.out.step hs6 hg6; have HLT6 : Hid (u6.heap[bl]? = some (.cells (([-1, 2199023255552, 2199023255553] : List Int).map (Value.int .i64)).toArray 2 (0, 0))) := (hg6.block bl (Array.getElem?_eq_some_iff.1 HLT.out).1 (by have := HLB.out; simp; omega)).trans HLT.out; clear hs6 hg6)
      refine hK _ _ (fun _ => ⟨HD6.out.weak, HLT6.out⟩) ?_
      clear hK K
      have R0 : (0 : Int) ≤ (R : Int) := by omega
      have R1 : (R : Int) < 3 := by omega
      obtain ⟨y, hy⟩ : ∃ y, ([-1, 2199023255552, 2199023255553] : List Int)[R]'hR = y := ⟨_, rfl⟩
      refine AnyE.take (i := 5) (v := .pointer (some ⟨bl, R, none⟩)) rfl (by kernel_rfl) (by kernel_rfl) (by kernel_rfl) (by kernel_rfl) (by kernel_rfl) (fun _ _ _ h => h) (Or.inl ⟨by kernel_rfl, fun w9 h9 => ?_⟩) ⟨HD6.out.weak, HLT6.out⟩ ?_
      · go_simp
      refine AnyE.take (i := 6) (v := .int .i64 y) rfl (by kernel_rfl) (by kernel_rfl) (by kernel_rfl) (by kernel_rfl) (by kernel_rfl) (fun _ _ _ h => h) (Or.inl ⟨by kernel_rfl, fun w9 h9 => ?_⟩) ⟨HD6.out.weak, HLT6.out⟩ ?_
      · have hc := lit_cell (C := [-1, 2199023255552, 2199023255553]) h9.2 hR; rw [hy] at hc; have hl := (Array.getElem?_eq_some_iff.1 h9.2).1; go_simp
      refine AnyE.one 8 (by kernel_rfl) rfl (by kernel_rfl) fun K hK => ?_
      go_simp
      go_wp2_with (go_at_call 20; refine Calls.mono (HN4.out _ HD6.out.src) ?_; rintro e u7 ⟨R2, rfl, hR2, hs6, hg6⟩; have HD7 : Hid (CB B0 a len cap w p c (.slice ao n cp) n u7) := HD6.out.step hs6 hg6; have HLT7 : Hid (u7.heap[bl]? = some (.cells (([-1, 2199023255552, 2199023255553] : List Int).map (Value.int .i64)).toArray 2 (0, 0))) := (hg6.block bl (Array.getElem?_eq_some_iff.1 HLT6.out).1 (by have := HLB.out; simp; omega)).trans HLT6.out; clear hs6 hg6)
      refine hK _ _ (fun _ => ⟨HD7.out.weak, HLT7.out⟩) ?_
      clear hK K
      have R20 : (0 : Int) ≤ (R2 : Int) := by omega
      have R21 : (R2 : Int) < 4 := by omega
      refine AnyE.take (i := 9) (v := .int .i64 (1 + (R2 : Int))) rfl (by kernel_rfl) (by kernel_rfl) (by kernel_rfl) (by kernel_rfl) (by kernel_rfl) (fun _ _ _ h => h) (Or.inl ⟨by kernel_rfl, fun w9 h9 => ?_⟩) ⟨HD7.out.weak, HLT7.out⟩ ?_
      · go_simp; rw [IntKind.wrap_i64]; omega
      refine AnyE.take (i := 10) (v := .agg #[.int .i64 y, .int .i64 0, .int .i64 (1 + (R2 : Int))]) rfl (by kernel_rfl) (by kernel_rfl) (by kernel_rfl) (by kernel_rfl) (by kernel_rfl) (fun _ _ _ h => h) (Or.inl ⟨by kernel_rfl, fun w9 h9 => ?_⟩) ⟨HD7.out.weak, HLT7.out⟩ ?_
      · go_simp
      refine AnyE.one 11 (by kernel_rfl) rfl (by kernel_rfl) fun K hK => ?_
      have HD2 : Hid (CB B0 a len cap w p c (.slice ao n cp) n (u7.alloc (.cells #[.int .i64 y, .int .i64 0, .int .i64 (1 + (R2 : Int))] 34))) := HD7.out.al _
      go_simp
      refine hK _ _ (fun _ => ⟨HD2.out.weak, ((bx1 _ _).block _ (Array.getElem?_eq_some_iff.1 HLT7.out).1).trans HLT7.out⟩) ?_
      clear hK K
      refine AnyE.one 12 (by kernel_rfl) rfl (by kernel_rfl) fun K hK => ?_
      obtain ⟨ys, hown⟩ := HD7.out.own
      have HAP : Hid _ := appTM hown (by have := HN10.out; omega) (by have := HD7.out.gr.size; have := HD7.out.lo; have := HD7.out.box.lt; omega) (y) (0) ((1 + (R2 : Int)))
      refine wp_append_ex _ _ 23 rfl (.slice ao n cp) (.slice (some ⟨u7.heap.size, 0, none⟩) 1 1) rfl rfl HAP.out ?_
      rintro sv u9 ⟨⟨zs, hz⟩, hg, hbk⟩
      obtain ⟨a5, c5, rfl⟩ := ti_sl hz
      have HA5 : Hid (CW B0 a len cap w p c (.slice ao n cp) u9 ∧ CB B0 a len cap w p c (.slice a5 (n + 1) c5) (n + 1) (u9.setCell ⟨p, 6, none⟩ (.slice a5 (n + 1) c5))) := HD2.out.app hg ⟨zs, hz⟩ (by simpa using hbk)
      clear hz hg hbk
      refine hK _ _ (fun h => absurd (by decide) h) ?_
      clear hK K hown HAP
      obtain ⟨x0, x1, x2, x3, x4, x5, x6, xf⟩ := HA5.out.1.box.cel
      have xl := HA5.out.1.box.lt
      refine AnyE.one 13 (by kernel_rfl) rfl (by kernel_rfl) fun K hK => ?_
      go_simp
      refine hK _ _ (fun h => absurd (by decide) h) ?_
      clear hK K
      refine AnyE.one 14 (by kernel_rfl) rfl (by kernel_rfl) fun K hK => ?_
      go_simp
      refine hK _ _ (fun h => absurd (by decide) h) ?_
      clear hK K
      refine AnyE.done (by kernel_rfl) ?_ _
      go_simp
      clear x0 x1 x2 x3 x4 x5 x6 xf xl
      go_upto_region 25 with fail
      have HZ : Hid (CB B0 a len cap w p c (.slice a5 (n + 1) c5) (n + 1) (u9.setCell ⟨p, 6, none⟩ (.slice a5 (n + 1) c5))) := HA5.out.2
      generalize (u9.setCell ⟨p, 6, none⟩ (.slice a5 (n + 1) c5)) = W9 at *
      generalize (c : CK) = c9 at *
      obtain ⟨k0, k1, k2, k3, k4, k5, k6, kf⟩ := HZ.out.box.cel
      have kl := HZ.out.box.lt
      obtain ⟨t0, t1, t2, t3, t4, t5, t6, tf⟩ := cel7 HZ.out.res
      have tl := (Array.getElem?_eq_some_iff.1 HZ.out.res).1
      go_wp2
      obtain ⟨hb, hrow, hsr, hgr⟩ := HZ.out.fin rfl
      obtain ⟨f0, f1, f2, f3, f4, f5, f6, ff⟩ := cel7 hb
      exact bodyPost_ret (v := ckA c9 (.slice a5 (n + 1) c5)) (by simp [results, Tryd.results10, go_sem, ckA, f0, f1, f2, f3, f4, f5, f6]) rfl ⟨c9, _, _, _, rfl, hgr⟩
    · skip
      go_simp
      go_wp2_with (go_at_call 20; refine Calls.mono (HN3.out _ HD.out.src) ?_; rintro e u6 ⟨R, rfl, hR, hs6, hg6⟩; have HD6 : Hid (CB B0 a len cap w p c (.slice ao n cp) n u6) := HD.out.step hs6 hg6; clear hs6 hg6)
      refine hK _ _ (fun _ => HD6.out.weak) ?_
      clear hK K
      have R0 : (0 : Int) ≤ (R : Int) := by omega
      have R1 : (R : Int) < 3 := by omega
      refine AnyE.two 2 8 (by kernel_rfl) rfl rfl (by kernel_rfl) (by kernel_rfl) (fun K hK => ?_) (fun K hK => ?_)
      · skip
        have HL : Hid (CB B0 a len cap w p c (.slice ao n cp) n (u6.alloc (.cells #[.int .i64 (-1), .int .i64 2199023255552, .int .i64 2199023255553] 2))) := HD6.out.al _
        have HLT : Hid ((u6.alloc (.cells #[.int .i64 (-1), .int .i64 2199023255552, .int .i64 2199023255553] 2)).heap[u6.heap.size]? = some (.cells (([-1, 2199023255552, 2199023255553] : List Int).map (Value.int .i64)).toArray 2 (0, 0))) := (MapKept.heap_alloc u6 _).1
        have HLB : Hid (B0 < u6.heap.size) := Nat.lt_of_lt_of_le hlt HD6.out.gr.size
        go_simp
        refine hK _ _ (fun _ => HL.out.weak) ?_
        clear hK K
        generalize (u6.alloc (.cells #[.int .i64 (-1), .int .i64 2199023255552, .int .i64 2199023255553] 2)) = wl at *
        generalize u6.heap.size = bl at *
        refine AnyE.strong (S' := fun w9 => CW B0 a len cap w p c (.slice ao n cp) w9 ∧ w9.heap[bl]? = some (.cells (([-1, 2199023255552, 2199023255553] : List Int).map (Value.int .i64)).toArray 2 (0, 0))) (fun _ h => h.1) _ _ _ _ ?_
        obtain ⟨y, hy⟩ : ∃ y, ([-1, 2199023255552, 2199023255553] : List Int)[R]'hR = y := ⟨_, rfl⟩
        refine AnyE.take (i := 5) (v := .pointer (some ⟨bl, R, none⟩)) rfl (by kernel_rfl) (by kernel_rfl) (by kernel_rfl) (by kernel_rfl) (by kernel_rfl) (fun _ _ _ h => h) (Or.inl ⟨by kernel_rfl, fun w9 h9 => ?_⟩) ⟨HL.out.weak, HLT.out⟩ ?_
        · go_simp
        refine AnyE.take (i := 6) (v := .int .i64 y) rfl (by kernel_rfl) (by kernel_rfl) (by kernel_rfl) (by kernel_rfl) (by kernel_rfl) (fun _ _ _ h => h) (Or.inl ⟨by kernel_rfl, fun w9 h9 => ?_⟩) ⟨HL.out.weak, HLT.out⟩ ?_
        · have hc := lit_cell (C := [-1, 2199023255552, 2199023255553]) h9.2 hR; rw [hy] at hc; have hl := (Array.getElem?_eq_some_iff.1 h9.2).1; go_simp
        refine AnyE.one 8 (by kernel_rfl) rfl (by kernel_rfl) fun K hK => ?_
        go_simp
        go_wp2_with (go_at_call 20; refine Calls.mono (HN4.out _ HL.out.src) ?_; rintro e u7 ⟨R2, rfl, hR2, hs6, hg6⟩; have HD7 : Hid (CB B0 a len cap w p c (.slice ao n cp) n u7) := HL.out.step hs6 hg6; have HLT7 : Hid (u7.heap[bl]? = some (.cells (([-1, 2199023255552, 2199023255553] : List Int).map (Value.int .i64)).toArray 2 (0, 0))) := (hg6.block bl (Array.getElem?_eq_some_iff.1 HLT.out).1 (by have := HLB.out; simp; omega)).trans HLT.out; clear hs6 hg6)
        refine hK _ _ (fun _ => ⟨HD7.out.weak, HLT7.out⟩) ?_
        clear hK K
        have R20 : (0 : Int) ≤ (R2 : Int) := by omega
        have R21 : (R2 : Int) < 4 := by omega
        refine AnyE.take (i := 9) (v := .int .i64 (1 + (R2 : Int))) rfl (by kernel_rfl) (by kernel_rfl) (by kernel_rfl) (by kernel_rfl) (by kernel_rfl) (fun _ _ _ h => h) (Or.inl ⟨by kernel_rfl, fun w9 h9 => ?_⟩) ⟨HD7.out.weak, HLT7.out⟩ ?_
        · go_simp; rw [IntKind.wrap_i64]; omega
        refine AnyE.take (i := 10) (v := .agg #[.int .i64 y, .int .i64 0, .int .i64 (1 + (R2 : Int))]) rfl (by kernel_rfl) (by kernel_rfl) (by kernel_rfl) (by kernel_rfl) (by kernel_rfl) (fun _ _ _ h => h) (Or.inl ⟨by kernel_rfl, fun w9 h9 => ?_⟩) ⟨HD7.out.weak, HLT7.out⟩ ?_
        · go_simp
        refine AnyE.one 11 (by kernel_rfl) rfl (by kernel_rfl) fun K hK => ?_
        have HD2 : Hid (CB B0 a len cap w p c (.slice ao n cp) n (u7.alloc (.cells #[.int .i64 y, .int .i64 0, .int .i64 (1 + (R2 : Int))] 34))) := HD7.out.al _
        go_simp
        refine hK _ _ (fun _ => ⟨HD2.out.weak, ((bx1 _ _).block _ (Array.getElem?_eq_some_iff.1 HLT7.out).1).trans HLT7.out⟩) ?_
        clear hK K
        refine AnyE.one 12 (by kernel_rfl) rfl (by kernel_rfl) fun K hK => ?_
        obtain ⟨ys, hown⟩ := HD7.out.own
        have HAP : Hid _ := appTM hown (by have := HN10.out; omega) (by have := HD7.out.gr.size; have := HD7.out.lo; have := HD7.out.box.lt; omega) (y) (0) ((1 + (R2 : Int)))
        refine wp_append_ex _ _ 23 rfl (.slice ao n cp) (.slice (some ⟨u7.heap.size, 0, none⟩) 1 1) rfl rfl HAP.out ?_
        rintro sv u9 ⟨⟨zs, hz⟩, hg, hbk⟩
        obtain ⟨a5, c5, rfl⟩ := ti_sl hz
        have HA5 : Hid (CW B0 a len cap w p c (.slice ao n cp) u9 ∧ CB B0 a len cap w p c (.slice a5 (n + 1) c5) (n + 1) (u9.setCell ⟨p, 6, none⟩ (.slice a5 (n + 1) c5))) := HD2.out.app hg ⟨zs, hz⟩ (by simpa using hbk)
        clear hz hg hbk
        refine hK _ _ (fun h => absurd (by decide) h) ?_
        clear hK K hown HAP
        obtain ⟨x0, x1, x2, x3, x4, x5, x6, xf⟩ := HA5.out.1.box.cel
        have xl := HA5.out.1.box.lt
        refine AnyE.one 13 (by kernel_rfl) rfl (by kernel_rfl) fun K hK => ?_
        go_simp
        refine hK _ _ (fun h => absurd (by decide) h) ?_
        clear hK K
        refine AnyE.one 14 (by kernel_rfl) rfl (by kernel_rfl) fun K hK => ?_
        go_simp
        refine hK _ _ (fun h => absurd (by decide) h) ?_
        clear hK K
        refine AnyE.done (by kernel_rfl) ?_ _
        go_simp
        clear x0 x1 x2 x3 x4 x5 x6 xf xl
        go_upto_region 25 with fail
        have HZ : Hid (CB B0 a len cap w p c (.slice a5 (n + 1) c5) (n + 1) (u9.setCell ⟨p, 6, none⟩ (.slice a5 (n + 1) c5))) := HA5.out.2
        generalize (u9.setCell ⟨p, 6, none⟩ (.slice a5 (n + 1) c5)) = W9 at *
        generalize (c : CK) = c9 at *
        obtain ⟨k0, k1, k2, k3, k4, k5, k6, kf⟩ := HZ.out.box.cel
        have kl := HZ.out.box.lt
        obtain ⟨t0, t1, t2, t3, t4, t5, t6, tf⟩ := cel7 HZ.out.res
        have tl := (Array.getElem?_eq_some_iff.1 HZ.out.res).1
        go_wp2
        obtain ⟨hb, hrow, hsr, hgr⟩ := HZ.out.fin rfl
        obtain ⟨f0, f1, f2, f3, f4, f5, f6, ff⟩ := cel7 hb
        exact bodyPost_ret (v := ckA c9 (.slice a5 (n + 1) c5)) (by simp [results, Tryd.results10, go_sem, ckA, f0, f1, f2, f3, f4, f5, f6]) rfl ⟨c9, _, _, _, rfl, hgr⟩
      · skip
        go_simp
        go_wp2_with (go_at_call 20; refine Calls.mono (HN4.out _ HD6.out.src) ?_; rintro e u7 ⟨R2, rfl, hR2, hs6, hg6⟩; have HD7 : Hid (CB B0 a len cap w p c (.slice ao n cp) n u7) := HD6.out.step hs6 hg6; clear hs6 hg6)
        refine hK _ _ (fun _ => HD7.out.weak) ?_
        clear hK K
        have R20 : (0 : Int) ≤ (R2 : Int) := by omega
        have R21 : (R2 : Int) < 4 := by omega
        refine AnyE.take (i := 9) (v := .int .i64 (1 + (R2 : Int))) rfl (by kernel_rfl) (by kernel_rfl) (by kernel_rfl) (by kernel_rfl) (by kernel_rfl) (fun _ _ _ h => h) (Or.inl ⟨by kernel_rfl, fun w9 h9 => ?_⟩) HD7.out.weak ?_
        · go_simp; rw [IntKind.wrap_i64]; omega
        refine AnyE.one 2 (by kernel_rfl) rfl (by kernel_rfl) fun K hK => ?_
        have HL : Hid (CB B0 a len cap w p c (.slice ao n cp) n (u7.alloc (.cells #[.int .i64 (-1), .int .i64 2199023255552, .int .i64 2199023255553] 2))) := HD7.out.al _
        have HLT : Hid ((u7.alloc (.cells #[.int .i64 (-1), .int .i64 2199023255552, .int .i64 2199023255553] 2)).heap[u7.heap.size]? = some (.cells (([-1, 2199023255552, 2199023255553] : List Int).map (Value.int .i64)).toArray 2 (0, 0))) := (MapKept.heap_alloc u7 _).1
        have HLB : Hid (B0 < u7.heap.size) := Nat.lt_of_lt_of_le hlt HD7.out.gr.size
        go_simp
        refine hK _ _ (fun _ => HL.out.weak) ?_
        clear hK K
        generalize (u7.alloc (.cells #[.int .i64 (-1), .int .i64 2199023255552, .int .i64 2199023255553] 2)) = wl at *
        generalize u7.heap.size = bl at *
        refine AnyE.strong (S' := fun w9 => CW B0 a len cap w p c (.slice ao n cp) w9 ∧ w9.heap[bl]? = some (.cells (([-1, 2199023255552, 2199023255553] : List Int).map (Value.int .i64)).toArray 2 (0, 0))) (fun _ h => h.1) _ _ _ _ ?_
        obtain ⟨y, hy⟩ : ∃ y, ([-1, 2199023255552, 2199023255553] : List Int)[R]'hR = y := ⟨_, rfl⟩
        refine AnyE.take (i := 5) (v := .pointer (some ⟨bl, R, none⟩)) rfl (by kernel_rfl) (by kernel_rfl) (by kernel_rfl) (by kernel_rfl) (by kernel_rfl) (fun _ _ _ h => h) (Or.inl ⟨by kernel_rfl, fun w9 h9 => ?_⟩) ⟨HL.out.weak, HLT.out⟩ ?_
        · go_simp
        refine AnyE.take (i := 6) (v := .int .i64 y) rfl (by kernel_rfl) (by kernel_rfl) (by kernel_rfl) (by kernel_rfl) (by kernel_rfl) (fun _ _ _ h => h) (Or.inl ⟨by kernel_rfl, fun w9 h9 => ?_⟩) ⟨HL.out.weak, HLT.out⟩ ?_
        · have hc := lit_cell (C := [-1, 2199023255552, 2199023255553]) h9.2 hR; rw [hy] at hc; have hl := (Array.getElem?_eq_some_iff.1 h9.2).1; go_simp
        refine AnyE.take (i := 10) (v := .agg #[.int .i64 y, .int .i64 0, .int .i64 (1 + (R2 : Int))]) rfl (by kernel_rfl) (by kernel_rfl) (by kernel_rfl) (by kernel_rfl) (by kernel_rfl) (fun _ _ _ h => h) (Or.inl ⟨by kernel_rfl, fun w9 h9 => ?_⟩) ⟨HL.out.weak, HLT.out⟩ ?_
        · go_simp
        refine AnyE.one 11 (by kernel_rfl) rfl (by kernel_rfl) fun K hK => ?_
        have HD2 : Hid (CB B0 a len cap w p c (.slice ao n cp) n (wl.alloc (.cells #[.int .i64 y, .int .i64 0, .int .i64 (1 + (R2 : Int))] 34))) := HL.out.al _
        go_simp
        refine hK _ _ (fun _ => ⟨HD2.out.weak, ((bx1 _ _).block _ (Array.getElem?_eq_some_iff.1 HLT.out).1).trans HLT.out⟩) ?_
        clear hK K
        refine AnyE.one 12 (by kernel_rfl) rfl (by kernel_rfl) fun K hK => ?_
        obtain ⟨ys, hown⟩ := HL.out.own
        have HAP : Hid _ := appTM hown (by have := HN10.out; omega) (by have := HL.out.gr.size; have := HL.out.lo; have := HL.out.box.lt; omega) (y) (0) ((1 + (R2 : Int)))
        refine wp_append_ex _ _ 23 rfl (.slice ao n cp) (.slice (some ⟨wl.heap.size, 0, none⟩) 1 1) rfl rfl HAP.out ?_
        rintro sv u9 ⟨⟨zs, hz⟩, hg, hbk⟩
        obtain ⟨a5, c5, rfl⟩ := ti_sl hz
        have HA5 : Hid (CW B0 a len cap w p c (.slice ao n cp) u9 ∧ CB B0 a len cap w p c (.slice a5 (n + 1) c5) (n + 1) (u9.setCell ⟨p, 6, none⟩ (.slice a5 (n + 1) c5))) := HD2.out.app hg ⟨zs, hz⟩ (by simpa using hbk)
        clear hz hg hbk
        refine hK _ _ (fun h => absurd (by decide) h) ?_
        clear hK K hown HAP
        obtain ⟨x0, x1, x2, x3, x4, x5, x6, xf⟩ := HA5.out.1.box.cel
        have xl := HA5.out.1.box.lt
        refine AnyE.one 13 (by kernel_rfl) rfl (by kernel_rfl) fun K hK => ?_
        go_simp
        refine hK _ _ (fun h => absurd (by decide) h) ?_
        clear hK K
        refine AnyE.one 14 (by kernel_rfl) rfl (by kernel_rfl) fun K hK => ?_
        go_simp
        refine hK _ _ (fun h => absurd (by decide) h) ?_
        clear hK K
        refine AnyE.done (by kernel_rfl) ?_ _
        go_simp
        clear x0 x1 x2 x3 x4 x5 x6 xf xl
        go_upto_region 25 with fail
        have HZ : Hid (CB B0 a len cap w p c (.slice a5 (n + 1) c5) (n + 1) (u9.setCell ⟨p, 6, none⟩ (.slice a5 (n + 1) c5))) := HA5.out.2
        generalize (u9.setCell ⟨p, 6, none⟩ (.slice a5 (n + 1) c5)) = W9 at *
        generalize (c : CK) = c9 at *
        obtain ⟨k0, k1, k2, k3, k4, k5, k6, kf⟩ := HZ.out.box.cel
        have kl := HZ.out.box.lt
        obtain ⟨t0, t1, t2, t3, t4, t5, t6, tf⟩ := cel7 HZ.out.res
        have tl := (Array.getElem?_eq_some_iff.1 HZ.out.res).1
        go_wp2
        obtain ⟨hb, hrow, hsr, hgr⟩ := HZ.out.fin rfl
        obtain ⟨f0, f1, f2, f3, f4, f5, f6, ff⟩ := cel7 hb
        exact bodyPost_ret (v := ckA c9 (.slice a5 (n + 1) c5)) (by simp [results, Tryd.results10, go_sem, ckA, f0, f1, f2, f3, f4, f5, f6]) rfl ⟨c9, _, _, _, rfl, hgr⟩
  · go_upto_region 18 with fail
    have HD : Hid (CB B0 a len cap w p c (.slice ao n cp) n u4.drew) := HC4.out.drew
    refine AnyE.start (fun w9 => CW B0 a len cap w p c (.slice ao n cp) w9) [9, 10, 11] (by kernel_rfl) ?_
    generalize u4.drew = wd at *
    refine AnyE.take (i := 0) (v := .pointer (some ⟨p, 6, none⟩)) rfl (by kernel_rfl) (by kernel_rfl) (by kernel_rfl) (by kernel_rfl) (by kernel_rfl) (fun _ _ _ h => h) (Or.inl ⟨by kernel_rfl, fun w9 h9 => ?_⟩) HD.out.weak ?_
    · go_simp
    refine AnyE.take (i := 1) (v := .slice ao n cp) rfl (by kernel_rfl) (by kernel_rfl) (by kernel_rfl) (by kernel_rfl) (by kernel_rfl) (fun _ _ _ h => h) (Or.inl ⟨by kernel_rfl, fun w9 h9 => ?_⟩) HD.out.weak ?_
    · obtain ⟨y0, y1, y2, y3, y4, y5, y6, yf⟩ := h9.box.cel; have yl := h9.box.lt; go_simp
    refine AnyE.take (i := 3) (v := .pointer (some ⟨B0, 0, none⟩)) rfl (by kernel_rfl) (by kernel_rfl) (by kernel_rfl) (by kernel_rfl) (by kernel_rfl) (fun _ _ _ h => h) (Or.inl ⟨by kernel_rfl, fun w9 h9 => ?_⟩) HD.out.weak ?_
    · go_simp
    refine AnyE.two 2 4 (by kernel_rfl) rfl rfl (by kernel_rfl) (by kernel_rfl) (fun K hK => ?_) (fun K hK => ?_)
    · skip
      have HL : Hid (CB B0 a len cap w p c (.slice ao n cp) n (wd.alloc (.cells #[.int .i64 (-1), .int .i64 1099511627776, .int .i64 1099511627777] 2))) := HD.out.al _
      have HLT : Hid ((wd.alloc (.cells #[.int .i64 (-1), .int .i64 1099511627776, .int .i64 1099511627777] 2)).heap[wd.heap.size]? = some (.cells (([-1, 1099511627776, 1099511627777] : List Int).map (Value.int .i64)).toArray 2 (0, 0))) := (MapKept.heap_alloc wd _).1
      have HLB : Hid (B0 < wd.heap.size) := Nat.lt_of_lt_of_le hlt HD.out.gr.size
      go_simp
      refine hK _ _ (fun _ => HL.out.weak) ?_
      clear hK K
      generalize (wd.alloc (.cells #[.int .i64 (-1), .int .i64 1099511627776, .int .i64 1099511627777] 2)) = wl at *
      generalize wd.heap.size = bl at *
      refine AnyE.strong (S' := fun w9 => CW B0 a len cap w p c (.slice ao n cp) w9 ∧ w9.heap[bl]? = some (.cells (([-1, 1099511627776, 1099511627777] : List Int).map (Value.int .i64)).toArray 2 (0, 0))) (fun _ h => h.1) _ _ _ _ ?_
      refine AnyE.one 4 (by kernel_rfl) rfl (by kernel_rfl) fun K hK => ?_
      go_simp
      go_wp2_with (go_at_call 20; refine Calls.mono (HN3.out _ HL.out.src) ?_; rintro e u6 ⟨R, rfl, hR, hs6, hg6⟩; have HD6 : Hid (CB B0 a len cap w p c (.slice ao n cp) n u6) := HL.out.step hs6 hg6; have HLT6 : Hid (u6.heap[bl]? = some (.cells (([-1, 1099511627776, 1099511627777] : List Int).map (Value.int .i64)).toArray 2 (0, 0))) := (hg6.block bl (Array.getElem?_eq_some_iff.1 HLT.out).1 (by have := HLB.out; simp; omega)).trans HLT.out; clear hs6 hg6)
      refine hK _ _ (fun _ => ⟨HD6.out.weak, HLT6.out⟩) ?_
      clear hK K
      have R0 : (0 : Int) ≤ (R : Int) := by omega
      have R1 : (R : Int) < 3 := by omega
      obtain ⟨y, hy⟩ : ∃ y, ([-1, 1099511627776, 1099511627777] : List Int)[R]'hR = y := ⟨_, rfl⟩
      refine AnyE.take (i := 5) (v := .pointer (some ⟨bl, R, none⟩)) rfl (by kernel_rfl) (by kernel_rfl) (by kernel_rfl) (by kernel_rfl) (by kernel_rfl) (fun _ _ _ h => h) (Or.inl ⟨by kernel_rfl, fun w9 h9 => ?_⟩) ⟨HD6.out.weak, HLT6.out⟩ ?_
      · go_simp
      refine AnyE.take (i := 6) (v := .int .i64 y) rfl (by kernel_rfl) (by kernel_rfl) (by kernel_rfl) (by kernel_rfl) (by kernel_rfl) (fun _ _ _ h => h) (Or.inl ⟨by kernel_rfl, fun w9 h9 => ?_⟩) ⟨HD6.out.weak, HLT6.out⟩ ?_
      · have hc := lit_cell (C := [-1, 1099511627776, 1099511627777]) h9.2 hR; rw [hy] at hc; have hl := (Array.getElem?_eq_some_iff.1 h9.2).1; go_simp
      refine AnyE.take (i := 7) (v := .agg #[.int .i64 0, .int .i64 y, .int .i64 1]) rfl (by kernel_rfl) (by kernel_rfl) (by kernel_rfl) (by kernel_rfl) (by kernel_rfl) (fun _ _ _ h => h) (Or.inl ⟨by kernel_rfl, fun w9 h9 => ?_⟩) ⟨HD6.out.weak, HLT6.out⟩ ?_
      · go_simp
      refine AnyE.one 8 (by kernel_rfl) rfl (by kernel_rfl) fun K hK => ?_
      have HD2 : Hid (CB B0 a len cap w p c (.slice ao n cp) n (u6.alloc (.cells #[.int .i64 0, .int .i64 y, .int .i64 1] 34))) := HD6.out.al _
      go_simp
      refine hK _ _ (fun _ => ⟨HD2.out.weak, ((bx1 _ _).block _ (Array.getElem?_eq_some_iff.1 HLT6.out).1).trans HLT6.out⟩) ?_
      clear hK K
      refine AnyE.one 9 (by kernel_rfl) rfl (by kernel_rfl) fun K hK => ?_
      obtain ⟨ys, hown⟩ := HD6.out.own
      have HAP : Hid _ := appTM hown (by have := HN10.out; omega) (by have := HD6.out.gr.size; have := HD6.out.lo; have := HD6.out.box.lt; omega) (0) (y) (1)
      refine wp_append_ex _ _ 23 rfl (.slice ao n cp) (.slice (some ⟨u6.heap.size, 0, none⟩) 1 1) rfl rfl HAP.out ?_
      rintro sv u9 ⟨⟨zs, hz⟩, hg, hbk⟩
      obtain ⟨a5, c5, rfl⟩ := ti_sl hz
      have HA5 : Hid (CW B0 a len cap w p c (.slice ao n cp) u9 ∧ CB B0 a len cap w p c (.slice a5 (n + 1) c5) (n + 1) (u9.setCell ⟨p, 6, none⟩ (.slice a5 (n + 1) c5))) := HD2.out.app hg ⟨zs, hz⟩ (by simpa using hbk)
      clear hz hg hbk
      refine hK _ _ (fun h => absurd (by decide) h) ?_
      clear hK K hown HAP
      obtain ⟨x0, x1, x2, x3, x4, x5, x6, xf⟩ := HA5.out.1.box.cel
      have xl := HA5.out.1.box.lt
      refine AnyE.one 10 (by kernel_rfl) rfl (by kernel_rfl) fun K hK => ?_
      go_simp
      refine hK _ _ (fun h => absurd (by decide) h) ?_
      clear hK K
      refine AnyE.one 11 (by kernel_rfl) rfl (by kernel_rfl) fun K hK => ?_
      go_simp
      refine hK _ _ (fun h => absurd (by decide) h) ?_
      clear hK K
      refine AnyE.done (by kernel_rfl) ?_ _
      go_simp
      clear x0 x1 x2 x3 x4 x5 x6 xf xl
      go_upto_region 25 with fail
      have HZ : Hid (CB B0 a len cap w p c (.slice a5 (n + 1) c5) (n + 1) (u9.setCell ⟨p, 6, none⟩ (.slice a5 (n + 1) c5))) := HA5.out.2
      generalize (u9.setCell ⟨p, 6, none⟩ (.slice a5 (n + 1) c5)) = W9 at *
      generalize (c : CK) = c9 at *
      obtain ⟨k0, k1, k2, k3, k4, k5, k6, kf⟩ := HZ.out.box.cel
      have kl := HZ.out.box.lt
      obtain ⟨t0, t1, t2, t3, t4, t5, t6, tf⟩ := cel7 HZ.out.res
      have tl := (Array.getElem?_eq_some_iff.1 HZ.out.res).1
      go_wp2
      obtain ⟨hb, hrow, hsr, hgr⟩ := HZ.out.fin rfl
      obtain ⟨f0, f1, f2, f3, f4, f5, f6, ff⟩ := cel7 hb
      exact bodyPost_ret (v := ckA c9 (.slice a5 (n + 1) c5)) (by simp [results, Tryd.results10, go_sem, ckA, f0, f1, f2, f3, f4, f5, f6]) rfl ⟨c9, _, _, _, rfl, hgr⟩
    · skip
      go_simp
      go_wp2_with (go_at_call 20; refine Calls.mono (HN3.out _ HD.out.src) ?_; rintro e u6 ⟨R, rfl, hR, hs6, hg6⟩; have HD6 : Hid (CB B0 a len cap w p c (.slice ao n cp) n u6) := HD.out.step hs6 hg6; clear hs6 hg6)
      refine hK _ _ (fun _ => HD6.out.weak) ?_
      clear hK K
      have R0 : (0 : Int) ≤ (R : Int) := by omega
      have R1 : (R : Int) < 3 := by omega
      refine AnyE.one 2 (by kernel_rfl) rfl (by kernel_rfl) fun K hK => ?_
      have HL : Hid (CB B0 a len cap w p c (.slice ao n cp) n (u6.alloc (.cells #[.int .i64 (-1), .int .i64 1099511627776, .int .i64 1099511627777] 2))) := HD6.out.al _
      have HLT : Hid ((u6.alloc (.cells #[.int .i64 (-1), .int .i64 1099511627776, .int .i64 1099511627777] 2)).heap[u6.heap.size]? = some (.cells (([-1, 1099511627776, 1099511627777] : List Int).map (Value.int .i64)).toArray 2 (0, 0))) := (MapKept.heap_alloc u6 _).1
      have HLB : Hid (B0 < u6.heap.size) := Nat.lt_of_lt_of_le hlt HD6.out.gr.size
      go_simp
      refine hK _ _ (fun _ => HL.out.weak) ?_
      clear hK K
      generalize (u6.alloc (.cells #[.int .i64 (-1), .int .i64 1099511627776, .int .i64 1099511627777] 2)) = wl at *
      generalize u6.heap.size = bl at *
      refine AnyE.strong (S' := fun w9 => CW B0 a len cap w p c (.slice ao n cp) w9 ∧ w9.heap[bl]? = some (.cells (([-1, 1099511627776, 1099511627777] : List Int).map (Value.int .i64)).toArray 2 (0, 0))) (fun _ h => h.1) _ _ _ _ ?_
      obtain ⟨y, hy⟩ : ∃ y, ([-1, 1099511627776, 1099511627777] : List Int)[R]'hR = y := ⟨_, rfl⟩
      refine AnyE.take (i := 5) (v := .pointer (some ⟨bl, R, none⟩)) rfl (by kernel_rfl) (by kernel_rfl) (by kernel_rfl) (by kernel_rfl) (by kernel_rfl) (fun _ _ _ h => h) (Or.inl ⟨by kernel_rfl, fun w9 h9 => ?_⟩) ⟨HL.out.weak, HLT.out⟩ ?_
      · go_simp
      refine AnyE.take (i := 6) (v := .int .i64 y) rfl (by kernel_rfl) (by kernel_rfl) (by kernel_rfl) (by kernel_rfl) (by kernel_rfl) (fun _ _ _ h => h) (Or.inl ⟨by kernel_rfl, fun w9 h9 => ?_⟩) ⟨HL.out.weak, HLT.out⟩ ?_
      · have hc := lit_cell (C := [-1, 1099511627776, 1099511627777]) h9.2 hR; rw [hy] at hc; have hl := (Array.getElem?_eq_some_iff.1 h9.2).1; go_simp
      refine AnyE.take (i := 7) (v := .agg #[.int .i64 0, .int .i64 y, .int .i64 1]) rfl (by kernel_rfl) (by kernel_rfl) (by kernel_rfl) (by kernel_rfl) (by kernel_rfl) (fun _ _ _ h => h) (Or.inl ⟨by kernel_rfl, fun w9 h9 => ?_⟩) ⟨HL.out.weak, HLT.out⟩ ?_
      · go_simp
      refine AnyE.one 8 (by kernel_rfl) rfl (by kernel_rfl) fun K hK => ?_
      have HD2 : Hid (CB B0 a len cap w p c (.slice ao n cp) n (wl.alloc (.cells #[.int .i64 0, .int .i64 y, .int .i64 1] 34))) := HL.out.al _
      go_simp
      refine hK _ _ (fun _ => ⟨HD2.out.weak, ((bx1 _ _).block _ (Array.getElem?_eq_some_iff.1 HLT.out).1).trans HLT.out⟩) ?_
      clear hK K
      refine AnyE.one 9 (by kernel_rfl) rfl (by kernel_rfl) fun K hK => ?_
      obtain ⟨ys, hown⟩ := HL.out.own
      have HAP : Hid _ := appTM hown (by have := HN10.out; omega) (by have := HL.out.gr.size; have := HL.out.lo; have := HL.out.box.lt; omega) (0) (y) (1)
      refine wp_append_ex _ _ 23 rfl (.slice ao n cp) (.slice (some ⟨wl.heap.size, 0, none⟩) 1 1) rfl rfl HAP.out ?_
      rintro sv u9 ⟨⟨zs, hz⟩, hg, hbk⟩
      obtain ⟨a5, c5, rfl⟩ := ti_sl hz
      have HA5 : Hid (CW B0 a len cap w p c (.slice ao n cp) u9 ∧ CB B0 a len cap w p c (.slice a5 (n + 1) c5) (n + 1) (u9.setCell ⟨p, 6, none⟩ (.slice a5 (n + 1) c5))) := HD2.out.app hg ⟨zs, hz⟩ (by simpa using hbk)
      clear hz hg hbk
      refine hK _ _ (fun h => absurd (by decide) h) ?_
      clear hK K hown HAP
      obtain ⟨x0, x1, x2, x3, x4, x5, x6, xf⟩ := HA5.out.1.box.cel
      have xl := HA5.out.1.box.lt
      refine AnyE.one 10 (by kernel_rfl) rfl (by kernel_rfl) fun K hK => ?_
      go_simp
      refine hK _ _ (fun h => absurd (by decide) h) ?_
      clear hK K
      refine AnyE.one 11 (by kernel_rfl) rfl (by kernel_rfl) fun K hK => ?_
      go_simp
      refine hK _ _ (fun h => absurd (by decide) h) ?_
      clear hK K
      refine AnyE.done (by kernel_rfl) ?_ _
      go_simp
      clear x0 x1 x2 x3 x4 x5 x6 xf xl
      go_upto_region 25 with fail
      have HZ : Hid (CB B0 a len cap w p c (.slice a5 (n + 1) c5) (n + 1) (u9.setCell ⟨p, 6, none⟩ (.slice a5 (n + 1) c5))) := HA5.out.2
      generalize (u9.setCell ⟨p, 6, none⟩ (.slice a5 (n + 1) c5)) = W9 at *
      generalize (c : CK) = c9 at *
      obtain ⟨k0, k1, k2, k3, k4, k5, k6, kf⟩ := HZ.out.box.cel
      have kl := HZ.out.box.lt
      obtain ⟨t0, t1, t2, t3, t4, t5, t6, tf⟩ := cel7 HZ.out.res
      have tl := (Array.getElem?_eq_some_iff.1 HZ.out.res).1
      go_wp2
      obtain ⟨hb, hrow, hsr, hgr⟩ := HZ.out.fin rfl
      obtain ⟨f0, f1, f2, f3, f4, f5, f6, ff⟩ := cel7 hb
      exact bodyPost_ret (v := ckA c9 (.slice a5 (n + 1) c5)) (by simp [results, Tryd.results10, go_sem, ckA, f0, f1, f2, f3, f4, f5, f6]) rfl ⟨c9, _, _, _, rfl, hgr⟩
  · obtain ⟨k0, k1, k2, k3, k4, k5, k6, kf⟩ := HC4.out.box.cel
    have kl := HC4.out.box.lt
    go_upto_region 21 with fail
    clear k0 k1 k2 k3 k4 k5 k6 kf kl
    have HC5 : Hid (CB B0 a len cap w p c (.slice (some ⟨u4.heap.size, 0, none⟩) 0 0) 0 ((u4.setCell ⟨p, 6, none⟩ (.slice (some ⟨u4.heap.size, 0, none⟩) 0 0)).alloc (.cells #[] 34))) := HC4.out.put6b
    generalize ((u4.setCell ⟨p, 6, none⟩ (.slice (some ⟨u4.heap.size, 0, none⟩) 0 0)).alloc (.cells #[] 34)) = u5 at *
    generalize u4.heap.size = e4 at *
    clear HC4
    go_wp2_with (go_at_call 20; refine Calls.mono (HN3.out _ HC5.out.src) ?_; rintro e u6 ⟨R, rfl, hR, hs6, hg6⟩; have HC6 : Hid (CB B0 a len cap w p c (.slice (some ⟨e4, 0, none⟩) 0 0) 0 u6) := HC5.out.step hs6 hg6; clear hs6 hg6 HC5; have hR0 : (0 : Int) ≤ (R : Int) := (by omega); have hR1 : (R : Int) < 3 := (by omega))
    go_loopw [4] (fun k wr => ∃ (j n : Nat) (ao : Option Addr) (cp : Nat), k = .int .i64 j ∧ n + j ≤ 21 ∧ CB B0 a len cap w p c (.slice ao n cp) n wr) (fun k _ => (intOf k).toNat)
    case atStart => exact ⟨19 + R, 0, some ⟨e4, 0, none⟩, 0, by go_num, by omega, HC6.out⟩
    case round =>
      obtain ⟨j, n, ao, cp, rfl, hj, ht⟩ := hrel
      have HT : Hid (CB B0 a len cap w p c (.slice ao n cp) n wr) := ht
      clear ht HC6
      by_cases hj0 : j = 0
      · subst hj0
        obtain ⟨k0, k1, k2, k3, k4, k5, k6, kf⟩ := HT.out.box.cel
        have kl := HT.out.box.lt
        obtain ⟨t0, t1, t2, t3, t4, t5, t6, tf⟩ := cel7 HT.out.res
        have tl := (Array.getElem?_eq_some_iff.1 HT.out.res).1
        go_wp2
        obtain ⟨hb, hrow, hsr, hgr⟩ := HT.out.fin rfl
        obtain ⟨f0, f1, f2, f3, f4, f5, f6, ff⟩ := cel7 hb
        exact bodyPost_ret (v := ckA c (.slice ao n cp)) (by simp [results, Tryd.results10, go_sem, ckA, f0, f1, f2, f3, f4, f5, f6]) rfl ⟨c, _, _, _, rfl, hgr⟩
      · have j1 : (0 : Int) < (j : Int) := by omega
        have hj9 : (j : Int) ≤ 21 := by omega
        go_upto_region 24 with fail
        have HD : Hid (CB B0 a len cap w p c (.slice ao n cp) n wr.drew) := HT.out.drew
        refine AnyE.start (fun w9 => CW B0 a len cap w p c (.slice ao n cp) w9) [7] (by kernel_rfl) ?_
        generalize wr.drew = wd at *
        refine AnyE.take (i := 0) (v := .pointer (some ⟨p, 6, none⟩)) rfl (by kernel_rfl) (by kernel_rfl) (by kernel_rfl) (by kernel_rfl) (by kernel_rfl) (fun _ _ _ h => h) (Or.inl ⟨by kernel_rfl, fun w9 h9 => ?_⟩) HD.out.weak ?_
        · go_simp
        refine AnyE.take (i := 1) (v := .slice ao n cp) rfl (by kernel_rfl) (by kernel_rfl) (by kernel_rfl) (by kernel_rfl) (by kernel_rfl) (fun _ _ _ h => h) (Or.inl ⟨by kernel_rfl, fun w9 h9 => ?_⟩) HD.out.weak ?_
        · obtain ⟨y0, y1, y2, y3, y4, y5, y6, yf⟩ := h9.box.cel; have yl := h9.box.lt; go_simp
        refine AnyE.take (i := 2) (v := .pointer (some ⟨B0, 0, none⟩)) rfl (by kernel_rfl) (by kernel_rfl) (by kernel_rfl) (by kernel_rfl) (by kernel_rfl) (fun _ _ _ h => h) (Or.inl ⟨by kernel_rfl, fun w9 h9 => ?_⟩) HD.out.weak ?_
        · go_simp
        refine AnyE.one 3 (by kernel_rfl) rfl (by kernel_rfl) fun K hK => ?_
        go_simp
        go_wp2_with (go_at_call 21; refine Calls.mono (HTM.out _ HD.out.src) ?_; rintro e u1 ⟨m0, m1, m2, rfl, hs1, hg1⟩; have HD1 : Hid (CB B0 a len cap w p c (.slice ao n cp) n u1) := HD.out.step hs1 hg1; clear hs1 hg1)
        refine hK _ _ (fun _ => HD1.out.weak) ?_
        clear hK K
        refine AnyE.one 4 (by kernel_rfl) rfl (by kernel_rfl) fun K hK => ?_
        have HD2 : Hid (CB B0 a len cap w p c (.slice ao n cp) n (u1.alloc (.cells #[.int .i64 m0, .int .i64 m1, .int .i64 m2] 34))) := HD1.out.al _
        go_simp
        refine hK _ _ (fun _ => HD2.out.weak) ?_
        clear hK K
        refine AnyE.one 5 (by kernel_rfl) rfl (by kernel_rfl) fun K hK => ?_
        obtain ⟨ys, hown⟩ := HD1.out.own
        have HAP : Hid _ := appTM hown (by omega) (by have := HD1.out.gr.size; have := HD1.out.lo; have := HD1.out.box.lt; omega) m0 m1 m2
        refine wp_append_ex _ _ 23 rfl (.slice ao n cp) (.slice (some ⟨u1.heap.size, 0, none⟩) 1 1) rfl rfl HAP.out ?_
        rintro sv u5 ⟨⟨zs, ho⟩, hg, hbk⟩
        obtain ⟨a5, c5, rfl⟩ := ti_sl ho
        have HA5 : Hid (CW B0 a len cap w p c (.slice ao n cp) u5 ∧ CB B0 a len cap w p c (.slice a5 (n + 1) c5) (n + 1) (u5.setCell ⟨p, 6, none⟩ (.slice a5 (n + 1) c5))) := HD2.out.app hg ⟨zs, ho⟩ (by simpa using hbk)
        clear ho hg hbk
        refine hK _ _ (fun _ => HA5.out.1) ?_
        clear hK K hown HAP
        refine AnyE.take (i := 6) (v := .pointer (some ⟨p, 6, none⟩)) rfl (by kernel_rfl) (by kernel_rfl) (by kernel_rfl) (by kernel_rfl) (by kernel_rfl) (fun _ _ _ h => h) (Or.inl ⟨by kernel_rfl, fun w9 h9 => ?_⟩) HA5.out.1 ?_
        · go_simp
        obtain ⟨x0, x1, x2, x3, x4, x5, x6, xf⟩ := HA5.out.1.box.cel
        have xl := HA5.out.1.box.lt
        refine AnyE.one 7 (by kernel_rfl) rfl (by kernel_rfl) fun K hK => ?_
        go_simp
        skip
        refine hK _ _ (fun h => absurd (by decide) h) ?_
        clear hK K
        refine AnyE.done (by kernel_rfl) ?_ _
        go_simp
        clear x0 x1 x2 x3 x4 x5 x6 xf xl
        go_wp2
        exact ⟨⟨j - 1, n + 1, _, _, by go_num, by omega, HA5.out.2⟩, by simp [intOf]; omega⟩
end Go.Proofs.YtegcbghhcidcaaaDoor
