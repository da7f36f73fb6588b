import Derived.Test.YtomfbiiegcmmlabCt3
namespace Go.Proofs.Ytomfbiiegcmmlab
open Go.ChangeShapes Go.WideShapes Go.ChangeAt Go.RowKit

set_option maxRecDepth 100000
/-- Guests whose rows may be written. -/
structure GW (w : World) (lo hi g o : Nat) (qs : List MG) (gs : List GS) : Prop where
  g0 : lo ≤ g
  g1 : g < hi
  blk : ∃ cur : Array Value, w.heap[g]? = some (.cells cur 67 (0, 0)) ∧ o + qs.length * 3 ≤ cur.size
  gk : ∀ k (hk : k < qs.length), w.cell? ⟨g, o + k * 3, none⟩ = some qs[k].s ∧ w.cell? ⟨g, o + k * 3 + 2, none⟩ = some qs[k].h
  el : ∀ k (hq : k < qs.length) (hc : k < gs.length), WS 70 w lo hi qs[k].s gs[k].ss.length 3 ∧ WS 2 w lo hi qs[k].h gs[k].hs.length 1
theorem GW.mv {t : TypeId} (hne : 67 ≠ t) {w u : World} {lo hi lo2 hi2 g o : Nat} {qs : List MG} {gs : List GS} (h : GW w lo hi g o qs gs) (m : MK t lo2 hi2 w u) : GW u lo hi g o qs gs := by
  obtain ⟨cur, hc, hs⟩ := h.blk
  have e := m.oth g _ hc (fun arr q => by injection q with q1 q2; exact hne q2)
  refine ⟨h.g0, h.g1, ⟨cur, e, hs⟩, fun k hk => ?_, fun k hq hc2 => ⟨(h.el k hq hc2).1.mk m, (h.el k hq hc2).2.mk m⟩⟩
  have hh := h.gk k hk
  simp only [World.cell?, hc] at hh
  simp only [World.cell?, e]
  exact hh
theorem GW.set {w : World} {lo hi g o : Nat} {qs : List MG} {gs : List GS} (h : GW w lo hi g o qs gs) (k : Nat) (x : Value) : GW (w.setCell ⟨g, o + k * 3 + 1, none⟩ x) lo hi g o qs gs := by
  obtain ⟨cur, hc, hs⟩ := h.blk
  have m : MK 67 lo hi w (w.setCell ⟨g, o + k * 3 + 1, none⟩ x) := MK.set h.g0 h.g1 hc
  refine ⟨h.g0, h.g1, ⟨_, set_blk hc _ _, by simpa using hs⟩, fun j hj => ?_, fun j hq hc2 => ⟨(h.el j hq hc2).1.mk m, (h.el j hq hc2).2.mk m⟩⟩
  rw [cell_setne (by omega), cell_setne (by omega)]
  exact h.gk j hj
theorem GW.cel {w : World} {lo hi g o : Nat} {qs : List MG} {gs : List GS} (h : GW w lo hi g o qs gs) (k : Nat) (hk : k < qs.length) : (∃ y, w.cell? ⟨g, o + k * 3 + 1, none⟩ = some y) ∧ w.frozen? ⟨g, o + k * 3 + 1, none⟩ = false ∧ g < w.heap.size := by
  obtain ⟨cur, hc, hs⟩ := h.blk
  have hlt : o + k * 3 + 1 < cur.size := by omega
  exact ⟨⟨cur[o + k * 3 + 1], by simp [World.cell?, hc, hlt]⟩, by simp [World.frozen?, hc], (Array.getElem?_eq_some_iff.1 hc).1⟩
def GV (w : World) (lo hi : Nat) (ao : Option Addr) (qs : List MG) (gs : List GS) : Prop := qs.length = 0 ∨ ∃ g o, ao = some ⟨g, o, none⟩ ∧ GW w lo hi g o qs gs
theorem GV.mk {t : TypeId} (hne : 67 ≠ t) {w u : World} {lo hi lo2 hi2 : Nat} {ao : Option Addr} {qs : List MG} {gs : List GS} (h : GV w lo hi ao qs gs) (m : MK t lo2 hi2 w u) : GV u lo hi ao qs gs := by
  rcases h with h | ⟨g, o, e, h⟩
  · exact .inl h
  · exact .inr ⟨g, o, e, h.mv hne m⟩
set_option maxHeartbeats 4000000 in
theorem markGuestS_w {w : World} {lo hi : Nat} {ao : Option Addr} {cap : Nat} {qs : List MG} {gs : List GS} (k0 : Nat) (h : GV w lo hi ao qs gs) (hq : qs.length = gs.length) (hn : qs.length ≤ 1048576) (hls : ∀ k (hk : k < gs.length), gs[k].ss.length ≤ 1048576) (hlh : ∀ k (hk : k < gs.length), gs[k].hs.length ≤ 1048576) (hk1 : 1 ≤ k0) (hk2 : k0 ≤ 4194304) : Calls Try.prog 43 #[.slice ao qs.length cap, .int .i64 (k0 : Nat)] w fun e w' => ∃ kk : Nat, e = .returned (.int .i64 (kk : Nat)) ∧ GI lo hi w w' := by
  have HW : Hid (GV w lo hi ao qs gs) := h
  have HQ : Hid (qs.length = gs.length) := hq
  have HLS : Hid (∀ k (hk : k < gs.length), gs[k].ss.length ≤ 1048576) := hls
  have HLH : Hid (∀ k (hk : k < gs.length), gs[k].hs.length ≤ 1048576) := hlh
  clear h hls hlh hq
  go_enter Try.func43, Try.ntmps43
  go_wp2
  go_loopw [1, 5] (fun x i wr => ∃ k kk : Nat, k ≤ qs.length ∧ 1 ≤ kk ∧ kk ≤ 4194304 + k * 4194305 ∧ x = .int .i64 (kk : Nat) ∧ i = .int .i64 (k : Nat) ∧ GI lo hi w wr ∧ GV wr lo hi ao qs gs) (fun _ i _ => qs.length - (intOf i).toNat)
  case atStart => exact ⟨0, k0, Nat.zero_le _, hk1, by omega, rfl, rfl, GI.refl _ _ _, HW.out⟩
  case round =>
    obtain ⟨k, kk, hk, hkk1, hkk2, rfl, rfl, hm, hv⟩ := hrel
    have HM : Hid (GI lo hi w wr) := hm
    by_cases hlt : k < qs.length
    · rcases hv with hv | ⟨g, o, rfl, hv⟩
      · omega
      have hqc : k < gs.length := by rw [← HQ.out]; exact hlt
      obtain ⟨c0, c2⟩ := hv.gk k hlt
      obtain ⟨⟨y1, c1⟩, f1, hg⟩ := hv.cel k hlt
      obtain ⟨w1, w2⟩ := hv.el k hlt hqc
      obtain ⟨as1, ks1, es⟩ := w1.sl
      obtain ⟨ah1, kh1, eh⟩ := w2.sl
      have ls := HLS.out k hqc
      have lh := HLH.out k hqc
      generalize hSS : gs[k].ss.length = S at *
      generalize hHH : gs[k].hs.length = H at *
      rw [es] at c0 w1
      rw [eh] at c2 w2
      have HV : Hid (GW wr lo hi g o qs gs) := hv
      have HW1 : Hid (WS 70 wr lo hi (.slice as1 S ks1) S 3) := w1
      have HW2 : Hid (∀ u, (∃ t l2 h2, MK t l2 h2 wr u) → WS 2 u lo hi (.slice ah1 H kh1) H 1) := fun u ⟨_, _, _, m⟩ => w2.mk m
      have HC : Hid (∀ u, GW u lo hi g o qs gs → u.cell? ⟨g, o + k * 3 + 2, none⟩ = some (.slice ah1 H kh1) ∧ (∃ y, u.cell? ⟨g, o + k * 3 + 1, none⟩ = some y) ∧ u.frozen? ⟨g, o + k * 3 + 1, none⟩ = false ∧ g < u.heap.size ∧ WS 2 u lo hi (.slice ah1 H kh1) H 1) := fun u x => ⟨by rw [(x.gk k hlt).2, eh], (x.cel k hlt).1, (x.cel k hlt).2.1, (x.cel k hlt).2.2, by have := (x.el k hlt hqc).2; rw [eh, hHH] at this; exact this⟩
      have hk0 : (0 : Int) ≤ (k : Int) := by omega
      have hk1' : (k : Int) < (qs.length : Int) := by omega
      have HN : Hid (k < qs.length) := hlt
      obtain ⟨k3, hk3⟩ : ∃ k3 : Nat, kk + S * 3 = k3 := ⟨_, rfl⟩
      have hb3 : k3 ≤ 140737488350000 := by omega
      have HM1 : Hid _ := markSL_w kk HW1.out (by omega) (by omega)
      rw [hk3] at HM1
      have HMT : Hid (∀ u, Calls Try.prog 44 #[.int .i64 (k3 : Nat)] u fun e w' => e = .returned (.string (mtx (k3 : Int))) ∧ Below u.heap.size u w') := fun u => markText_any k3 (by omega) (by omega) u
      generalize mtx (k3 : Int) = X at HMT
      have HM2 : Hid (∀ u, WS 2 u lo hi (.slice ah1 H kh1) H 1 → Calls Try.prog 78 #[.slice ah1 H kh1, .int .i64 ((k3 + 1 : Nat) : Int)] u fun e w' => e = .returned (.int .i64 ((k3 + 1 + H : Nat) : Int)) ∧ MK 2 lo hi u w') := fun u x => markIS_w (k3 + 1) x (by omega) (by omega)
      have HKB : Hid (1 ≤ k3 + 1 + H ∧ k3 + 1 + H ≤ 4194304 + (k + 1) * 4194305) := ⟨by omega, by omega⟩
      have hkb : k ≤ 1048576 := by omega
      clear hv w1 w2 es eh hm hqc hSS hHH hk3 hkk1 hkk2 ls lh hk HW2 HW1 hlt hn hk2
      go_wp2_with fail
      refine Calls.mono HM1.out ?_
      rintro e u1 ⟨rfl, m1⟩
      have HV1 : Hid (GW u1 lo hi g o qs gs) := HV.out.mv (by decide) m1
      have HG1 : Hid (GI lo hi w u1) := HM.out.trans m1.gi
      clear m1 c0 c1 c2 f1 hg
      go_wp2_with fail
      refine Calls.mono (HMT.out _) ?_
      rintro e u2 ⟨rfl, b2⟩
      have m2 : MK 2 lo hi u1 u2 := MK.of_below b2
      have HV2 : Hid (GW u2 lo hi g o qs gs) := HV1.out.mv (by decide) m2
      have HG2 : Hid (GI lo hi w u2) := HG1.out.trans m2.gi
      obtain ⟨c2, ⟨y1, c1⟩, f1, hg, _⟩ := HC.out _ HV2.out
      have HV3 : Hid (GW (u2.setCell ⟨g, o + k * 3 + 1, none⟩ (.string X)) lo hi g o qs gs) := HV2.out.set k _
      have HG3 : Hid (GI lo hi w (u2.setCell ⟨g, o + k * 3 + 1, none⟩ (.string X))) := HG2.out.trans (GI.set HV2.out.g0 HV2.out.g1)
      obtain ⟨d2, _, _, d4, d5⟩ := HC.out _ HV3.out
      have HD5 : Hid _ := d5
      clear m2 b2 d5
      go_wp2_with fail
      refine Calls.mono (HM2.out _ HD5.out) ?_
      rintro e u4 ⟨rfl, m4⟩
      have HV4 : Hid (GW u4 lo hi g o qs gs) := HV3.out.mv (by decide) m4
      have HG4 : Hid (GI lo hi w u4) := HG3.out.trans m4.gi
      clear m4 c1 c2 f1 hg d2 d4
      go_wp2
      exact ⟨⟨k + 1, k3 + 1 + H, HN.out, HKB.out.1, HKB.out.2, rfl, by simp, HG4.out, .inr ⟨g, o, rfl, HV4.out⟩⟩, by have := HN.out; simp [intOf]; omega⟩
    · obtain rfl : k = qs.length := by omega
      go_wp2
      go_ret
      exact ⟨kk, rfl, hm⟩
theorem HOwn.below {w w' : World} {B : Nat} {h : MH} {a : HA} (x : HOwn w B h a) (hb : Below w.heap.size w w') : HOwn w' B h a := ⟨own_below x.cs hb, own_below x.ps hb, own_below x.mg hb, x.gi.below hb⟩
theorem HOwn.gv {w : World} {B : Nat} {h : MH} {a : HA} (x : HOwn w B h a) {hi : Nat} (hh : w.heap.size ≤ hi) : ∃ ac kc, a.vg = .slice ac a.qs.length kc ∧ GV w B hi ac a.qs h.gs := by
  rcases x.mg.2 with ⟨e, hn⟩ | ⟨g, cap, cur, hv, hg, hc, hnc, _, hsz, _⟩
  · exact ⟨none, 0, by rw [hn]; exact e, .inl hn⟩
  · have hlt := (Array.getElem?_eq_some_iff.1 hc).1
    refine ⟨some ⟨g, 0, none⟩, cap, hv, .inr ⟨g, 0, rfl, hg, by omega, ⟨cur, hc, by rw [hsz, Nat.zero_add]; exact Nat.mul_le_mul_right _ hnc⟩, fun k hk => ?_, fun k hq hc => ⟨WS.of (x.gi.el k hq hc hc).2.1 hh, WS.of (x.gi.el k hq hc hc).2.2 hh⟩⟩⟩
    rcases MGrow.of x.mg with ⟨e, _⟩ | ⟨g2, o2, cap2, hv2, _, _, hat⟩
    · rw [e] at hk; simp at hk
    · rw [hv] at hv2
      injection hv2 with e1 e2 e3
      injection e1 with e4
      injection e4 with e5 e6
      subst e5 e6
      exact ⟨(hat k hk).1, (hat k hk).2.2⟩
/-- A host in a box while its rows are marked. -/
structure HK (w u : World) (B hi b : Nat) (vc vp : Value) (ac : Option Addr) (kc : Nat) (tm : Value) (nc np : Nat) (qs : List MG) (gs : List GS) : Prop where
  gi : GI B hi w u
  box : u.heap[b]? = some (.cells #[vc, vp, .slice ac qs.length kc, tm] 30 (0, 0))
  c : WS 9 u B hi vc nc 1
  p : WS 9 u B hi vp np 1
  g : GV u B hi ac qs gs
theorem HK.mv {t : TypeId} (h1 : 67 ≠ t) (h2 : 30 ≠ t) {w u u' : World} {B hi b : Nat} {vc vp : Value} {ac : Option Addr} {kc : Nat} {tm : Value} {nc np : Nat} {qs : List MG} {gs : List GS} (x : HK w u B hi b vc vp ac kc tm nc np qs gs) (m : MK t B hi u u') : HK w u' B hi b vc vp ac kc tm nc np qs gs :=
  ⟨x.gi.trans m.gi, m.oth _ _ x.box (fun arr q => by injection q with q1 q2; exact h2 q2), x.c.mk m, x.p.mk m, x.g.mk h1 m⟩
theorem HK.cel {w u : World} {B hi b : Nat} {vc vp : Value} {ac : Option Addr} {kc : Nat} {tm : Value} {nc np : Nat} {qs : List MG} {gs : List GS} (x : HK w u B hi b vc vp ac kc tm nc np qs gs) : u.cell? ⟨b, 0, none⟩ = some vc ∧ u.cell? ⟨b, 1, none⟩ = some vp ∧ u.cell? ⟨b, 2, none⟩ = some (.slice ac qs.length kc) ∧ b < u.heap.size := by
  have := x.box
  refine ⟨?_, ?_, ?_, (Array.getElem?_eq_some_iff.1 this).1⟩ <;> simp [World.cell?, this]
set_option maxHeartbeats 4000000 in
theorem markHost_w {w v : World} {B : Nat} {h : MH} {a : HA} (x : HOwn v B h a) (hv : Below v.heap.size v w) (hL : HLen h) : Calls Try.prog 13 #[mhA a h.time, .int .i64 ((1 : Nat) : Int)] w fun e w' => ∃ kk : Nat, e = .returned (.int .i64 (kk : Nat)) ∧ GI B v.heap.size w w' := by
  have mv : MK 9 B v.heap.size v w := MK.of_below hv
  obtain ⟨ac, kc, e3, hgv0⟩ := x.gv (Nat.le_refl _)
  have hgv := hgv0.mk (by decide) mv
  have w1 := (WS.of x.cs (Nat.le_refl _)).mk mv
  have w2 := (WS.of x.ps (Nat.le_refl _)).mk mv
  have hlen := x.gi.len
  obtain ⟨al, kl, e1⟩ := s_sl x.cs
  obtain ⟨am, km, e2⟩ := s_sl x.ps
  obtain ⟨vc, vp, vg, qs⟩ := a
  simp only at e1 e2 e3 w1 w2 hgv hlen
  clear hgv0 mv hv
  generalize v.heap.size = hi at *
  subst e1 e2 e3
  have hb0 : Below w.heap.size w (w.alloc (.cells #[.slice al h.cs.length kl, .slice am h.ps.length km, .slice ac qs.length kc, .int .i64 h.time] 30)) := (Below.refl _ _).alloc (Nat.le_refl _) _
  have m0 : MK 9 B hi w (w.alloc (.cells #[.slice al h.cs.length kl, .slice am h.ps.length km, .slice ac qs.length kc, .int .i64 h.time] 30)) := MK.of_below hb0
  have HK0 : Hid (HK w (w.alloc (.cells #[.slice al h.cs.length kl, .slice am h.ps.length km, .slice ac qs.length kc, .int .i64 h.time] 30)) B hi w.heap.size (.slice al h.cs.length kl) (.slice am h.ps.length km) ac kc (.int .i64 h.time) h.cs.length h.ps.length qs h.gs) := ⟨m0.gi, heap_new _ _, w1.mk m0, w2.mk m0, hgv.mk (by decide) m0⟩
  have HL : Hid (HLen h) := hL
  have HQ : Hid (qs.length = h.gs.length) := hlen
  have lc := hL.c
  have lp := hL.p
  have lg := hL.g
  have H1 : Hid (∀ u, WS 9 u B hi (.slice al h.cs.length kl) h.cs.length 1 → Calls Try.prog 14 #[.slice al h.cs.length kl, .int .i64 ((1 : Nat) : Int)] u fun e w' => e = .returned (.int .i64 ((1 + h.cs.length : Nat) : Int)) ∧ MK 9 B hi u w') := fun u y => Calls.mono (markSS_w 1 y lc (by omega) (by omega)) (fun e w' q => ⟨q.1, q.2.1⟩)
  obtain ⟨k1, hk1⟩ : ∃ k1 : Nat, 1 + h.cs.length = k1 := ⟨_, rfl⟩
  have H2 : Hid (∀ u, WS 9 u B hi (.slice am h.ps.length km) h.ps.length 1 → Calls Try.prog 14 #[.slice am h.ps.length km, .int .i64 (k1 : Nat)] u fun e w' => e = .returned (.int .i64 ((k1 + h.ps.length : Nat) : Int)) ∧ MK 9 B hi u w') := fun u y => Calls.mono (markSS_w k1 y lp (by omega) (by omega)) (fun e w' q => ⟨q.1, q.2.1⟩)
  obtain ⟨k2, hk2⟩ : ∃ k2 : Nat, k1 + h.ps.length = k2 := ⟨_, rfl⟩
  have H3 : Hid (∀ u, GV u B hi ac qs h.gs → Calls Try.prog 43 #[.slice ac qs.length kc, .int .i64 (k2 : Nat)] u fun e w' => ∃ kk : Nat, e = .returned (.int .i64 (kk : Nat)) ∧ GI B hi u w') := fun u y => markGuestS_w k2 y hlen (by omega) hL.s hL.u (by omega) (by omega)
  rw [hk1] at H1
  rw [hk2] at H2
  clear x hgv w1 w2 hlen hb0 m0 hL lc lp lg hk1 hk2
  unfold mhA
  simp only
  go_enter Try.func13, Try.ntmps13
  go_wp2_with fail
  generalize (w.alloc (.cells #[.slice al h.cs.length kl, .slice am h.ps.length km, .slice ac qs.length kc, .int .i64 h.time] 30)) = W0 at *
  generalize hbb : w.heap.size = b at *
  clear hbb
  obtain ⟨c0, c1, c2, hl⟩ := HK0.out.cel
  refine Calls.mono (H1.out _ HK0.out.c) ?_
  rintro e u1 ⟨rfl, m1⟩
  have HK1 : Hid _ := HK0.out.mv (by decide) (by decide) m1
  clear m1 c0 c1 c2 hl
  obtain ⟨c0, c1, c2, hl⟩ := HK1.out.cel
  go_wp2_with fail
  refine Calls.mono (H2.out _ HK1.out.p) ?_
  rintro e u2 ⟨rfl, m2⟩
  have HK2 : Hid _ := HK1.out.mv (by decide) (by decide) m2
  clear m2 c0 c1 c2 hl
  obtain ⟨c0, c1, c2, hl⟩ := HK2.out.cel
  go_wp2_with fail
  refine Calls.mono (H3.out _ HK2.out.g) ?_
  rintro e u3 ⟨kk, rfl, g3⟩
  have HG : Hid (GI B hi w u3) := HK2.out.gi.trans g3
  clear g3 c0 c1 c2 hl
  go_wp2
  go_ret
  exact ⟨kk, rfl, HG.out⟩
end Go.Proofs.Ytomfbiiegcmmlab
