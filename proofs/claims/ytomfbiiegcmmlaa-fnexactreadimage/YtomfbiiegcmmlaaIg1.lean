import Derived.Test.YtomfbiiegcmmlaaImZ
import Derived.Test.YtomfbiiegcmmlaaRowIGZ
namespace Go.Proofs.Ytomfbiiegcmmlaa
open Go.ChangeShapes Go.WideShapes Go.ChangeAt Go.RowKit

/-- The rows of images. -/
structure IGin (w : World) (gs : List IG) (ms : List IM) : Prop where
  len : gs.length = ms.length
  el : ∀ k (hq : k < gs.length) (hc : k < ms.length), gs[k].n = ms[k].n ∧ gs[k].b = ms[k].b ∧ ∃ q, IRows w ms[k] ⟨gs[k].t, gs[k].d, gs[k].s, q⟩
theorem IGin.below {w w' : World} {gs : List IG} {ms : List IM} (h : IGin w gs ms) (hb : Below w.heap.size w w') : IGin w' gs ms :=
  ⟨h.len, fun k hq hc => ⟨(h.el k hq hc).1, (h.el k hq hc).2.1, (h.el k hq hc).2.2.imp fun _ x => x.below hb⟩⟩
theorem SNown.kept {w w' : World} {B g : Nat} {qs : List SN} {cs : List SP} {k : Nat} (h : SNown w B qs cs k) (hg : w.grownBy w' (some g)) (hB : g < B) : SNown w' B qs cs k :=
  ⟨h.len, fun j hq hc hj => ⟨(h.el j hq hc hj).1, (h.el j hq hc hj).2.kept (row := some g) hg (.inr (fun e => by have := ((h.el j hq hc hj).2.lt _ e).1; omega))⟩, h.rest⟩
theorem IOwn.kept {w w' : World} {B g : Nat} {m : IM} {a : IA} (h : IOwn w B m a) (hg : w.grownBy w' (some g)) (hB : g < B) : IOwn w' B m a :=
  ⟨h.t.kept (row := some g) hg (.inr (fun e => by have := (h.t.lt _ e).1; omega)), h.d.kept (row := some g) hg (.inr (fun e => by have := (h.d.lt _ e).1; omega)), h.sn.kept (row := some g) hg (.inr (fun e => by have := (h.sn.lt _ e).1; omega)), h.si.kept hg hB⟩
/-- The rows of new images. -/
structure IGown (w : World) (B : Nat) (gs : List IG) (ms : List IM) (k : Nat) : Prop where
  len : gs.length = ms.length
  el : ∀ j (hq : j < gs.length) (hc : j < ms.length), j < k → gs[j].n = ms[j].n ∧ gs[j].b = ms[j].b ∧ ∃ q, IOwn w B ms[j] ⟨gs[j].t, gs[j].d, gs[j].s, q⟩
  rest : ∀ j (hq : j < gs.length), k ≤ j → gs[j] = ig0
theorem IGown.inn {w : World} {B : Nat} {gs : List IG} {ms : List IM} (h : IGown w B gs ms ms.length) : IGin w gs ms :=
  ⟨h.len, fun k hq hc => ⟨(h.el k hq hc hc).1, (h.el k hq hc hc).2.1, (h.el k hq hc hc).2.2.imp fun _ x => x.rows⟩⟩
theorem IGown.below {w w' : World} {B : Nat} {gs : List IG} {ms : List IM} {k : Nat} (h : IGown w B gs ms k) (hb : Below w.heap.size w w') : IGown w' B gs ms k :=
  ⟨h.len, fun j hq hc hj => ⟨(h.el j hq hc hj).1, (h.el j hq hc hj).2.1, (h.el j hq hc hj).2.2.imp fun _ x => x.below hb⟩, h.rest⟩
theorem IGown.put {w w' : World} {B g : Nat} {gs : List IG} {ms : List IM} {k : Nat} (h : IGown w B gs ms k) (hg : w.grownBy w' (some g)) (hB : g < B) (hk : k < ms.length) {a : IA} (hv : IOwn w B ms[k] a) : IGown w' B (gs.set k ⟨ms[k].n, ms[k].b, a.vt, a.vd, a.vs⟩) ms (k + 1) := by
  refine ⟨by rw [List.length_set]; exact h.len, fun j hq hc hj => ?_, fun j hq hj => ?_⟩
  · by_cases e : j = k
    · subst e
      rw [List.getElem_set_self]
      exact ⟨rfl, rfl, a.qs, hv.kept hg hB⟩
    · rw [List.getElem_set_ne (fun e2 => e e2.symm)]
      have h2 := h.el j (by simpa using hq) hc (by omega)
      exact ⟨h2.1, h2.2.1, h2.2.2.imp fun _ x => x.kept hg hB⟩
  · rw [List.getElem_set_ne (by omega)]
    exact h.rest j (by simpa using hq) (by omega)
theorem IOwn.sl2 {w : World} {B : Nat} {m : IM} {a : IA} (h : IOwn w B m a) : ∃ al kl am km ac kc qs, a = ⟨.slice al m.t.length kl, .slice am m.d.length km, .slice ac qs.length kc, qs⟩ := by
  obtain ⟨vt, vd, vs, qs⟩ := a
  obtain ⟨al, kl, e1⟩ := i_sl h.t
  obtain ⟨am, km, e2⟩ := s_sl h.d
  obtain ⟨ac, kc, e3⟩ := sn_sl h.sn
  simp only at e1 e2 e3
  subst e1 e2 e3
  exact ⟨_, _, _, _, _, _, _, rfl⟩
set_option maxRecDepth 100000 in
set_option maxHeartbeats 4000000 in
theorem toImageS_any {w : World} {v : Value} {qs : List IG} {cs : List IM} (h : IGrow w v qs) (hc : IGin w qs cs) (hl : cs.length ≤ 1048576) (hs : ∀ k (hk : k < cs.length), ILen cs[k]) :
    Calls Try.prog 8 #[v] w fun e w' => ∃ u qs2, e = .returned u ∧ w'.ownsRow w.heap.size 57 5 u qs2.length (igR qs2) ∧ IGown w' (w.heap.size + 1) qs2 cs cs.length ∧ Below w.heap.size w w' := by
  obtain ⟨ao, cap, rfl⟩ := h.sl
  have hlq := hc.len
  have HR : Hid (IGrow w (.slice ao cs.length cap) qs) := (show IGrow w (.slice ao cs.length cap) qs by rw [← hlq]; exact h)
  have HC : Hid (IGin w qs cs) := hc
  rw [hlq]
  have hmk := ig_mk w cs.length hl
  have HO : Hid ((w.alloc (.cells (igR (List.replicate cs.length ig0)).toArray 57)).ownsRow w.heap.size 57 5 (.slice (some ⟨w.heap.size, 0, none⟩) cs.length cs.length) cs.length (igR (List.replicate cs.length ig0))) := ig_own0 w cs.length hl
  have HHS : Hid (∀ k (hk : k < cs.length), ILen cs[k]) := hs
  have HLQ : Hid (qs.length = cs.length) := hlq
  clear h hc hs hlq
  go_enter Try.func8, Try.ntmps8
  go_wp2
  go_loopw [4] (fun i wr => ∃ (k : Nat) (rs : List IG), k ≤ cs.length ∧ i = .int .i64 k ∧ wr.ownsRow w.heap.size 57 5 (.slice (some ⟨w.heap.size, 0, none⟩) cs.length cs.length) cs.length (igR rs) ∧ IGown wr (w.heap.size + 1) rs cs k ∧ Below w.heap.size w wr) (fun i _ => cs.length - (intOf i).toNat)
  case atStart => exact ⟨0, List.replicate cs.length ig0, Nat.zero_le _, rfl, HO.out, ⟨by simp, fun j _ _ hj => absurd hj (by omega), fun j hq _ => by simp⟩, (Below.refl _ _).alloc (Nat.le_refl _) _⟩
  case round =>
    obtain ⟨k, rs, hk, rfl, hown, hcp, hb⟩ := hrel
    clear hmk HO
    by_cases hlt : k < cs.length
    · have hltq : k < qs.length := by rw [HLQ.out]; exact hlt
      obtain ⟨g, o, cap2, hv, _, hg, hc⟩ := HR.out.resolve_left (fun h => by rw [h.1] at hltq; simp at hltq)
      injection hv with hv1 hv2 hv3
      subst hv1 hv3
      clear hv2
      obtain ⟨d0, d1, d2, d3, d4⟩ := hc.below hb hg k hltq
      obtain ⟨e0, e1, q2, e2⟩ := HC.out.el k hltq hlt
      rw [e0] at d0
      rw [e1] at d1
      clear e0 e1
      have hlen := hcp.len
      have hown2 : wr.ownsRow w.heap.size 57 5 (.slice (some ⟨w.heap.size, 0, none⟩) rs.length cs.length) rs.length (igR rs) := by rw [hlen]; exact hown
      have HOW : Hid (wr.ownsRow w.heap.size 57 5 (.slice (some ⟨w.heap.size, 0, none⟩) rs.length cs.length) rs.length (igR rs)) := hown2
      generalize qs[k] = y at *
      obtain ⟨yn, yb, yt, yd, ys⟩ := y
      simp only at d2 d3 d4 e2
      obtain ⟨aq, kq, eq1⟩ := e2.t.sl
      obtain ⟨ar, kr, eq2⟩ := e2.d.sl
      obtain ⟨as1, ks1, eq3⟩ := e2.sn.sl
      simp only at eq1 eq2 eq3
      subst eq1 eq2 eq3
      have hTO := toImage_any (e2.below hb) (HHS.out k hlt)
      unfold imA at hTO
      simp only at hTO
      have HTO : Hid _ := hTO
      have HCP : Hid (IGown wr (w.heap.size + 1) rs cs k) := hcp
      have HB : Hid _ := hb
      have hk0 : (0 : Int) ≤ (k : Int) := by omega
      have hk1 : (k : Int) < (cs.length : Int) := by omega
      have hgw : g < wr.heap.size := Nat.lt_of_lt_of_le hg hb.size
      have hrl : k < rs.length := by omega
      have HLT : Hid (w.heap.size < wr.heap.size) := (hown.lt _ rfl).2
      clear hc hown hown2 hb hTO hcp e2
      go_wp2_with (go_at_call 24; refine Calls.mono HTO.out ?_; rintro e u5 ⟨n2, rfl, ho2, hu5⟩; obtain ⟨al3, kl3, am3, km3, ac3, kc3, qs3, rfl⟩ := ho2.sl2; have HN2 : Hid (IOwn u5 (wr.heap.size + 3) cs[k] ⟨.slice al3 cs[k].t.length kl3, .slice am3 cs[k].d.length km3, .slice ac3 qs3.length kc3, qs3⟩) := ho2; have HB5 : Hid (Below wr.heap.size wr u5) := hu5; have HO5 : Hid (u5.ownsRow w.heap.size 57 5 (.slice (some ⟨w.heap.size, 0, none⟩) rs.length cs.length) rs.length (igR rs)) := ig_below HOW.out hu5; obtain ⟨y, y0, y1, y2, y3, y4⟩ := ig_cells HO5.out rfl k hrl; have hfz := HO5.out.frozenAt; clear hu5 ho2)
      have hlt5 := HLT.out
      have st := own_setIG HO5.out k hrl ⟨cs[k].n, cs[k].b, .slice al3 cs[k].t.length kl3, .slice am3 cs[k].d.length km3, .slice ac3 qs3.length kc3⟩
      rw [hlen] at st
      have hb6 : Below w.heap.size w u5 := HB.out.trans (HB5.out.mono HB.out.size)
      have hcp2 := (HCP.out.below HB5.out).put st.2 (by omega) hlt (HN2.out.weak (by omega))
      refine ⟨⟨k + 1, _, hlt, by simp, st.1, hcp2, hb6.grown st.2 hb6.size (fun j hj => by cases hj; exact Nat.le_refl _)⟩, ?_⟩
      simp [intOf]
      omega
    · obtain rfl : k = cs.length := by omega
      have hlen := hcp.len
      have HO2 : Hid _ := hown
      have HCP : Hid _ := hcp
      clear hown hcp
      go_wp2
      go_ret
      exact ⟨_, rs, rfl, by rw [hlen]; exact HO2.out, HCP.out, hb⟩
end Go.Proofs.Ytomfbiiegcmmlaa
