import Derived.Test.YtomfbiiegcmmlabMh1
namespace Go.Proofs.Ytomfbiiegcmmlab
open Go.ChangeShapes Go.WideShapes Go.ChangeAt Go.RowKit

/-- The rows of new guests. -/
structure MGown (w : World) (B : Nat) (qs : List MG) (cs : List GS) (k : Nat) : Prop where
  len : qs.length = cs.length
  el : ∀ j (hq : j < qs.length) (hc : j < cs.length), j < k → qs[j].d = cs[j].d ∧ w.ownsRow B 70 3 qs[j].s cs[j].ss.length (slR cs[j].ss) ∧ w.ownsRow B 2 1 qs[j].h cs[j].hs.length (iR cs[j].hs)
  rest : ∀ j (hq : j < qs.length), k ≤ j → qs[j] = mg0
theorem MGown.inn {w : World} {B : Nat} {qs : List MG} {cs : List GS} (h : MGown w B qs cs cs.length) : MGin w qs cs :=
  ⟨h.len, fun k hq hc => ⟨(h.el k hq hc hc).1, SLrow.of (h.el k hq hc hc).2.1, Irow.of (h.el k hq hc hc).2.2⟩⟩
theorem MGown.below {w w' : World} {B : Nat} {qs : List MG} {cs : List GS} {k : Nat} (h : MGown w B qs cs k) (hb : Below w.heap.size w w') : MGown w' B qs cs k :=
  ⟨h.len, fun j hq hc hj => ⟨(h.el j hq hc hj).1, own_below (h.el j hq hc hj).2.1 hb, own_below (h.el j hq hc hj).2.2 hb⟩, h.rest⟩
theorem MGown.weak {w : World} {B B' : Nat} {qs : List MG} {cs : List GS} {k : Nat} (h : MGown w B qs cs k) (hb : B' ≤ B) : MGown w B' qs cs k :=
  ⟨h.len, fun j hq hc hj => ⟨(h.el j hq hc hj).1, own_weak (h.el j hq hc hj).2.1 hb, own_weak (h.el j hq hc hj).2.2 hb⟩, h.rest⟩
theorem MGown.put {w w' : World} {B g : Nat} {qs : List MG} {cs : List GS} {k : Nat} (h : MGown w B qs cs k) (hg : w.grownBy w' (some g)) (hB : g < B) (hk : k < cs.length) {u v : Value} (hu : w.ownsRow B 70 3 u cs[k].ss.length (slR cs[k].ss)) (hv : w.ownsRow B 2 1 v cs[k].hs.length (iR cs[k].hs)) : MGown w' B (qs.set k ⟨u, cs[k].d, v⟩) cs (k + 1) := by
  have kept : ∀ {e z : Nat} {x : Value} {n : Nat} {xs : List Value}, w.ownsRow B e z x n xs → w'.ownsRow B e z x n xs := fun hx => hx.kept (row := some g) hg (.inr (fun e => by have := (hx.lt _ e).1; omega))
  refine ⟨by rw [List.length_set]; exact h.len, fun j hq hc hj => ?_, fun j hq hj => ?_⟩
  · by_cases e : j = k
    · subst e
      rw [List.getElem_set_self]
      exact ⟨rfl, kept hu, kept hv⟩
    · rw [List.getElem_set_ne (fun e2 => e e2.symm)]
      have h2 := h.el j (by simpa using hq) hc (by omega)
      exact ⟨h2.1, kept h2.2.1, kept h2.2.2⟩
  · rw [List.getElem_set_ne (by omega)]
    exact h.rest j (by simpa using hq) (by omega)
set_option maxRecDepth 100000 in
set_option maxHeartbeats 4000000 in
theorem toGuestS_any {w : World} {v : Value} {qs : List MG} {cs : List GS} (h : MGrow w v qs) (hc : MGin w qs cs) (hl : cs.length ≤ 1048576) (hp : ∀ k (hk : k < cs.length), cs[k].ss.length ≤ 1048576) (hs : ∀ k (hk : k < cs.length), cs[k].hs.length ≤ 1048576) :
    Calls Try.prog 37 #[v] w fun e w' => ∃ u qs2, e = .returned u ∧ w'.ownsRow w.heap.size 67 3 u qs2.length (mgR qs2) ∧ MGown w' (w.heap.size + 1) qs2 cs cs.length ∧ Below w.heap.size w w' := by
  obtain ⟨ao, cap, rfl⟩ := h.sl
  have hlq := hc.len
  have HR : Hid (MGrow w (.slice ao cs.length cap) qs) := (show MGrow w (.slice ao cs.length cap) qs by rw [← hlq]; exact h)
  have HC : Hid (MGin w qs cs) := hc
  rw [hlq]
  have hmk := mg_mk w cs.length hl
  have HO : Hid ((w.alloc (.cells (mgR (List.replicate cs.length mg0)).toArray 67)).ownsRow w.heap.size 67 3 (.slice (some ⟨w.heap.size, 0, none⟩) cs.length cs.length) cs.length (mgR (List.replicate cs.length mg0))) := mg_own0 w cs.length hl
  have HHP : Hid (∀ k (hk : k < cs.length), cs[k].ss.length ≤ 1048576) := hp
  have HHS : Hid (∀ k (hk : k < cs.length), cs[k].hs.length ≤ 1048576) := hs
  have HLQ : Hid (qs.length = cs.length) := hlq
  clear h hc hp hs hlq
  go_enter Try.func37, Try.ntmps37
  go_wp2
  go_loopw [4] (fun i wr => ∃ (k : Nat) (rs : List MG), k ≤ cs.length ∧ i = .int .i64 k ∧ wr.ownsRow w.heap.size 67 3 (.slice (some ⟨w.heap.size, 0, none⟩) cs.length cs.length) cs.length (mgR rs) ∧ MGown wr (w.heap.size + 1) rs cs k ∧ Below w.heap.size w wr) (fun i _ => cs.length - (intOf i).toNat)
  case atStart => exact ⟨0, List.replicate cs.length mg0, Nat.zero_le _, rfl, HO.out, ⟨by simp, fun j _ _ hj => absurd hj (by omega), fun j hq _ => by simp⟩, (Below.refl _ _).alloc (Nat.le_refl _) _⟩
  case round =>
    obtain ⟨k, rs, hk, rfl, hown, hcp, hb⟩ := hrel
    clear hmk HO
    by_cases hlt : k < cs.length
    · have hltq : k < qs.length := by rw [HLQ.out]; exact hlt
      obtain ⟨g, o, cap2, hv, _, hg, hc⟩ := HR.out.resolve_left (fun h => by rw [h.1] at hltq; simp at hltq)
      injection hv with hv1 hv2 hv3
      subst hv1 hv3
      clear hv2
      obtain ⟨d0, d1, d2⟩ := hc.below hb hg k hltq
      obtain ⟨e0, e1, e2⟩ := HC.out.el k hltq hlt
      rw [e0] at d1
      clear e0
      have hlen := hcp.len
      have hown2 : wr.ownsRow w.heap.size 67 3 (.slice (some ⟨w.heap.size, 0, none⟩) rs.length cs.length) rs.length (mgR rs) := by rw [hlen]; exact hown
      have HOW : Hid (wr.ownsRow w.heap.size 67 3 (.slice (some ⟨w.heap.size, 0, none⟩) rs.length cs.length) rs.length (mgR rs)) := hown2
      generalize qs[k] = y at *
      obtain ⟨yp, yl, ys⟩ := y
      simp only at d0 d2 e1 e2
      obtain ⟨ap, kp, rfl⟩ := e1.sl
      obtain ⟨aq, kq, rfl⟩ := e2.sl
      have hTO := toGuest_any (d := cs[k].d) (e1.below hb) (e2.below hb) (HHP.out k hlt) (HHS.out k hlt)
      have HTO : Hid _ := hTO
      have HCP : Hid (MGown wr (w.heap.size + 1) rs cs k) := hcp
      have HB : Hid _ := hb
      have hk0 : (0 : Int) ≤ (k : Int) := by omega
      have hk1 : (k : Int) < (cs.length : Int) := by omega
      have hgw : g < wr.heap.size := Nat.lt_of_lt_of_le hg hb.size
      have hrl : k < rs.length := by omega
      have HLT : Hid (w.heap.size < wr.heap.size) := (hown.lt _ rfl).2
      clear hc hown hown2 hb hTO hcp e1 e2
      go_wp2_with (go_at_call 68; refine Calls.mono HTO.out ?_; rintro e u5 ⟨n1, n2, rfl, ho1, ho2, hu5⟩; obtain ⟨a1, k1, rfl⟩ := sl_sl ho1; obtain ⟨a2, k2, rfl⟩ := i_sl ho2; have HN1 : Hid _ := ho1; have HN2 : Hid _ := ho2; have HB5 : Hid (Below wr.heap.size wr u5) := hu5; have HO5 : Hid (u5.ownsRow w.heap.size 67 3 (.slice (some ⟨w.heap.size, 0, none⟩) rs.length cs.length) rs.length (mgR rs)) := mg_below HOW.out hu5; obtain ⟨y, y0, y1, y2⟩ := mg_cells HO5.out rfl k hrl; have hfz := HO5.out.frozenAt; clear hu5 ho1 ho2)
      have hlt5 := HLT.out
      have st := own_setMG HO5.out k hrl ⟨.slice a1 cs[k].ss.length k1, cs[k].d, .slice a2 cs[k].hs.length k2⟩
      rw [hlen] at st
      have hb6 : Below w.heap.size w u5 := HB.out.trans (HB5.out.mono HB.out.size)
      have hcp2 := (HCP.out.below HB5.out).put st.2 (by omega) hlt (own_weak HN1.out (by omega)) (own_weak HN2.out (by omega))
      refine ⟨⟨k + 1, _, hlt, by simp, st.1, hcp2, hb6.grown st.2 hb6.size (fun j hj => by cases hj; exact Nat.le_refl _)⟩, ?_⟩
      simp [intOf]
      omega
    · obtain rfl : k = cs.length := by omega
      have hlen := hcp.len
      have HO2 : Hid _ := hown
      have HCP : Hid _ := hcp
      clear hown hcp
      go_wp2
      go_ret
      exact ⟨_, rs, rfl, by rw [hlen]; exact HO2.out, HCP.out, hb⟩
end Go.Proofs.Ytomfbiiegcmmlab
