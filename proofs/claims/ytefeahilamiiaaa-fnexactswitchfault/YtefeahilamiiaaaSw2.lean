import Derived.Test.YtefeahilamiiaaaSw1
namespace Go.Proofs.Ytefeahilamiiaaa
open Go.ChangeShapes Go.WideShapes Go.ChangeAt Go.RowKit

/-- The rows of new ports. -/
structure POown (w : World) (B : Nat) (qs : List PQ) (cs : List PO) (k : Nat) : Prop where
  len : qs.length = cs.length
  el : ∀ j (hq : j < qs.length) (hc : j < cs.length), j < k → qs[j] = poQ cs[j] qs[j].nets ∧ w.ownsRow B 2 1 qs[j].nets cs[j].ns.length (iR cs[j].ns)
  rest : ∀ j (hq : j < qs.length), k ≤ j → qs[j] = pq0
theorem POown.inn {w : World} {B : Nat} {qs : List PQ} {cs : List PO} (h : POown w B qs cs cs.length) : POin w qs cs :=
  ⟨h.len, fun k hq hc => ⟨(h.el k hq hc hc).1, Irow.of (h.el k hq hc hc).2⟩⟩
theorem POown.below {w w' : World} {B : Nat} {qs : List PQ} {cs : List PO} {k : Nat} (h : POown w B qs cs k) (hb : Below w.heap.size w w') : POown w' B qs cs k :=
  ⟨h.len, fun j hq hc hj => ⟨(h.el j hq hc hj).1, own_below (h.el j hq hc hj).2 hb⟩, h.rest⟩
theorem POown.weak {w : World} {B B' : Nat} {qs : List PQ} {cs : List PO} {k : Nat} (h : POown w B qs cs k) (hb : B' ≤ B) : POown w B' qs cs k :=
  ⟨h.len, fun j hq hc hj => ⟨(h.el j hq hc hj).1, own_weak (h.el j hq hc hj).2 hb⟩, h.rest⟩
theorem POown.put {w w' : World} {B g : Nat} {qs : List PQ} {cs : List PO} {k : Nat} (h : POown w B qs cs k) (hg : w.grownBy w' (some g)) (hB : g < B) (hk : k < cs.length) {u : Value} (hu : w.ownsRow B 2 1 u cs[k].ns.length (iR cs[k].ns)) : POown w' B (qs.set k (poQ cs[k] u)) cs (k + 1) := by
  have kept : ∀ {x : Value} {n : Nat} {xs : List Value}, w.ownsRow B 2 1 x n xs → w'.ownsRow B 2 1 x n xs := fun hx => hx.kept (row := some g) hg (.inr (fun e => by have := (hx.lt _ e).1; omega))
  refine ⟨by rw [List.length_set]; exact h.len, fun j hq hc hj => ?_, fun j hq hj => ?_⟩
  · by_cases e : j = k
    · subst e
      rw [List.getElem_set_self]
      exact ⟨rfl, kept hu⟩
    · rw [List.getElem_set_ne (fun e2 => e e2.symm)]
      have h2 := h.el j (by simpa using hq) hc (by omega)
      exact ⟨h2.1, kept h2.2⟩
  · rw [List.getElem_set_ne (by omega)]
    exact h.rest j (by simpa using hq) (by omega)
set_option maxRecDepth 100000 in
set_option maxHeartbeats 4000000 in
theorem toPortS_any {w : World} {v : Value} {qs : List PQ} {cs : List PO} (h : PQrow w v qs) (hc : POin w qs cs) (hl : cs.length ≤ 1048576) (hp : ∀ k (hk : k < cs.length), cs[k].ns.length ≤ 1048576) :
    Calls Try.prog 33 #[v] w fun e w' => ∃ u qs2, e = .returned u ∧ w'.ownsRow w.heap.size 73 7 u qs2.length (pqR qs2) ∧ POown w' (w.heap.size + 1) qs2 cs cs.length ∧ Below w.heap.size w w' := by
  obtain ⟨ao, cap, rfl⟩ := h.sl
  have hlq := hc.len
  have HR : Hid (PQrow w (.slice ao cs.length cap) qs) := (show PQrow w (.slice ao cs.length cap) qs by rw [← hlq]; exact h)
  have HC : Hid (POin w qs cs) := hc
  rw [hlq]
  have hmk := pq_mk w cs.length hl
  have HO : Hid ((w.alloc (.cells (pqR (List.replicate cs.length pq0)).toArray 73)).ownsRow w.heap.size 73 7 (.slice (some ⟨w.heap.size, 0, none⟩) cs.length cs.length) cs.length (pqR (List.replicate cs.length pq0))) := pq_own0 w cs.length hl
  have HHP : Hid (∀ k (hk : k < cs.length), cs[k].ns.length ≤ 1048576) := hp
  have HLQ : Hid (qs.length = cs.length) := hlq
  clear h hc hp hlq
  go_enter Try.func33, Try.ntmps33
  go_wp2
  go_loopw [4] (fun i wr => ∃ (k : Nat) (rs : List PQ), k ≤ cs.length ∧ i = .int .i64 k ∧ wr.ownsRow w.heap.size 73 7 (.slice (some ⟨w.heap.size, 0, none⟩) cs.length cs.length) cs.length (pqR rs) ∧ POown wr (w.heap.size + 1) rs cs k ∧ Below w.heap.size w wr) (fun i _ => cs.length - (intOf i).toNat)
  case atStart => exact ⟨0, List.replicate cs.length pq0, Nat.zero_le _, rfl, HO.out, ⟨by simp, fun j _ _ hj => absurd hj (by omega), fun j hq _ => by simp⟩, (Below.refl _ _).alloc (Nat.le_refl _) _⟩
  case round =>
    obtain ⟨k, rs, hk, rfl, hown, hcp, hb⟩ := hrel
    clear hmk HO
    by_cases hlt : k < cs.length
    · have hltq : k < qs.length := by rw [HLQ.out]; exact hlt
      obtain ⟨g, o, cap2, hv, _, hg, hc⟩ := HR.out.resolve_left (fun h => by rw [h.1] at hltq; simp at hltq)
      injection hv with hv1 hv2 hv3
      subst hv1 hv3
      clear hv2
      obtain ⟨d0, d1, d2, d3, d4, d5, d6⟩ := hc.below hb hg k hltq
      obtain ⟨e0, e1⟩ := HC.out.el k hltq hlt
      rw [e0] at d0 d2 d3 d4 d5 d6
      unfold poQ at d0 d2 d3 d4 d5 d6
      simp only at d0 d2 d3 d4 d5 d6
      clear e0
      have hlen := hcp.len
      have hown2 : wr.ownsRow w.heap.size 73 7 (.slice (some ⟨w.heap.size, 0, none⟩) rs.length cs.length) rs.length (pqR rs) := by rw [hlen]; exact hown
      have HOW : Hid (wr.ownsRow w.heap.size 73 7 (.slice (some ⟨w.heap.size, 0, none⟩) rs.length cs.length) rs.length (pqR rs)) := hown2
      generalize qs[k].nets = y at *
      obtain ⟨ap, kp, rfl⟩ := e1.sl
      have hTO := toPort_any (p := cs[k]) (e1.below hb) (HHP.out k hlt)
      have HTO : Hid _ := hTO
      unfold poA poC at HTO
      have HCP : Hid (POown wr (w.heap.size + 1) rs cs k) := hcp
      have HB : Hid _ := hb
      have hk0 : (0 : Int) ≤ (k : Int) := by omega
      have hk1 : (k : Int) < (cs.length : Int) := by omega
      have hgw : g < wr.heap.size := Nat.lt_of_lt_of_le hg hb.size
      have hrl : k < rs.length := by omega
      have HLT : Hid (w.heap.size < wr.heap.size) := (hown.lt _ rfl).2
      clear hc hown hown2 hb hTO hcp e1
      go_wp2_with (go_at_call 53; refine Calls.mono HTO.out ?_; rintro e u5 ⟨n1, rfl, ho1, hu5⟩; obtain ⟨a1, k1, rfl⟩ := i_sl ho1; have HN1 : Hid _ := ho1; have HB5 : Hid (Below wr.heap.size wr u5) := hu5; have HO5 : Hid (u5.ownsRow w.heap.size 73 7 (.slice (some ⟨w.heap.size, 0, none⟩) rs.length cs.length) rs.length (pqR rs)) := pq_below HOW.out hu5; obtain ⟨y, y0, y1, y2, y3, y4, y5, y6⟩ := pq_cells HO5.out rfl k hrl; have hfz := HO5.out.frozenAt; clear hu5 ho1)
      have hlt5 := HLT.out
      have st := own_setPQ HO5.out k hrl (poQ cs[k] (.slice a1 cs[k].ns.length k1))
      rw [hlen] at st
      have hb6 : Below w.heap.size w u5 := HB.out.trans (HB5.out.mono HB.out.size)
      have hcp2 := (HCP.out.below HB5.out).put st.2 (by omega) hlt (own_weak HN1.out (by omega))
      refine ⟨⟨k + 1, _, hlt, by simp, st.1, hcp2, hb6.grown st.2 hb6.size (fun j hj => by cases hj; exact Nat.le_refl _)⟩, ?_⟩
      simp [intOf]
      omega
    · obtain rfl : k = cs.length := by omega
      have hlen := hcp.len
      have HO2 : Hid _ := hown
      have HCP : Hid _ := hcp
      clear hown hcp
      go_wp2
      go_ret
      exact ⟨_, rs, rfl, by rw [hlen]; exact HO2.out, HCP.out, hb⟩
end Go.Proofs.Ytefeahilamiiaaa
