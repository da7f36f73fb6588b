import Derived.Test.YtalpcjclahkgnaaGreatMjZ
import Derived.Test.YtalpcjclahkgnaaGreatRowS
import Derived.Test.YtalpcjclahkgnaaGreatRt12x
import Derived.Test.YtalpcjclahkgnaaGreatLG
import Derived.Test.YtalpcjclahkgnaaGreatNe0
namespace Go.Proofs.YtalpcjclahkgnaaGreat
open Go.ChangeShapes Go.WideShapes Go.ChangeAt Go.RowKit

structure JB where
  number : Int
  node : ByteArray
  done : Int
  state : Int
  ls : List ByteArray
def jbQ (p : JB) (v : Value) : MJ := ⟨p.number, p.node, v, p.done, p.state⟩
def jbC (p : JB) (v : Value) : Array Value := #[.int .i64 p.number, .string p.node, v, .int .i64 p.done, .int .i64 p.state]
def jbA (p : JB) (v : Value) : Value := .agg (jbC p v)
/-- The rows of JB. -/
structure JBin (w : World) (qs : List MJ) (cs : List JB) : Prop where
  len : qs.length = cs.length
  el : ∀ k (hq : k < qs.length) (hc : k < cs.length), qs[k] = jbQ cs[k] qs[k].left ∧ Srow w qs[k].left cs[k].ls
theorem JBin.below {w w' : World} {qs : List MJ} {cs : List JB} (h : JBin w qs cs) (hb : Below w.heap.size w w') : JBin w' qs cs :=
  ⟨h.len, fun k hq hc => ⟨(h.el k hq hc).1, (h.el k hq hc).2.below hb⟩⟩
set_option maxRecDepth 100000 in
set_option maxHeartbeats 4000000 in
theorem toJB_any {w : World} {p : JB} {v : Value} (hp : Srow w v p.ls) (lp : p.ls.length ≤ 1048576) : Calls Tryz.prog 36 #[jbA p v] w fun e w' => ∃ u, e = .returned (jbA p u) ∧ w'.ownsRow (w.heap.size + 3) 9 1 u p.ls.length (sR p.ls) ∧ Below w.heap.size w w' := by
  obtain ⟨ap, kp, rfl⟩ := hp.sl
  have HP : Hid (Srow w (.slice ap p.ls.length kp) p.ls) := hp
  clear hp
  unfold jbA jbC
  go_enter Tryz.func36, Tryz.ntmps36
  go_wp2_with fail
  have HT0 : Hid (T3 w (((w.alloc (.cells #[.int .i64 p.number, .string p.node, .slice ap p.ls.length kp, .int .i64 p.done, .int .i64 p.state] 68)).alloc (.cells #[.int .i64 0, .string ⟨#[]⟩, .slice none 0 0, .int .i64 0, .int .i64 0] 53)).alloc (.cells #[.int .i64 p.number, .string p.node, .slice none 0 0, .int .i64 0, .int .i64 0] 53)) 68 53 #[.int .i64 p.number, .string p.node, .slice ap p.ls.length kp, .int .i64 p.done, .int .i64 p.state] #[.int .i64 0, .string ⟨#[]⟩, .slice none 0 0, .int .i64 0, .int .i64 0] #[.int .i64 p.number, .string p.node, .slice none 0 0, .int .i64 0, .int .i64 0]) := T3.new _ _ _ _ _ _
  generalize (((w.alloc (.cells #[.int .i64 p.number, .string p.node, .slice ap p.ls.length kp, .int .i64 p.done, .int .i64 p.state] 68)).alloc (.cells #[.int .i64 0, .string ⟨#[]⟩, .slice none 0 0, .int .i64 0, .int .i64 0] 53)).alloc (.cells #[.int .i64 p.number, .string p.node, .slice none 0 0, .int .i64 0, .int .i64 0] 53)) = u0 at *
  refine Calls.mono (toSS_any (HP.out.below HT0.out.bel) lp) ?_
  rintro e u1 ⟨v1, rfl, o1, hb1⟩
  obtain ⟨ap2, kp2, rfl⟩ := s_sl o1
  have HT1 : Hid (T3 w u1 68 53 #[.int .i64 p.number, .string p.node, .slice ap p.ls.length kp, .int .i64 p.done, .int .i64 p.state] #[.int .i64 0, .string ⟨#[]⟩, .slice none 0 0, .int .i64 0, .int .i64 0] #[.int .i64 p.number, .string p.node, .slice none 0 0, .int .i64 0, .int .i64 0]) := HT0.out.step hb1
  have HRp : Hid (u1.ownsRow (w.heap.size + 3) 9 1 (.slice ap2 p.ls.length kp2) p.ls.length (sR p.ls)) := own_weakN o1 (by have := HT0.out.lt; omega)
  clear o1 hb1 HT0
  have c0 := celN HT1.out.b0 0 _ rfl
  have c1 := celN HT1.out.b0 1 _ rfl
  have c3 := celN HT1.out.b0 3 _ rfl
  have c4 := celN HT1.out.b0 4 _ rfl
  have d0 := celN HT1.out.b2 0 _ rfl
  have d1 := celN HT1.out.b2 1 _ rfl
  have d2 := celN HT1.out.b2 2 _ rfl
  have d3 := celN HT1.out.b2 3 _ rfl
  have d4 := celN HT1.out.b2 4 _ rfl
  have df := frzN HT1.out.b2
  have k0 := celN HT1.out.b1 0 _ rfl
  have k1 := celN HT1.out.b1 1 _ rfl
  have k2 := celN HT1.out.b1 2 _ rfl
  have k3 := celN HT1.out.b1 3 _ rfl
  have k4 := celN HT1.out.b1 4 _ rfl
  have kf := frzN HT1.out.b1
  have lt1 := HT1.out.lt
  have g0 : w.heap.size < u1.heap.size := by omega
  have g1 : w.heap.size + 1 < u1.heap.size := by omega
  have g2 : w.heap.size + 1 + 1 < u1.heap.size := by omega
  go_wp2
  have hk : ∀ (x : World) (k o : Nat) (y : Value) (a : Nat), k ≠ a → (x.setCell ⟨a, o, none⟩ y).heap[k]? = x.heap[k]? := fun x k o y a h => Below.heap_setCell _ _ _ _ (by simpa using h)
  refine bodyPost_ret (v := .agg #[.int .i64 p.number, .string p.node, .slice ap2 p.ls.length kp2, .int .i64 p.done, .int .i64 p.state]) ?_ rfl ⟨_, rfl, own_heapN HRp.out (fun k hk2 => ?_) (Nat.le_refl _), ?_⟩
  · simp only [results, Tryz.results36, go_sem]
    simp [go_sem, k0, k1, k2, k3, k4]
  · repeat rw [hk _ _ _ _ _ (by omega)]
  · have hB := HT1.out.bel
    repeat refine Below.setCell ?_ (by simp only; omega) _
    exact hB
/-- The rows of new ones. -/
structure JBown (w : World) (B : Nat) (qs : List MJ) (cs : List JB) (k : Nat) : Prop where
  len : qs.length = cs.length
  el : ∀ j (hq : j < qs.length) (hc : j < cs.length), j < k → qs[j] = jbQ cs[j] qs[j].left ∧ w.ownsRow B 9 1 qs[j].left cs[j].ls.length (sR cs[j].ls)
  rest : ∀ j (hq : j < qs.length), k ≤ j → qs[j] = mj0
theorem JBown.inn {w : World} {B : Nat} {qs : List MJ} {cs : List JB} (h : JBown w B qs cs cs.length) : JBin w qs cs :=
  ⟨h.len, fun k hq hc => ⟨(h.el k hq hc hc).1, Srow.of (h.el k hq hc hc).2⟩⟩
theorem JBown.below {w w' : World} {B : Nat} {qs : List MJ} {cs : List JB} {k : Nat} (h : JBown w B qs cs k) (hb : Below w.heap.size w w') : JBown w' B qs cs k :=
  ⟨h.len, fun j hq hc hj => ⟨(h.el j hq hc hj).1, own_belowN (h.el j hq hc hj).2 hb⟩, h.rest⟩
theorem JBown.weak {w : World} {B B' : Nat} {qs : List MJ} {cs : List JB} {k : Nat} (h : JBown w B qs cs k) (hb : B' ≤ B) : JBown w B' qs cs k :=
  ⟨h.len, fun j hq hc hj => ⟨(h.el j hq hc hj).1, own_weakN (h.el j hq hc hj).2 hb⟩, h.rest⟩
theorem JBown.heap {u U : World} {lo lo' : Nat} {qs : List MJ} {cs : List JB} {k : Nat} (h : JBown u lo qs cs k) (he : ∀ k, lo ≤ k → U.heap[k]? = u.heap[k]?) (hl : lo' ≤ lo) : JBown U lo' qs cs k :=
  ⟨h.len, fun j hq hc hj => ⟨(h.el j hq hc hj).1, own_heapN (h.el j hq hc hj).2 he hl⟩, h.rest⟩
theorem JBown.put {w w' : World} {B g : Nat} {qs : List MJ} {cs : List JB} {k : Nat} (h : JBown w B qs cs k) (hg : w.grownBy w' (some g)) (hB : g < B) (hk : k < cs.length) {u : Value} (hu : w.ownsRow B 9 1 u cs[k].ls.length (sR cs[k].ls)) : JBown w' B (qs.set k (jbQ cs[k] u)) cs (k + 1) := by
  have kept : ∀ {x : Value} {n : Nat} {xs : List Value}, w.ownsRow B 9 1 x n xs → w'.ownsRow B 9 1 x n xs := fun hx => hx.kept (row := some g) hg (.inr (fun e => by have := (hx.lt _ e).1; omega))
  refine ⟨by rw [List.length_set]; exact h.len, fun j hq hc hj => ?_, fun j hq hj => ?_⟩
  · by_cases e : j = k
    · subst e
      rw [List.getElem_set_self]
      exact ⟨rfl, kept hu⟩
    · rw [List.getElem_set_ne (fun e2 => e e2.symm)]
      have h2 := h.el j (by simpa using hq) hc (by omega)
      exact ⟨h2.1, kept h2.2⟩
  · rw [List.getElem_set_ne (by omega)]
    exact h.rest j (by simpa using hq) (by omega)
set_option maxRecDepth 100000 in
set_option maxHeartbeats 4000000 in
theorem toJBS_any {w : World} {v : Value} {qs : List MJ} {cs : List JB} (h : MJrow w v qs) (hc : JBin w qs cs) (hl : cs.length ≤ 1048576) (hp : ∀ k (hk : k < cs.length), cs[k].ls.length ≤ 1048576) :
    Calls Tryz.prog 16 #[v] w fun e w' => ∃ u qs2, e = .returned u ∧ w'.ownsRow w.heap.size 53 5 u qs2.length (mjR qs2) ∧ JBown w' (w.heap.size + 1) qs2 cs cs.length ∧ Below w.heap.size w w' := by
  obtain ⟨ao, cap, rfl⟩ := h.sl
  have hlq := hc.len
  have HR : Hid (MJrow w (.slice ao cs.length cap) qs) := (show MJrow w (.slice ao cs.length cap) qs by rw [← hlq]; exact h)
  have HC : Hid (JBin w qs cs) := hc
  rw [hlq]
  have hmk := mj_mk w cs.length hl
  have HO : Hid ((w.alloc (.cells (mjR (List.replicate cs.length mj0)).toArray 53)).ownsRow w.heap.size 53 5 (.slice (some ⟨w.heap.size, 0, none⟩) cs.length cs.length) cs.length (mjR (List.replicate cs.length mj0))) := mj_own0 w cs.length hl
  have HHP : Hid (∀ k (hk : k < cs.length), cs[k].ls.length ≤ 1048576) := hp
  have HLQ : Hid (qs.length = cs.length) := hlq
  clear h hc hp hlq
  go_enter Tryz.func16, Tryz.ntmps16
  go_wp2
  go_loopw [4] (fun i wr => ∃ (k : Nat) (rs : List MJ), k ≤ cs.length ∧ i = .int .i64 k ∧ wr.ownsRow w.heap.size 53 5 (.slice (some ⟨w.heap.size, 0, none⟩) cs.length cs.length) cs.length (mjR rs) ∧ JBown wr (w.heap.size + 1) rs cs k ∧ Below w.heap.size w wr) (fun i _ => cs.length - (intOf i).toNat)
  case atStart => exact ⟨0, List.replicate cs.length mj0, Nat.zero_le _, rfl, HO.out, ⟨by simp, fun j _ _ hj => absurd hj (by omega), fun j hq _ => by simp⟩, (Below.refl _ _).alloc (Nat.le_refl _) _⟩
  case round =>
    obtain ⟨k, rs, hk, rfl, hown, hcp, hb⟩ := hrel
    clear hmk HO
    by_cases hlt : k < cs.length
    · have hltq : k < qs.length := by rw [HLQ.out]; exact hlt
      obtain ⟨g, o, cap2, hv, _, hg, hc⟩ := HR.out.resolve_left (fun h => by rw [h.1] at hltq; simp at hltq)
      injection hv with hv1 hv2 hv3
      subst hv1 hv3
      clear hv2
      obtain ⟨d0, d1, d2, d3, d4⟩ := hc.below hb hg k hltq
      obtain ⟨e0, e1⟩ := HC.out.el k hltq hlt
      rw [e0] at d0 d1 d3 d4
      unfold jbQ at d0 d1 d3 d4
      simp only at d0 d1 d3 d4
      clear e0
      have hlen := hcp.len
      have hown2 : wr.ownsRow w.heap.size 53 5 (.slice (some ⟨w.heap.size, 0, none⟩) rs.length cs.length) rs.length (mjR rs) := by rw [hlen]; exact hown
      have HOW : Hid (wr.ownsRow w.heap.size 53 5 (.slice (some ⟨w.heap.size, 0, none⟩) rs.length cs.length) rs.length (mjR rs)) := hown2
      generalize qs[k].left = y at *
      obtain ⟨ap, kp, rfl⟩ := e1.sl
      have hTO := toJB_any (p := cs[k]) (e1.below hb) (HHP.out k hlt)
      have HTO : Hid _ := hTO
      unfold jbA jbC at HTO
      have HCP : Hid (JBown wr (w.heap.size + 1) rs cs k) := hcp
      have HB : Hid _ := hb
      have hk0 : (0 : Int) ≤ (k : Int) := by omega
      have hk1 : (k : Int) < (cs.length : Int) := by omega
      have hgw : g < wr.heap.size := Nat.lt_of_lt_of_le hg hb.size
      have hrl : k < rs.length := by omega
      have HLT : Hid (w.heap.size < wr.heap.size) := (hown.lt _ rfl).2
      clear hc hown hown2 hb hTO hcp e1
      go_wp2_with (go_at_call 36; refine Calls.mono HTO.out ?_; rintro e u5 ⟨n1, rfl, ho1, hu5⟩; obtain ⟨a1, k1, rfl⟩ := s_sl ho1; have HN1 : Hid _ := ho1; have HB5 : Hid (Below wr.heap.size wr u5) := hu5; have HO5 : Hid (u5.ownsRow w.heap.size 53 5 (.slice (some ⟨w.heap.size, 0, none⟩) rs.length cs.length) rs.length (mjR rs)) := mj_below HOW.out hu5; obtain ⟨y, y0, y1, y2, y3, y4⟩ := mj_cells HO5.out rfl k hrl; have hfz := HO5.out.frozenAt; clear hu5 ho1)
      have hlt5 := HLT.out
      have st := own_setMJ HO5.out k hrl (jbQ cs[k] (.slice a1 cs[k].ls.length k1))
      rw [hlen] at st
      have hb6 : Below w.heap.size w u5 := HB.out.trans (HB5.out.mono HB.out.size)
      have hcp2 := (HCP.out.below HB5.out).put st.2 (by omega) hlt (own_weakN HN1.out (by omega))
      refine ⟨⟨k + 1, _, hlt, by simp, st.1, hcp2, hb6.grown st.2 hb6.size (fun j hj => by cases hj; exact Nat.le_refl _)⟩, ?_⟩
      simp [intOf]
      omega
    · obtain rfl : k = cs.length := by omega
      have hlen := hcp.len
      have HO2 : Hid _ := hown
      have HCP : Hid _ := hcp
      clear hown hcp
      go_wp2
      go_ret
      exact ⟨_, rs, rfl, by rw [hlen]; exact HO2.out, HCP.out, hb⟩
end Go.Proofs.YtalpcjclahkgnaaGreat
