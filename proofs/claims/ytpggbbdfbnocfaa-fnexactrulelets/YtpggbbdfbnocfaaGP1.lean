import Derived.Test.YtpggbbdfbnocfaaRowNG3
import Derived.Test.YtpggbbdfbnocfaaRowNR4
import Derived.Test.YtpggbbdfbnocfaaRt12x
import Derived.Test.YtpggbbdfbnocfaaLG
import Derived.Test.YtpggbbdfbnocfaaNe0
namespace Go.Proofs.Ytpggbbdfbnocfaa
open Go.ChangeShapes Go.WideShapes Go.ChangeAt Go.RowKit

structure GP where
  rs : List NR
def gpQ (_p : GP) (v : Value) : NG := ⟨v⟩
def gpC (_p : GP) (v : Value) : Array Value := #[v]
def gpA (p : GP) (v : Value) : Value := .agg (gpC p v)
/-- The rows of GP. -/
structure GPin (w : World) (qs : List NG) (cs : List GP) : Prop where
  len : qs.length = cs.length
  el : ∀ k (hq : k < qs.length) (hc : k < cs.length), qs[k] = gpQ cs[k] qs[k].rules ∧ NRrow w qs[k].rules cs[k].rs
theorem GPin.below {w w' : World} {qs : List NG} {cs : List GP} (h : GPin w qs cs) (hb : Below w.heap.size w w') : GPin w' qs cs :=
  ⟨h.len, fun k hq hc => ⟨(h.el k hq hc).1, (h.el k hq hc).2.below hb⟩⟩
set_option maxRecDepth 100000 in
set_option maxHeartbeats 4000000 in
theorem toGP_any {w : World} {p : GP} {v : Value} (hp : NRrow w v p.rs) (lp : p.rs.length ≤ 1048576) : Calls Try.prog 46 #[gpA p v] w fun e w' => ∃ u, e = .returned (gpA p u) ∧ w'.ownsRow (w.heap.size + 3) 44 7 u p.rs.length (nrR p.rs) ∧ Below w.heap.size w w' := by
  obtain ⟨ap, kp, rfl⟩ := hp.sl
  have HP : Hid (NRrow w (.slice ap p.rs.length kp) p.rs) := hp
  clear hp
  unfold gpA gpC
  go_enter Try.func46, Try.ntmps46
  go_wp2_with fail
  have HT0 : Hid (T3 w (((w.alloc (.cells #[.slice ap p.rs.length kp] 85)).alloc (.cells #[.slice none 0 0] 90)).alloc (.cells #[.slice none 0 0] 90)) 85 90 #[.slice ap p.rs.length kp] #[.slice none 0 0] #[.slice none 0 0]) := T3.new _ _ _ _ _ _
  generalize (((w.alloc (.cells #[.slice ap p.rs.length kp] 85)).alloc (.cells #[.slice none 0 0] 90)).alloc (.cells #[.slice none 0 0] 90)) = u0 at *
  refine Calls.mono (toNRS_any (HP.out.below HT0.out.bel) lp) ?_
  rintro e u1 ⟨v1, rfl, o1, hb1⟩
  obtain ⟨ap2, kp2, rfl⟩ := nr_sl o1
  have HT1 : Hid (T3 w u1 85 90 #[.slice ap p.rs.length kp] #[.slice none 0 0] #[.slice none 0 0]) := HT0.out.step hb1
  have HRp : Hid (u1.ownsRow (w.heap.size + 3) 44 7 (.slice ap2 p.rs.length kp2) p.rs.length (nrR p.rs)) := own_weakN o1 (by have := HT0.out.lt; omega)
  clear o1 hb1 HT0
  have d0 := celN HT1.out.b2 0 _ rfl
  have df := frzN HT1.out.b2
  have k0 := celN HT1.out.b1 0 _ rfl
  have kf := frzN HT1.out.b1
  have lt1 := HT1.out.lt
  have g0 : w.heap.size < u1.heap.size := by omega
  have g1 : w.heap.size + 1 < u1.heap.size := by omega
  have g2 : w.heap.size + 1 + 1 < u1.heap.size := by omega
  go_wp2
  have hk : ∀ (x : World) (k o : Nat) (y : Value) (a : Nat), k ≠ a → (x.setCell ⟨a, o, none⟩ y).heap[k]? = x.heap[k]? := fun x k o y a h => Below.heap_setCell _ _ _ _ (by simpa using h)
  refine bodyPost_ret (v := .agg #[.slice ap2 p.rs.length kp2]) ?_ rfl ⟨_, rfl, own_heapN HRp.out (fun k hk2 => ?_) (Nat.le_refl _), ?_⟩
  · simp only [results, Try.results46, go_sem]
    simp [go_sem, k0]
  · repeat rw [hk _ _ _ _ _ (by omega)]
  · have hB := HT1.out.bel
    repeat refine Below.setCell ?_ (by simp only; omega) _
    exact hB
/-- The rows of new ones. -/
structure GPown (w : World) (B : Nat) (qs : List NG) (cs : List GP) (k : Nat) : Prop where
  len : qs.length = cs.length
  el : ∀ j (hq : j < qs.length) (hc : j < cs.length), j < k → qs[j] = gpQ cs[j] qs[j].rules ∧ w.ownsRow B 44 7 qs[j].rules cs[j].rs.length (nrR cs[j].rs)
  rest : ∀ j (hq : j < qs.length), k ≤ j → qs[j] = ng0
theorem GPown.inn {w : World} {B : Nat} {qs : List NG} {cs : List GP} (h : GPown w B qs cs cs.length) : GPin w qs cs :=
  ⟨h.len, fun k hq hc => ⟨(h.el k hq hc hc).1, NRrow.of (h.el k hq hc hc).2⟩⟩
theorem GPown.below {w w' : World} {B : Nat} {qs : List NG} {cs : List GP} {k : Nat} (h : GPown w B qs cs k) (hb : Below w.heap.size w w') : GPown w' B qs cs k :=
  ⟨h.len, fun j hq hc hj => ⟨(h.el j hq hc hj).1, own_belowN (h.el j hq hc hj).2 hb⟩, h.rest⟩
theorem GPown.weak {w : World} {B B' : Nat} {qs : List NG} {cs : List GP} {k : Nat} (h : GPown w B qs cs k) (hb : B' ≤ B) : GPown w B' qs cs k :=
  ⟨h.len, fun j hq hc hj => ⟨(h.el j hq hc hj).1, own_weakN (h.el j hq hc hj).2 hb⟩, h.rest⟩
theorem GPown.heap {u U : World} {lo lo' : Nat} {qs : List NG} {cs : List GP} {k : Nat} (h : GPown u lo qs cs k) (he : ∀ k, lo ≤ k → U.heap[k]? = u.heap[k]?) (hl : lo' ≤ lo) : GPown U lo' qs cs k :=
  ⟨h.len, fun j hq hc hj => ⟨(h.el j hq hc hj).1, own_heapN (h.el j hq hc hj).2 he hl⟩, h.rest⟩
theorem GPown.put {w w' : World} {B g : Nat} {qs : List NG} {cs : List GP} {k : Nat} (h : GPown w B qs cs k) (hg : w.grownBy w' (some g)) (hB : g < B) (hk : k < cs.length) {u : Value} (hu : w.ownsRow B 44 7 u cs[k].rs.length (nrR cs[k].rs)) : GPown w' B (qs.set k (gpQ cs[k] u)) cs (k + 1) := by
  have kept : ∀ {x : Value} {n : Nat} {xs : List Value}, w.ownsRow B 44 7 x n xs → w'.ownsRow B 44 7 x n xs := fun hx => hx.kept (row := some g) hg (.inr (fun e => by have := (hx.lt _ e).1; omega))
  refine ⟨by rw [List.length_set]; exact h.len, fun j hq hc hj => ?_, fun j hq hj => ?_⟩
  · by_cases e : j = k
    · subst e
      rw [List.getElem_set_self]
      exact ⟨rfl, kept hu⟩
    · rw [List.getElem_set_ne (fun e2 => e e2.symm)]
      have h2 := h.el j (by simpa using hq) hc (by omega)
      exact ⟨h2.1, kept h2.2⟩
  · rw [List.getElem_set_ne (by omega)]
    exact h.rest j (by simpa using hq) (by omega)
set_option maxRecDepth 100000 in
set_option maxHeartbeats 4000000 in
theorem toGPS_any {w : World} {v : Value} {qs : List NG} {cs : List GP} (h : NGrow w v qs) (hc : GPin w qs cs) (hl : cs.length ≤ 1048576) (hp : ∀ k (hk : k < cs.length), cs[k].rs.length ≤ 1048576) :
    Calls Try.prog 28 #[v] w fun e w' => ∃ u qs2, e = .returned u ∧ w'.ownsRow w.heap.size 90 1 u qs2.length (ngR qs2) ∧ GPown w' (w.heap.size + 1) qs2 cs cs.length ∧ Below w.heap.size w w' := by
  obtain ⟨ao, cap, rfl⟩ := h.sl
  have hlq := hc.len
  have HR : Hid (NGrow w (.slice ao cs.length cap) qs) := (show NGrow w (.slice ao cs.length cap) qs by rw [← hlq]; exact h)
  have HC : Hid (GPin w qs cs) := hc
  rw [hlq]
  have hmk := ng_mk w cs.length hl
  have HO : Hid ((w.alloc (.cells (ngR (List.replicate cs.length ng0)).toArray 90)).ownsRow w.heap.size 90 1 (.slice (some ⟨w.heap.size, 0, none⟩) cs.length cs.length) cs.length (ngR (List.replicate cs.length ng0))) := ng_own0 w cs.length hl
  have HHP : Hid (∀ k (hk : k < cs.length), cs[k].rs.length ≤ 1048576) := hp
  have HLQ : Hid (qs.length = cs.length) := hlq
  clear h hc hp hlq
  go_enter Try.func28, Try.ntmps28
  go_wp2
  go_loopw [4] (fun i wr => ∃ (k : Nat) (rs : List NG), k ≤ cs.length ∧ i = .int .i64 k ∧ wr.ownsRow w.heap.size 90 1 (.slice (some ⟨w.heap.size, 0, none⟩) cs.length cs.length) cs.length (ngR rs) ∧ GPown wr (w.heap.size + 1) rs cs k ∧ Below w.heap.size w wr) (fun i _ => cs.length - (intOf i).toNat)
  case atStart => exact ⟨0, List.replicate cs.length ng0, Nat.zero_le _, rfl, HO.out, ⟨by simp, fun j _ _ hj => absurd hj (by omega), fun j hq _ => by simp⟩, (Below.refl _ _).alloc (Nat.le_refl _) _⟩
  case round =>
    obtain ⟨k, rs, hk, rfl, hown, hcp, hb⟩ := hrel
    clear hmk HO
    by_cases hlt : k < cs.length
    · have hltq : k < qs.length := by rw [HLQ.out]; exact hlt
      obtain ⟨g, o, cap2, hv, _, hg, hc⟩ := HR.out.resolve_left (fun h => by rw [h.1] at hltq; simp at hltq)
      injection hv with hv1 hv2 hv3
      subst hv1 hv3
      clear hv2
      have d0 := hc.below hb hg k hltq
      obtain ⟨e0, e1⟩ := HC.out.el k hltq hlt
      clear e0
      have hlen := hcp.len
      have hown2 : wr.ownsRow w.heap.size 90 1 (.slice (some ⟨w.heap.size, 0, none⟩) rs.length cs.length) rs.length (ngR rs) := by rw [hlen]; exact hown
      have HOW : Hid (wr.ownsRow w.heap.size 90 1 (.slice (some ⟨w.heap.size, 0, none⟩) rs.length cs.length) rs.length (ngR rs)) := hown2
      generalize qs[k].rules = y at *
      obtain ⟨ap, kp, rfl⟩ := e1.sl
      have hTO := toGP_any (p := cs[k]) (e1.below hb) (HHP.out k hlt)
      have HTO : Hid _ := hTO
      unfold gpA gpC at HTO
      have HCP : Hid (GPown wr (w.heap.size + 1) rs cs k) := hcp
      have HB : Hid _ := hb
      have hk0 : (0 : Int) ≤ (k : Int) := by omega
      have hk1 : (k : Int) < (cs.length : Int) := by omega
      have hgw : g < wr.heap.size := Nat.lt_of_lt_of_le hg hb.size
      have hrl : k < rs.length := by omega
      have HLT : Hid (w.heap.size < wr.heap.size) := (hown.lt _ rfl).2
      clear hc hown hown2 hb hTO hcp e1
      go_wp2_with (go_at_call 46; refine Calls.mono HTO.out ?_; rintro e u5 ⟨n1, rfl, ho1, hu5⟩; obtain ⟨a1, k1, rfl⟩ := nr_sl ho1; have HN1 : Hid _ := ho1; have HB5 : Hid (Below wr.heap.size wr u5) := hu5; have HO5 : Hid (u5.ownsRow w.heap.size 90 1 (.slice (some ⟨w.heap.size, 0, none⟩) rs.length cs.length) rs.length (ngR rs)) := ng_below HOW.out hu5; obtain ⟨y, y0⟩ := ng_cells HO5.out rfl k hrl; have hfz := HO5.out.frozenAt; clear hu5 ho1)
      have hlt5 := HLT.out
      have st := own_setNG HO5.out k hrl (gpQ cs[k] (.slice a1 cs[k].rs.length k1))
      rw [hlen] at st
      have hb6 : Below w.heap.size w u5 := HB.out.trans (HB5.out.mono HB.out.size)
      have hcp2 := (HCP.out.below HB5.out).put st.2 (by omega) hlt (own_weakN HN1.out (by omega))
      refine ⟨⟨k + 1, _, hlt, by simp, st.1, hcp2, hb6.grown st.2 hb6.size (fun j hj => by cases hj; exact Nat.le_refl _)⟩, ?_⟩
      simp [intOf]
      omega
    · obtain rfl : k = cs.length := by omega
      have hlen := hcp.len
      have HO2 : Hid _ := hown
      have HCP : Hid _ := hcp
      clear hown hcp
      go_wp2
      go_ret
      exact ⟨_, rs, rfl, by rw [hlen]; exact HO2.out, HCP.out, hb⟩
end Go.Proofs.Ytpggbbdfbnocfaa
