import Derived.Test.YtomfbiiegcmmlaaCh1
namespace Go.Proofs.Ytomfbiiegcmmlaa
open Go.ChangeShapes Go.WideShapes Go.ChangeAt Go.RowKit

set_option maxRecDepth 100000
theorem ba_empty {s : ByteArray} (h : s.size = 0) : s = ⟨#[]⟩ := ext_ba (List.length_eq_zero_iff.1 (by simpa using h))
theorem ba_ne {s : ByteArray} (h : ¬ s.size = 0) : s.toList.isEmpty = false ∧ ¬ s.toList = [] := by
  have hie : s.toList.isEmpty = false := by
    rw [ByteArray.toList_eq]
    cases hh : s.data.toList with
    | nil => exact absurd (show s.size = 0 by rw [show s = ⟨#[]⟩ from ext_ba hh]; rfl) h
    | cons => rfl
  exact ⟨hie, fun h => by rw [h] at hie; cases hie⟩
theorem ceI_empty {ms : List IM} {f j : Nat} (h : (bkO ms j).size = 0) : ceI ms (f + 1) j = true := by unfold ceI; rw [if_pos h]
theorem ceI_none {ms : List IM} {f j : Nat} (h : ¬ (bkO ms j).size = 0) (hn : fdN ms (bkO ms j) = none) : ceI ms (f + 1) j = false := by unfold ceI; rw [if_neg h, hn]
theorem ceI_some {ms : List IM} {f j k : Nat} (h : ¬ (bkO ms j).size = 0) (hn : fdN ms (bkO ms j) = some k) : ceI ms (f + 1) j = ceI ms f k := by
  conv => lhs; unfold ceI
  rw [if_neg h, hn]
/-- The box of an image under way. -/
structure CB (w u : World) (ms : List IM) (c : Nat) : Prop where
  bel : Below w.heap.size w u
  box : ∃ n x2 x3 x4 a2 a3 a4 k2 k3 k4, u.heap[w.heap.size]? = some (.cells #[.string n, .string (bkO ms c), .slice a2 x2 k2, .slice a3 x3 k3, .slice a4 x4 k4] 57 (0, 0))
set_option maxHeartbeats 4000000 in
theorem comesToEnd_any {w : World} {v : Value} {gs : List IG} {ms : List IM} (h : IGrow w v gs) (hi : IGin w gs ms) (hl : ms.length ≤ 1048576) (c0 : Nat) (n : ByteArray) (x2 x3 x4 : Nat) (a2 a3 a4 : Option Addr) (k2 k3 k4 : Nat) : Calls Try.prog 74 #[v, .agg #[.string n, .string (bkO ms c0), .slice a2 x2 k2, .slice a3 x3 k3, .slice a4 x4 k4]] w fun e w' => e = .returned (.bool (ceI ms ms.length c0)) ∧ Below w.heap.size w w' := by
  obtain ⟨ao, cap, rfl⟩ := h.sl
  have hlq := hi.len
  have HR : Hid (IGrow w (.slice ao ms.length cap) gs) := (show IGrow w (.slice ao ms.length cap) gs by rw [← hlq]; exact h)
  have HC : Hid (IGin w gs ms) := hi
  have HLQ : Hid (gs.length = ms.length) := hlq
  have HCB : Hid (CB w (w.alloc (.cells #[.string n, .string (bkO ms c0), .slice a2 x2 k2, .slice a3 x3 k3, .slice a4 x4 k4] 57)) ms c0) := ⟨(Below.refl _ _).alloc (Nat.le_refl _) _, _, _, _, _, _, _, _, _, _, _, heap_new _ _⟩
  rw [hlq]
  clear h hi hlq
  obtain ⟨G, hG⟩ : ∃ G, ceI ms ms.length c0 = G := ⟨_, rfl⟩
  rw [hG]
  have HG : Hid (ceI ms (ms.length - 0) c0 = G) := hG
  clear hG
  go_enter Try.func74, Try.ntmps74
  go_wp2
  go_loopw [8] (fun i wr => ∃ (k c : Nat), k ≤ ms.length ∧ i = .int .i64 k ∧ ceI ms (ms.length - k) c = G ∧ CB w wr ms c) (fun i _ => ms.length - (intOf i).toNat)
  case atStart => exact ⟨0, c0, Nat.zero_le _, rfl, HG.out, HCB.out⟩
  case round =>
    obtain ⟨k, c, hk, rfl, hg, hcb⟩ := hrel
    clear HCB HG
    obtain ⟨n, x2, x3, x4, a2, a3, a4, k2, k3, k4, hbx⟩ := hcb.box
    obtain ⟨c0, c1, c2, c3, c4, cf⟩ := cel5 hbx
    have HB : Hid (Below w.heap.size w wr) := hcb.bel
    have hwl : w.heap.size < wr.heap.size := (Array.getElem?_eq_some_iff.1 hbx).1
    have HBX : Hid _ := hbx
    clear hcb hbx
    by_cases hlt : k < ms.length
    · have hk0 : (0 : Int) ≤ (k : Int) := by omega
      have hk1 : (k : Int) < (ms.length : Int) := by omega
      obtain ⟨f, hf⟩ : ∃ f, ms.length - k = f + 1 := ⟨ms.length - k - 1, by omega⟩
      have HF : Hid (ms.length - (k + 1) = f) := (show ms.length - (k + 1) = f by omega)
      rw [hf] at hg
      clear hf
      by_cases he : (bkO ms c).size = 0
      · rw [ceI_empty he] at hg
        subst hg
        have hbe := ba_empty he
        rw [hbe] at c1
        clear he hbe
        go_wp2
        go_ret
        exact ⟨rfl, HB.out⟩
      · obtain ⟨hie, hne⟩ := ba_ne he
        have HIA : Hid _ := imageAt_any (HR.out.below HB.out) (HC.out.below HB.out) hl (bkO ms c)
        cases hq : fdN ms (bkO ms c) with
        | none =>
          rw [ceI_none he hq] at hg
          subst hg
          have hfi : fdI ms (bkO ms c) = -1 := by unfold fdI; rw [hq]
          rw [hfi] at HIA
          clear hq hfi he
          go_wp2_with (go_at_call 73; refine Calls.mono HIA.out ?_; rintro e u1 ⟨rfl, hu⟩; have HU : Hid _ := hu; clear hu)
          go_ret
          exact ⟨rfl, HB.out.trans (HU.out.mono HB.out.size)⟩
        | some j =>
          rw [ceI_some he hq] at hg
          have hfi : fdI ms (bkO ms c) = j := by unfold fdI; rw [hq]
          have hj := fdN_lt hq
          rw [hfi] at HIA
          have hkq : j < gs.length := by rw [HLQ.out]; exact hj
          obtain ⟨g, o, cap2, hv, _, hg3, hc3⟩ := HR.out.resolve_left (fun h => by rw [h.1] at hkq; simp at hkq)
          injection hv with hv1 hv2 hv3
          subst hv1 hv3
          obtain ⟨e0, e1, q, e2⟩ := HC.out.el j hkq hj
          obtain ⟨p1, r1, s1⟩ := e2.t.sl
          obtain ⟨p2, r2, s2⟩ := e2.d.sl
          obtain ⟨p3, r3, s3⟩ := e2.sn.sl
          simp only at s1 s2 s3
          have HD : Hid (∀ u, Below w.heap.size w u → u.cell? ⟨g, o + j * 5, none⟩ = some (.string ms[j].n) ∧ u.cell? ⟨g, o + j * 5 + 1, none⟩ = some (.string (bkO ms j)) ∧ u.cell? ⟨g, o + j * 5 + 2, none⟩ = some (.slice p1 ms[j].t.length r1) ∧ u.cell? ⟨g, o + j * 5 + 3, none⟩ = some (.slice p2 ms[j].d.length r2) ∧ u.cell? ⟨g, o + j * 5 + 4, none⟩ = some (.slice p3 q.length r3)) := fun u hu => by
            obtain ⟨d0, d1, d2, d3, d4⟩ := hc3.below hu hg3 j hkq
            rw [e0] at d0
            rw [e1, ← bkO_at ms j hj] at d1
            rw [s1] at d2
            rw [s2] at d3
            rw [s3] at d4
            exact ⟨d0, d1, d2, d3, d4⟩
          have hj0 : (0 : Int) ≤ (j : Int) := by omega
          have hj1 : (j : Int) < (ms.length : Int) := by omega
          have hgne : g ≠ w.heap.size := by omega
          have HGE : Hid (ceI ms f j = G) := hg
          clear hq hfi he hc3 e0 e1 e2 s1 s2 s3 hv2 hg
          generalize ms[j].n = nj at *
          generalize ms[j].t.length = tj at *
          generalize ms[j].d.length = dj at *
          go_wp2_with (go_at_call 73; refine Calls.mono HIA.out ?_; rintro e u1 ⟨rfl, hu⟩; have HU : Hid (Below wr.heap.size wr u1) := hu; have HUW : Hid (Below w.heap.size w u1) := HB.out.trans (hu.mono HB.out.size); obtain ⟨d0, d1, d2, d3, d4⟩ := HD.out u1 HUW.out; have hbx1 := (hu.block _ hwl).trans HBX.out; obtain ⟨z0, z1, z2, z3, z4, zf⟩ := cel5 hbx1; have HBX1 : Hid _ := hbx1; have hw1 : w.heap.size < u1.heap.size := (Nat.lt_of_lt_of_le hwl hu.size); clear hu hbx1)
          obtain ⟨s1, s2, s3⟩ := st5 HUW.out (Nat.le_refl _) HBX1.out (.string nj) (.string (bkO ms j)) (.slice p1 tj r1) (.slice p2 dj r2) (.slice p3 q.length r3) rfl
          exact ⟨⟨k + 1, j, hlt, by simp, by rw [HF.out]; exact HGE.out, ⟨s1, _, _, _, _, _, _, _, _, _, _, s2⟩⟩, by simp [intOf]; omega⟩
    · obtain rfl : k = ms.length := by omega
      rw [Nat.sub_self] at hg
      have hg2 : G = false := hg.symm
      subst hg2
      go_wp2
      go_ret
      exact ⟨rfl, HB.out⟩
end Go.Proofs.Ytomfbiiegcmmlaa
