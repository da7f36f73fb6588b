import Derived.Test.YtomfbiiegcmmlaaCh3
import Derived.Test.YtomfbiiegcmmlaaSfZ
namespace Go.Proofs.Ytomfbiiegcmmlaa
open Go.ChangeShapes Go.WideShapes Go.ChangeAt Go.RowKit

set_option maxRecDepth 100000
def s1B (ms : List IM) (k : Nat) (hk : k < ms.length) : Bool := imB ms[k] && decide (fdI ms ms[k].n = k)
theorem c1_of {ms : List IM} (h12 : ms.length ≤ 12) {k : Nat} (hk : k < ms.length) : c1B ms k hk = (s1B ms k hk && ceI ms 14 k) := by
  have e : ceI ms ms.length k = ceI ms 14 k := by
    cases hq : ceI ms 14 k with
    | true => exact ceI_len hk hq
    | false =>
      cases hq2 : ceI ms ms.length k with
      | false => rfl
      | true => rw [ceI_le hq2 (by omega)] at hq; cases hq
  unfold c1B s1B
  rw [e]
set_option maxHeartbeats 4000000 in
theorem specChain_any {w : World} {v : Value} {gs : List IG} {ms : List IM} (h : IGrow w v gs) (hi : IGin w gs ms) (hl : ms.length ≤ 1048576) (hL : ∀ k (hk : k < ms.length), ILen ms[k]) : Calls Try.prog 20 #[v] w fun e w' => e = .returned (.int .i64 (if chB ms then 0 else 1)) ∧ Below w.heap.size w w' := by
  obtain ⟨ao, cap, rfl⟩ := h.sl
  have hlq := hi.len
  have HR : Hid (IGrow w (.slice ao ms.length cap) gs) := (show IGrow w (.slice ao ms.length cap) gs by rw [← hlq]; exact h)
  have HC : Hid (IGin w gs ms) := hi
  have HLQ : Hid (gs.length = ms.length) := hlq
  have HLL : Hid (∀ k (hk : k < ms.length), ILen ms[k]) := hL
  rw [hlq]
  clear h hi hlq hL
  by_cases h12 : 12 < ms.length
  · have hno : chB ms = false := decide_eq_false (fun h => by omega)
    rw [hno]
    have hi : (12 : Int) < (ms.length : Int) := by omega
    clear hno
    go_enter Try.func20, Try.ntmps20
    go_wp2
    go_ret
    exact ⟨rfl, Below.refl _ _⟩
  have hi : ¬ (12 : Int) < (ms.length : Int) := by omega
  have HNO : Hid (∀ k (hk : k < ms.length), (s1B ms k hk = false ∨ ceI ms 14 k = false) → chB ms = false) := fun k hk h => chB_no hk (by
    rw [c1_of (by omega) hk]
    rcases h with h | h <;> rw [h] <;> simp)
  have HYS : Hid ((∀ k (hk : k < ms.length), s1B ms k hk = true) → (∀ k, k < ms.length → ceI ms 14 k = true) → chB ms = true) := fun h1 h2 => decide_eq_true ⟨by omega, fun k hk => by rw [c1_of (by omega) hk, h1 k hk, h2 k hk]; rfl⟩
  generalize chB ms = G at *
  generalize hres : (if G then (0 : Int) else 1) = res
  have HRES : Hid ((if G then (0 : Int) else 1) = res) := hres
  clear hres
  go_enter Try.func20, Try.ntmps20
  go_wp2
  go_loopw [3] (fun i wr => ∃ k : Nat, k ≤ ms.length ∧ i = .int .i64 k ∧ (∀ j (hj : j < ms.length), j < k → s1B ms j hj = true) ∧ Below w.heap.size w wr) (fun i _ => ms.length - (intOf i).toNat)
  case atStart => exact ⟨0, Nat.zero_le _, rfl, fun j _ hj => absurd hj (Nat.not_lt_zero _), Below.refl _ _⟩
  case round =>
    obtain ⟨k, hk, rfl, hal, hb⟩ := hrel
    have HA : Hid (∀ j (hj : j < ms.length), j < k → s1B ms j hj = true) := hal
    have HB : Hid (Below w.heap.size w wr) := hb
    clear hal
    by_cases hlt : k < ms.length
    · have hkq : k < gs.length := by rw [HLQ.out]; exact hlt
      obtain ⟨g, o, cap2, hv, _, hg, hc⟩ := HR.out.resolve_left (fun h => by rw [h.1] at hkq; simp at hkq)
      injection hv with hv1 hv2 hv3
      subst hv1 hv3
      obtain ⟨e0, e1, q, e2⟩ := HC.out.el k hkq hlt
      obtain ⟨p1, r1, s1⟩ := e2.t.sl
      obtain ⟨p2, r2, s2⟩ := e2.d.sl
      obtain ⟨p3, r3, s3⟩ := e2.sn.sl
      simp only at s1 s2 s3
      obtain ⟨d0, d1, d2, d3, d4⟩ := hc.below hb hg k hkq
      have HDN : Hid (∀ u, Below w.heap.size w u → u.cell? ⟨g, o + k * 5, none⟩ = some (.string ms[k].n)) := fun u hu => by
        obtain ⟨x0, _⟩ := hc.below hu hg k hkq
        rw [e0] at x0
        exact x0
      rw [e0] at d0
      rw [e1] at d1
      rw [s1] at d2
      rw [s2] at d3
      rw [s3] at d4
      have e3 := e2.below hb
      rw [s1, s2, s3] at e3
      have HIF : Hid _ := specImage_any e3 (HLL.out k hlt)
      unfold imA at HIF
      simp only at HIF
      obtain ⟨j, hj, hjk⟩ := fd_self hlt
      have HFD : Hid (∀ u, Below w.heap.size w u → Calls Try.prog 21 #[.slice (some ⟨g, o, none⟩) ms.length cap, .string ms[k].n] u fun e w' => e = .returned (.int .i64 j) ∧ w' = u) := fun u hu => by
        have := l13Find_any (HR.out.below hu) (HC.out.below hu) hl ms[k].n
        rw [hj] at this
        exact this
      have HCB : Hid (s1B ms k hlt = (imB ms[k] && decide (fdI ms ms[k].n = k))) := (show s1B ms k hlt = _ from rfl)
      rw [hj] at HCB
      have HX : Hid (s1B ms k hlt = false → G = false) := fun h => HNO.out k hlt (.inl h)
      have HX2 : Hid (s1B ms k hlt = true → ∀ j (hj : j < ms.length), j < k + 1 → s1B ms j hj = true) := fun h j hl hj => by
        rcases Nat.lt_succ_iff_lt_or_eq.1 hj with h2 | h2
        · exact HA.out j hl h2
        · subst h2; exact h
      have hk0 : (0 : Int) ≤ (k : Int) := by omega
      have hk1 : (k : Int) < (ms.length : Int) := by omega
      have hgw : g < wr.heap.size := Nat.lt_of_lt_of_le hg hb.size
      generalize s1B ms k hlt = cb at *
      generalize imB ms[k] = ib at *
      clear hc e0 e1 e2 e3 s1 s2 s3 hv2 hb hj
      generalize ms[k] = m at *
      cases ib
      · have hg0 := HX.out HCB.out
        subst hg0
        go_wp2_with (go_at_call 42; refine Calls.mono HIF.out ?_; rintro e u1 ⟨rfl, hu⟩; have HU : Hid (Below w.heap.size w u1) := HB.out.trans (hu.mono HB.out.size); clear hu)
        go_ret
        exact ⟨ret_int HRES.out, HU.out⟩
      by_cases hjq : j = k
      · subst hjq
        have hyy := HX2.out (by rw [HCB.out]; simp)
        have HYY : Hid _ := hyy
        clear hyy
        go_wp2_with (first
          | (go_at_call 42; refine Calls.mono HIF.out ?_; rintro e u1 ⟨rfl, hu⟩; have HU : Hid (Below w.heap.size w u1) := HB.out.trans (hu.mono HB.out.size); have z0 := HDN.out u1 HU.out; clear hu)
          | (go_at_call 21; refine Calls.mono (HFD.out _ HU.out) ?_; rintro e u2 ⟨rfl, hu⟩; rw [hu]; clear hu))
        exact ⟨⟨j + 1, hlt, by simp, HYY.out, HU.out⟩, by simp [intOf]; omega⟩
      · have hg0 := HX.out (by rw [HCB.out, decide_eq_false (by omega)]; simp)
        subst hg0
        have hji : ((j : Int) == (k : Int)) = false := by simp; omega
        go_wp2_with (first
          | (go_at_call 42; refine Calls.mono HIF.out ?_; rintro e u1 ⟨rfl, hu⟩; have HU : Hid (Below w.heap.size w u1) := HB.out.trans (hu.mono HB.out.size); have z0 := HDN.out u1 HU.out; clear hu)
          | (go_at_call 21; refine Calls.mono (HFD.out _ HU.out) ?_; rintro e u2 ⟨rfl, hu⟩; rw [hu]; clear hu))
        go_ret
        exact ⟨ret_int HRES.out, HU.out⟩
    · obtain rfl : k = ms.length := by omega
      have HA1 : Hid (∀ j (hj : j < ms.length), s1B ms j hj = true) := fun j hj => HA.out j hj hj
      clear hb HA
      go_wp2
      go_loopw [4] (fun i wr => ∃ k : Nat, k ≤ ms.length ∧ i = .int .i64 k ∧ (∀ j, j < k → ceI ms 14 j = true) ∧ Below w.heap.size w wr) (fun i _ => ms.length - (intOf i).toNat)
      case atStart => exact ⟨0, Nat.zero_le _, rfl, fun j hj => absurd hj (Nat.not_lt_zero _), HB.out⟩
      case round =>
        obtain ⟨k, hk, rfl, hal, hb⟩ := hrel
        have HA : Hid (∀ j, j < k → ceI ms 14 j = true) := hal
        clear hal HB
        have HB : Hid (Below w.heap.size w wr) := hb
        by_cases hlt : k < ms.length
        · have HX : Hid (ceI ms 14 k = false → G = false) := fun h => HNO.out k hlt (.inr h)
          have HX2 : Hid (ceI ms 14 k = true → ∀ j, j < k + 1 → ceI ms 14 j = true) := fun h j hj => by
            rcases Nat.lt_succ_iff_lt_or_eq.1 hj with h2 | h2
            · exact HA.out j h2
            · subst h2; exact h
          obtain ⟨E, hE⟩ : ∃ E, ceI ms 14 k = E := ⟨_, rfl⟩
          have HE : Hid (ceI ms (14 - 0) k = E) := hE
          rw [hE] at HX HX2
          have hk0 : (0 : Int) ≤ (k : Int) := by omega
          have hk1 : (k : Int) < (ms.length : Int) := by omega
          clear hb hE
          go_wp2
          go_loopw [5, 6] (fun at1 nn wr => ∃ (c n : Nat), c < ms.length ∧ n ≤ 13 ∧ at1 = .int .i64 c ∧ nn = .int .i64 n ∧ ceI ms (14 - n) c = E ∧ Below w.heap.size w wr) (fun _ nn _ => 14 - (intOf nn).toNat)
          case atStart => exact ⟨k, 0, hlt, by omega, rfl, rfl, HE.out, HB.out⟩
          case round =>
            obtain ⟨c, n, hc, hn, rfl, rfl, he, hb⟩ := hrel
            have HB3 : Hid (Below w.heap.size w wr) := hb
            have hcq : c < gs.length := by rw [HLQ.out]; exact hc
            obtain ⟨g, o, cap2, hv, _, hg, hcc⟩ := HR.out.resolve_left (fun h => by rw [h.1] at hcq; simp at hcq)
            injection hv with hv1 hv2 hv3
            subst hv1 hv3
            obtain ⟨e0, e1, q, e2⟩ := HC.out.el c hcq hc
            obtain ⟨d0, d1, _⟩ := hcc.below hb hg c hcq
            rw [e1, ← bkO_at ms c hc] at d1
            obtain ⟨f, hf⟩ : ∃ f, 14 - n = f + 1 := ⟨13 - n, by omega⟩
            rw [hf] at he
            have hc0 : (0 : Int) ≤ (c : Int) := by omega
            have hc1 : (c : Int) < (ms.length : Int) := by omega
            have hn0 : (0 : Int) ≤ (n : Int) := by omega
            have hn1 : (n : Int) ≤ 13 := by omega
            clear hcc e0 e1 e2 hv2 d0 hb
            by_cases hz : (bkO ms c).size = 0
            · rw [ceI_empty hz] at he
              subst he
              have hbe := ba_empty hz
              rw [hbe] at d1
              have HXX : Hid _ := HX2.out (by trivial)
              clear hz hbe
              go_wp2
              exact ⟨⟨k + 1, hlt, by simp, HXX.out, HB3.out⟩, by simp [intOf]; omega⟩
            · obtain ⟨hie, hne⟩ := ba_ne hz
              have HFD : Hid _ := l13Find_any (HR.out.below HB3.out) (HC.out.below HB3.out) hl (bkO ms c)
              cases hq : fdN ms (bkO ms c) with
              | none =>
                rw [ceI_none hz hq] at he
                subst he
                have hg0 := HX.out (by trivial)
                subst hg0
                have hfi : fdI ms (bkO ms c) = -1 := by unfold fdI; rw [hq]
                rw [hfi] at HFD
                clear hq hfi hz
                go_wp2_with (go_at_call 21; refine Calls.mono HFD.out ?_; rintro e u2 ⟨rfl, hu⟩; rw [hu]; clear hu)
                go_ret
                exact ⟨ret_int HRES.out, HB3.out⟩
              | some j =>
                rw [ceI_some hz hq] at he
                have hfi : fdI ms (bkO ms c) = j := by unfold fdI; rw [hq]
                have hj := fdN_lt hq
                rw [hfi] at HFD
                have hj0 : ¬ (j : Int) < 0 := by omega
                clear hq hfi hz
                by_cases hn12 : 12 < n
                · obtain rfl : n = 13 := by omega
                  obtain rfl : f = 0 := by omega
                  have he2 : E = false := he.symm
                  subst he2
                  have hg0 := HX.out (by trivial)
                  subst hg0
                  go_wp2_with (go_at_call 21; refine Calls.mono HFD.out ?_; rintro e u2 ⟨rfl, hu⟩; rw [hu]; clear hu)
                  go_ret
                  exact ⟨ret_int HRES.out, HB3.out⟩
                · have hni : ¬ (12 : Int) < (n : Int) := by omega
                  have HE2 : Hid (ceI ms (14 - (n + 1)) j = E) := (show _ = _ by rw [show 14 - (n + 1) = f by omega]; exact he)
                  clear he
                  go_wp2_with (go_at_call 21; refine Calls.mono HFD.out ?_; rintro e u2 ⟨rfl, hu⟩; rw [hu]; clear hu)
                  exact ⟨⟨j, n + 1, hj, by omega, rfl, by simp, HE2.out, HB3.out⟩, by simp [intOf]; omega⟩
        · obtain rfl : k = ms.length := by omega
          have hg := HYS.out HA1.out HA.out
          subst hg
          go_wp2
          go_ret
          exact ⟨ret_int HRES.out, hb⟩
end Go.Proofs.Ytomfbiiegcmmlaa
