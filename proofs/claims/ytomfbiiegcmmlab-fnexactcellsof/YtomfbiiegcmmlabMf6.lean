import Derived.Test.YtomfbiiegcmmlabMf5
namespace Go.Proofs.Ytomfbiiegcmmlab
open Go.ChangeShapes Go.WideShapes Go.ChangeAt Go.RowKit

set_option maxRecDepth 100000
def m0B (h : MH) : Bool := mtB h.cs && (mtB h.ps && (decide (1 ≤ h.gs.length) && (decide (h.gs.length ≤ 8) && (decide (0 ≤ h.time) && decide (h.time ≤ 1099511627776)))))
def e1B (h : MH) (i : Nat) : Bool := decide ((h.cs.getD i ⟨#[]⟩).size = 0) || decide (¬ cntS h 1 (i : Int) = 0)
def e2B (h : MH) (i : Nat) : Bool := decide ((h.ps.getD i ⟨#[]⟩).size = 0) || decide (cntS h 2 (i : Int) = 1)
/-- A right host. -/
def mhB (h : MH) : Bool := m0B h && h.gs.all (guB h) && allB (e1B h) h.cs.length && allB (e2B h) h.ps.length
def mhI (h : MH) : Int := if mhB h then 0 else 1
theorem mhI_no {h : MH} (e : mhB h = false) : mhI h = 1 := by unfold mhI; rw [e]; rfl
theorem mhI_yes {h : MH} (e : mhB h = true) : mhI h = 0 := by unfold mhI; rw [e]; rfl
theorem mh_0 {h : MH} (e : m0B h = false) : mhB h = false := by unfold mhB; rw [e]; rfl
theorem mh_g {h : MH} {k : Nat} (hk : k < h.gs.length) (e : guB h h.gs[k] = false) : mhB h = false := by unfold mhB; rw [all_no hk e]; simp
theorem mh_1 {h : MH} {k : Nat} (hk : k < h.cs.length) (e : e1B h k = false) : mhB h = false := by unfold mhB; rw [allB_bad hk e]; simp
theorem mh_2 {h : MH} {k : Nat} (hk : k < h.ps.length) (e : e2B h k = false) : mhB h = false := by unfold mhB; rw [allB_bad hk e]; simp
theorem mh_y {h : MH} (e0 : m0B h = true) (e1 : ∀ k (hk : k < h.gs.length), guB h h.gs[k] = true) (e2 : ∀ k, k < h.cs.length → e1B h k = true) (e3 : ∀ k, k < h.ps.length → e2B h k = true) : mhB h = true := by unfold mhB; rw [e0, all_yes e1, allB_iff.2 e2, allB_iff.2 e3]; rfl
theorem e1_at {h : MH} {k : Nat} (hk : k < h.cs.length) : e1B h k = (decide (h.cs[k].size = 0) || decide (¬ cntS h 1 (k : Int) = 0)) := by unfold e1B; rw [List.getD_eq_getElem?_getD, List.getElem?_eq_getElem hk]; rfl
theorem e2_at {h : MH} {k : Nat} (hk : k < h.ps.length) : e2B h k = (decide (h.ps[k].size = 0) || decide (cntS h 2 (k : Int) = 1)) := by unfold e2B; rw [List.getD_eq_getElem?_getD, List.getElem?_eq_getElem hk]; rfl
theorem up_nat {p : Nat → Bool} {k : Nat} (ha : ∀ j, j < k → p j = true) (h : p k = true) : ∀ j, j < k + 1 → p j = true := fun j hj => by
  by_cases e : j = k
  · rw [e]
    exact h
  · exact ha j (by omega)
set_option maxHeartbeats 16000000 in
theorem specMH_any {w : World} {h : MH} {a : HA} (hr : HRows w h a) (hl : HLen h) (hE : (allS h).length ≤ 1048576) : Calls Try.prog 34 #[mhA a h.time] w fun e w' => e = .returned (.int .i64 (mhI h)) ∧ Below w.heap.size w w' := by
  have hr0 := hr
  obtain ⟨al, kl, el⟩ := hr.cs.sl
  obtain ⟨am, km, em⟩ := hr.ps.sl
  obtain ⟨ac, kc, ec⟩ := hr.mg.sl
  rw [hr.gi.len] at ec
  have HS1 : Hid (Srow w (.slice al h.cs.length kl) h.cs) := (show Srow w (.slice al h.cs.length kl) h.cs by rw [← el]; exact hr.cs)
  have HS2 : Hid (Srow w (.slice am h.ps.length km) h.ps) := (show Srow w (.slice am h.ps.length km) h.ps by rw [← em]; exact hr.ps)
  have HN : Hid (MGrow w (.slice ac h.gs.length kc) a.qs) := (show MGrow w (.slice ac h.gs.length kc) a.qs by rw [← ec]; exact hr.mg)
  have HI : Hid (MGin w a.qs h.gs) := hr.gi
  have HT1 : Hid (∀ (u : World) (_ : Below w.heap.size w u), Calls Try.prog 65 #[.slice al h.cs.length kl] u fun e w' => e = .returned (.bool (mtB h.cs)) ∧ w' = u) := fun u hb => l12Texts_any (HS1.out.below hb) hl.c
  have HT2 : Hid (∀ (u : World) (_ : Below w.heap.size w u), Calls Try.prog 65 #[.slice am h.ps.length km] u fun e w' => e = .returned (.bool (mtB h.ps)) ∧ w' = u) := fun u hb => l12Texts_any (HS2.out.below hb) hl.p
  have HCT : Hid (∀ (u : World) (_ : Below w.heap.size w u) (kd p : Int), Calls Try.prog 67 #[.agg #[.slice al h.cs.length kl, .slice am h.ps.length km, .slice ac h.gs.length kc, .int .i64 h.time], .int .i64 kd, .int .i64 p] u fun e w' => e = .returned (.int .i64 (cntS h kd p : Nat)) ∧ Below u.heap.size u w') := fun u hb kd p => (by
    have := l12Count_any (hr0.below hb) hl hE kd p
    unfold mhA at this
    rw [el, em, ec] at this
    exact this)
  have HGU : Hid (∀ (u : World) (_ : Below w.heap.size w u) (k : Nat) (hk : k < h.gs.length) (hkq : k < a.qs.length), Calls Try.prog 66 #[.agg #[.slice al h.cs.length kl, .slice am h.ps.length km, .slice ac h.gs.length kc, .int .i64 h.time], .agg #[a.qs[k].s, .string a.qs[k].d, a.qs[k].h]] u fun e w' => e = .returned (.bool (guB h h.gs[k])) ∧ Below u.heap.size u w') := fun u hb k hk hkq => (by
    have := l12Guest_any (hr0.below hb) hl hE (HI.out.below hb |>.el k hkq hk) (hl.s k hk) (hl.u k hk)
    unfold mhA mgA at this
    rw [el, em, ec] at this
    exact this)
  have HX0 : Hid (HX w (w.alloc (.cells #[.slice al h.cs.length kl, .slice am h.ps.length km, .slice ac h.gs.length kc, .int .i64 h.time] 30)) h a) := (show HX w (w.alloc (.cells #[.slice al h.cs.length kl, .slice am h.ps.length km, .slice ac h.gs.length kc, .int .i64 h.time] 30)) h a by have hn := HX.new hr; rw [el, em, ec] at hn; exact hn)
  have HCE : Hid (∀ u, HX w u h a → u.cell? ⟨w.heap.size, 0, none⟩ = some (.slice al h.cs.length kl) ∧ u.cell? ⟨w.heap.size, 1, none⟩ = some (.slice am h.ps.length km) ∧ u.cell? ⟨w.heap.size, 2, none⟩ = some (.slice ac h.gs.length kc) ∧ u.cell? ⟨w.heap.size, 3, none⟩ = some (.int .i64 h.time) ∧ w.heap.size < u.heap.size) := fun u x => (by
    obtain ⟨c0, c1, c2, c3⟩ := x.cel
    rw [el] at c0
    rw [em] at c1
    rw [ec] at c2
    exact ⟨c0, c1, c2, c3, x.lt⟩)
  have HLC : h.cs.length ≤ 1048576 := hl.c
  have HLP : h.ps.length ≤ 1048576 := hl.p
  have HLG : h.gs.length ≤ 1048576 := hl.g
  unfold mhA
  rw [el, em, ec]
  clear el em ec hr hr0 hl hE
  obtain ⟨c0, c1, c2, c3, l1⟩ := HCE.out _ HX0.out
  have HB0 : Hid _ := HX0.out.bel
  cases h0 : m0B h
  · rw [mhI_no (mh_0 h0)]
    unfold m0B at h0
    clear HS1 HS2 HN HI HCT HGU HCE
    cases t1 : mtB h.cs
    · rw [t1] at HT1
      clear h0
      go_enter Try.func34, Try.ntmps34
      go_wp2_with fail
      refine Calls.mono (HT1.out _ HX0.out.bel) ?_
      rintro e u1 ⟨rfl, hu⟩
      rw [hu]
      clear hu
      go_wp2_with fail
      go_ret
      exact ⟨rfl, HB0.out⟩
    rw [t1, Bool.true_and] at h0
    rw [t1] at HT1
    cases t2 : mtB h.ps
    · rw [t2] at HT2
      clear h0
      go_enter Try.func34, Try.ntmps34
      go_wp2_with fail
      refine Calls.mono (HT1.out _ HX0.out.bel) ?_
      rintro e u1 ⟨rfl, hu⟩
      rw [hu]
      clear hu
      go_wp2_with fail
      refine Calls.mono (HT2.out _ HX0.out.bel) ?_
      rintro e u2 ⟨rfl, hu⟩
      rw [hu]
      clear hu
      go_wp2_with fail
      go_ret
      exact ⟨rfl, HB0.out⟩
    rw [t2, Bool.true_and] at h0
    rw [t2] at HT2
    by_cases t3 : (h.gs.length : Int) < 1
    · clear h0
      go_enter Try.func34, Try.ntmps34
      go_wp2_with fail
      refine Calls.mono (HT1.out _ HX0.out.bel) ?_
      rintro e u1 ⟨rfl, hu⟩
      rw [hu]
      clear hu
      go_wp2_with fail
      refine Calls.mono (HT2.out _ HX0.out.bel) ?_
      rintro e u2 ⟨rfl, hu⟩
      rw [hu]
      clear hu
      go_wp2_with fail
      go_ret
      exact ⟨rfl, HB0.out⟩
    rw [decide_eq_true (show 1 ≤ h.gs.length by omega), Bool.true_and] at h0
    by_cases t4 : (8 : Int) < (h.gs.length : Int)
    · clear h0
      go_enter Try.func34, Try.ntmps34
      go_wp2_with fail
      refine Calls.mono (HT1.out _ HX0.out.bel) ?_
      rintro e u1 ⟨rfl, hu⟩
      rw [hu]
      clear hu
      go_wp2_with fail
      refine Calls.mono (HT2.out _ HX0.out.bel) ?_
      rintro e u2 ⟨rfl, hu⟩
      rw [hu]
      clear hu
      go_wp2_with fail
      go_ret
      exact ⟨rfl, HB0.out⟩
    rw [decide_eq_true (show h.gs.length ≤ 8 by omega), Bool.true_and] at h0
    by_cases t5 : h.time < 0
    · clear h0
      go_enter Try.func34, Try.ntmps34
      go_wp2_with fail
      refine Calls.mono (HT1.out _ HX0.out.bel) ?_
      rintro e u1 ⟨rfl, hu⟩
      rw [hu]
      clear hu
      go_wp2_with fail
      refine Calls.mono (HT2.out _ HX0.out.bel) ?_
      rintro e u2 ⟨rfl, hu⟩
      rw [hu]
      clear hu
      go_wp2_with fail
      go_ret
      exact ⟨rfl, HB0.out⟩
    rw [decide_eq_true (show 0 ≤ h.time by omega), Bool.true_and] at h0
    have t6 : 1099511627776 < h.time := by
      have := of_decide_eq_false h0
      omega
    clear h0
    go_enter Try.func34, Try.ntmps34
    go_wp2_with fail
    refine Calls.mono (HT1.out _ HX0.out.bel) ?_
    rintro e u1 ⟨rfl, hu⟩
    rw [hu]
    clear hu
    go_wp2_with fail
    refine Calls.mono (HT2.out _ HX0.out.bel) ?_
    rintro e u2 ⟨rfl, hu⟩
    rw [hu]
    clear hu
    go_wp2_with fail
    go_ret
    exact ⟨rfl, HB0.out⟩
  · have HM0 : Hid (m0B h = true) := h0
    unfold m0B at h0
    simp only [Bool.and_eq_true, decide_eq_true_eq] at h0
    obtain ⟨t1, t2, t3, t4, t5, t6⟩ := h0
    rw [t1] at HT1
    rw [t2] at HT2
    have t3i : ¬ (h.gs.length : Int) < 1 := by omega
    have t4i : ¬ (8 : Int) < (h.gs.length : Int) := by omega
    have t5i : ¬ h.time < 0 := by omega
    have t6i : ¬ 1099511627776 < h.time := by omega
    have HNG : Hid (∀ k (hk : k < h.gs.length), guB h h.gs[k] = false → mhI h = 1) := fun k hk e => mhI_no (mh_g hk e)
    have HN1 : Hid (∀ k (hk : k < h.cs.length), e1B h k = false → mhI h = 1) := fun k hk e => mhI_no (mh_1 hk e)
    have HN2 : Hid (∀ k (hk : k < h.ps.length), e2B h k = false → mhI h = 1) := fun k hk e => mhI_no (mh_2 hk e)
    have HYE : Hid ((∀ k (hk : k < h.gs.length), guB h h.gs[k] = true) → (∀ k, k < h.cs.length → e1B h k = true) → (∀ k, k < h.ps.length → e2B h k = true) → mhI h = 0) := fun e1 e2 e3 => mhI_yes (mh_y HM0.out e1 e2 e3)
    obtain ⟨G, hG⟩ : ∃ G, mhI h = G := ⟨_, rfl⟩
    rw [hG] at HNG HN1 HN2 HYE ⊢
    clear hG t1 t2 t3 t4 t5 t6
    go_enter Try.func34, Try.ntmps34
    go_wp2_with fail
    refine Calls.mono (HT1.out _ HX0.out.bel) ?_
    rintro e u1 ⟨rfl, hu⟩
    rw [hu]
    clear hu
    go_wp2_with fail
    refine Calls.mono (HT2.out _ HX0.out.bel) ?_
    rintro e u2 ⟨rfl, hu⟩
    rw [hu]
    clear hu
    go_wp2_with fail
    clear c0 c1 c2 c3 l1 HB0 HT1 HT2 t3i t4i t5i t6i
    generalize (w.alloc (.cells #[.slice al h.cs.length kl, .slice am h.ps.length km, .slice ac h.gs.length kc, .int .i64 h.time] 30)) = V at *
    go_loopw [3] (fun i wr => ∃ k : Nat, k ≤ h.gs.length ∧ i = .int .i64 k ∧ (∀ j (hj : j < h.gs.length), j < k → guB h h.gs[j] = true) ∧ HX w wr h a) (fun i _ => h.gs.length - (intOf i).toNat)
    case atStart => exact ⟨0, Nat.zero_le _, rfl, fun j _ h => absurd h (Nat.not_lt_zero _), HX0.out⟩
    case round =>
      obtain ⟨k, hk, rfl, hal, hx⟩ := hrel
      have HA : Hid (∀ j (hj : j < h.gs.length), j < k → guB h h.gs[j] = true) := hal
      have HX1 : Hid _ := hx
      obtain ⟨c0, c1, c2, c3, l1⟩ := HCE.out _ hx
      clear hal HX0
      by_cases hlt : k < h.gs.length
      · have hkq : k < a.qs.length := by rw [HI.out.len]; exact hlt
        obtain ⟨g1, o1, cap1, hv, _, hg1, hc1⟩ := HN.out.resolve_left (fun h => by rw [h.1] at hkq; simp at hkq)
        injection hv with hv1 hv2 hv3
        subst hv1 hv3
        obtain ⟨d0, d1, d2⟩ := hc1.below hx.bel hg1 k hkq
        obtain ⟨q0, q2, q3⟩ := HI.out.el k hkq hlt
        obtain ⟨az, ks, es⟩ := q2.sl
        obtain ⟨ah, kh, eh⟩ := q3.sl
        have HBD : Hid _ := HNG.out k hlt
        have HGO : Hid (guB h h.gs[k] = true → ∀ j (hj : j < h.gs.length), j < k + 1 → guB h h.gs[j] = true) := fun e => all_up hlt HA.out e
        have HG1 : Hid _ := fun u hb => HGU.out u hb k hlt hkq
        rw [es] at d0 HG1
        rw [eh] at d2 HG1
        have hk0 : (0 : Int) ≤ (k : Int) := by omega
        have hk1 : (k : Int) < (h.gs.length : Int) := by omega
        have hg1w : g1 < wr.heap.size := Nat.lt_of_lt_of_le hg1 hx.bel.size
        have HDR : Hid (Below w.heap.size w wr.drew) := hx.bel.drew
        generalize a.qs[k].d = qd at *
        generalize h.gs[k].ss.length = n1 at *
        generalize h.gs[k].hs.length = n2 at *
        generalize guB h h.gs[k] = gr at *
        clear hc1 hv2 hx HA HGU HNG HYE es eh q0 q2 q3 HN1 HN2 HCT
        cases gr
        · have HQ : Hid (G = 1) := HBD.out rfl
          clear HGO HBD
          go_wp2
          go_region_held3 (fun w' => w'.cell? ⟨w.heap.size, 0, none⟩ = some (.slice al h.cs.length kl) ∧ w'.cell? ⟨w.heap.size, 1, none⟩ = some (.slice am h.ps.length km) ∧ w'.cell? ⟨w.heap.size, 2, none⟩ = some (.slice (some ⟨g1, o1, none⟩) h.gs.length kc) ∧ w'.cell? ⟨w.heap.size, 3, none⟩ = some (.int .i64 h.time) ∧ w'.cell? ⟨g1, o1 + k * 3, none⟩ = some (.slice az n1 ks) ∧ w'.cell? ⟨g1, o1 + k * 3 + 1, none⟩ = some (.string qd) ∧ w'.cell? ⟨g1, o1 + k * 3 + 2, none⟩ = some (.slice ah n2 kh)) (go_keep) ((go_at_call 66; refine Calls.mono (HG1.out wr.drew HDR.out) ?_; rintro e u5 ⟨rfl, hu5⟩; have hb5 : Below wr.heap.size wr u5 := ⟨hu5.os, hu5.tape, hu5.output, hu5.size, hu5.block⟩; have HX5 : Hid (HX w u5 h a) := HX1.out.step hb5; obtain ⟨f0, f1, f2, f3, f7⟩ := HCE.out _ HX5.out; have f4 := (World.cell?_of_block (hb5.block g1 hg1w)).trans d0; have f5 := (World.cell?_of_block (hb5.block g1 hg1w)).trans d1; have f6 := (World.cell?_of_block (hb5.block g1 hg1w)).trans d2; clear hu5 hb5))
          all_goals go_wp2
          all_goals go_ret
          all_goals exact ⟨ret_int HQ.out.symm, HX5.out.bel⟩
        · have HQ : Hid _ := HGO.out rfl
          clear HGO HBD
          go_wp2
          go_region_held3 (fun w' => w'.cell? ⟨w.heap.size, 0, none⟩ = some (.slice al h.cs.length kl) ∧ w'.cell? ⟨w.heap.size, 1, none⟩ = some (.slice am h.ps.length km) ∧ w'.cell? ⟨w.heap.size, 2, none⟩ = some (.slice (some ⟨g1, o1, none⟩) h.gs.length kc) ∧ w'.cell? ⟨w.heap.size, 3, none⟩ = some (.int .i64 h.time) ∧ w'.cell? ⟨g1, o1 + k * 3, none⟩ = some (.slice az n1 ks) ∧ w'.cell? ⟨g1, o1 + k * 3 + 1, none⟩ = some (.string qd) ∧ w'.cell? ⟨g1, o1 + k * 3 + 2, none⟩ = some (.slice ah n2 kh)) (go_keep) ((go_at_call 66; refine Calls.mono (HG1.out wr.drew HDR.out) ?_; rintro e u5 ⟨rfl, hu5⟩; have hb5 : Below wr.heap.size wr u5 := ⟨hu5.os, hu5.tape, hu5.output, hu5.size, hu5.block⟩; have HX5 : Hid (HX w u5 h a) := HX1.out.step hb5; obtain ⟨f0, f1, f2, f3, f7⟩ := HCE.out _ HX5.out; have f4 := (World.cell?_of_block (hb5.block g1 hg1w)).trans d0; have f5 := (World.cell?_of_block (hb5.block g1 hg1w)).trans d1; have f6 := (World.cell?_of_block (hb5.block g1 hg1w)).trans d2; clear hu5 hb5))
          all_goals go_wp2
          all_goals go_roundw
          case rel => exact ⟨k + 1, hlt, by go_num, HQ.out, HX5.out⟩
          case measure => simp [intOf]; omega
      · obtain rfl : k = h.gs.length := by omega
        have HYE1 : Hid _ := HYE.out (fun k hk => HA.out k hk hk)
        clear hx HA HNG HGU HYE HN HI
        go_wp2
        go_loopw [4] (fun i wr => ∃ k : Nat, k ≤ h.cs.length ∧ i = .int .i64 k ∧ (∀ j, j < k → e1B h j = true) ∧ HX w wr h a) (fun i _ => h.cs.length - (intOf i).toNat)
        case atStart => exact ⟨0, Nat.zero_le _, rfl, fun j h => absurd h (Nat.not_lt_zero _), HX1.out⟩
        case round =>
          clear c0 c1 c2 c3 l1 HX1
          obtain ⟨k, hk, rfl, hal, hx⟩ := hrel
          have HA : Hid (∀ j, j < k → e1B h j = true) := hal
          have HX1 : Hid _ := hx
          obtain ⟨c0, c1, c2, c3, l1⟩ := HCE.out _ hx
          clear hal
          by_cases hlt : k < h.cs.length
          · obtain ⟨g1, o1, cap1, hv, _, hg1, hc1⟩ := HS1.out.resolve_left (fun h => by rw [h.1] at hlt; simp at hlt)
            injection hv with hv1 hv2 hv3
            subst hv1 hv3
            have d0 := hc1.below hx.bel hg1 k hlt
            have hek := e1_at hlt
            have HBD : Hid _ := HN1.out k hlt
            have HGO : Hid (e1B h k = true → ∀ j, j < k + 1 → e1B h j = true) := fun e => up_nat HA.out e
            have HC1 : Hid _ := fun u hb => HCT.out u hb 1 (k : Int)
            have hk0 : (0 : Int) ≤ (k : Int) := by omega
            have hk1 : (k : Int) < (h.cs.length : Int) := by omega
            generalize h.cs[k] = y at *
            clear hc1 hv2 hx HA HYE1 HN2 HCT HS2
            generalize e1B h k = ev at *
            generalize cntS h 1 (k : Int) = c at *
            by_cases y0 : y.size = 0
            · have HQ : Hid _ := HGO.out (by rw [hek, decide_eq_true y0]; rfl)
              have ye := ba_empty y0
              clear y0 HGO HBD hek
              subst ye
              go_wp2
              exact ⟨⟨k + 1, hlt, by simp, HQ.out, HX1.out⟩, by simp [intOf]; omega⟩
            · obtain ⟨yi, yn⟩ := ba_ne y0
              by_cases cc : c = 0
              · have HQ : Hid (G = 1) := HBD.out (by rw [hek, decide_eq_false y0, decide_eq_false (fun h => h cc)]; rfl)
                have ci : ((c : Nat) : Int) = 0 := by omega
                clear y0 HGO HBD hek cc
                go_wp2_with (go_at_call 67; refine Calls.mono (HC1.out _ HX1.out.bel) ?_; rintro e u1 ⟨rfl, hu⟩; have HX2 : Hid (HX w u1 h a) := HX1.out.step hu; clear hu)
                go_ret
                exact ⟨ret_int HQ.out.symm, HX2.out.bel⟩
              · have HQ : Hid _ := HGO.out (by rw [hek, decide_eq_true cc, Bool.or_true])
                have ci : ¬ ((c : Nat) : Int) = 0 := by omega
                clear y0 HGO HBD hek cc
                go_wp2_with (go_at_call 67; refine Calls.mono (HC1.out _ HX1.out.bel) ?_; rintro e u1 ⟨rfl, hu⟩; have HX2 : Hid (HX w u1 h a) := HX1.out.step hu; clear hu)
                exact ⟨⟨k + 1, hlt, by simp, HQ.out, HX2.out⟩, by simp [intOf]; omega⟩
          · obtain rfl : k = h.cs.length := by omega
            have HYE2 : Hid _ := HYE1.out (fun k hk => HA.out k hk)
            clear hx HA HN1 HYE1 HS1
            go_wp2
            go_loopw [5] (fun i wr => ∃ k : Nat, k ≤ h.ps.length ∧ i = .int .i64 k ∧ (∀ j, j < k → e2B h j = true) ∧ HX w wr h a) (fun i _ => h.ps.length - (intOf i).toNat)
            case atStart => exact ⟨0, Nat.zero_le _, rfl, fun j h => absurd h (Nat.not_lt_zero _), HX1.out⟩
            case round =>
              clear c0 c1 c2 c3 l1 HX1
              obtain ⟨k, hk, rfl, hal, hx⟩ := hrel
              have HA : Hid (∀ j, j < k → e2B h j = true) := hal
              have HX1 : Hid _ := hx
              obtain ⟨c0, c1, c2, c3, l1⟩ := HCE.out _ hx
              clear hal
              by_cases hlt : k < h.ps.length
              · obtain ⟨g1, o1, cap1, hv, _, hg1, hc1⟩ := HS2.out.resolve_left (fun h => by rw [h.1] at hlt; simp at hlt)
                injection hv with hv1 hv2 hv3
                subst hv1 hv3
                have d0 := hc1.below hx.bel hg1 k hlt
                have hek := e2_at hlt
                have HBD : Hid _ := HN2.out k hlt
                have HGO : Hid (e2B h k = true → ∀ j, j < k + 1 → e2B h j = true) := fun e => up_nat HA.out e
                have HC1 : Hid _ := fun u hb => HCT.out u hb 2 (k : Int)
                have hk0 : (0 : Int) ≤ (k : Int) := by omega
                have hk1 : (k : Int) < (h.ps.length : Int) := by omega
                generalize h.ps[k] = y at *
                clear hc1 hv2 hx HA HYE2 HCT
                generalize e2B h k = ev at *
                generalize cntS h 2 (k : Int) = c at *
                by_cases y0 : y.size = 0
                · have HQ : Hid _ := HGO.out (by rw [hek, decide_eq_true y0]; rfl)
                  have ye := ba_empty y0
                  clear y0 HGO HBD hek
                  subst ye
                  go_wp2
                  exact ⟨⟨k + 1, hlt, by simp, HQ.out, HX1.out⟩, by simp [intOf]; omega⟩
                · obtain ⟨yi, yn⟩ := ba_ne y0
                  by_cases cc : c = 1
                  · have HQ : Hid _ := HGO.out (by rw [hek, decide_eq_true cc, Bool.or_true])
                    have ci : ((c : Nat) : Int) = 1 := by omega
                    clear y0 HGO HBD hek cc
                    go_wp2_with (go_at_call 67; refine Calls.mono (HC1.out _ HX1.out.bel) ?_; rintro e u1 ⟨rfl, hu⟩; have HX2 : Hid (HX w u1 h a) := HX1.out.step hu; clear hu)
                    exact ⟨⟨k + 1, hlt, by simp, HQ.out, HX2.out⟩, by simp [intOf]; omega⟩
                  · have HQ : Hid (G = 1) := HBD.out (by rw [hek, decide_eq_false y0, decide_eq_false cc]; rfl)
                    have ci : ¬ ((c : Nat) : Int) = 1 := by omega
                    clear y0 HGO HBD hek cc
                    go_wp2_with (go_at_call 67; refine Calls.mono (HC1.out _ HX1.out.bel) ?_; rintro e u1 ⟨rfl, hu⟩; have HX2 : Hid (HX w u1 h a) := HX1.out.step hu; clear hu)
                    go_ret
                    exact ⟨ret_int HQ.out.symm, HX2.out.bel⟩
              · obtain rfl : k = h.ps.length := by omega
                have hg := HYE2.out (fun k hk => HA.out k hk)
                clear hx
                go_wp2
                go_ret
                exact ⟨ret_int hg.symm, HX1.out.bel⟩
end Go.Proofs.Ytomfbiiegcmmlab
