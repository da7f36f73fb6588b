import Derived.Test.YtomfbiiegcmmlabMf4
import Derived.Test.YtomfbiiegcmmlabMr1
import Derived.Test.YtomfbiiegcmmlabNextBit
import Derived.Deep.RegionHeld3
namespace Go.Proofs.Ytomfbiiegcmmlab
open Go.ChangeShapes Go.WideShapes Go.ChangeAt Go.RowKit

set_option maxRecDepth 100000
def slB (h : MH) (x : SL) : Bool := ldB h x && decide (0 ≤ x.used) && decide (x.used ≤ h.time)
/-- What the first row of a guest's test asks. -/
def g0B (g : GS) : Bool := decide (g.ss.length ≤ 32) && decide (g.d.size ≤ 4) && risB g.hs && decide (nxt g.d g.ss.length true < 0)
def guB (h : MH) (g : GS) : Bool := g0B g && g.ss.all (slB h) && g.hs.all (grB h g.ss)
theorem guB_0 {h : MH} {g : GS} (e : g0B g = false) : guB h g = false := by unfold guB; rw [e]; rfl
theorem guB_s {h : MH} {g : GS} {k : Nat} (hk : k < g.ss.length) (e : slB h g.ss[k] = false) : guB h g = false := by unfold guB; rw [all_no hk e]; simp
theorem guB_h {h : MH} {g : GS} {k : Nat} (hk : k < g.hs.length) (e : grB h g.ss g.hs[k] = false) : guB h g = false := by unfold guB; rw [all_no hk e]; simp
theorem guB_y {h : MH} {g : GS} (e0 : g0B g = true) (e1 : ∀ k (hk : k < g.ss.length), slB h g.ss[k] = true) (e2 : ∀ k (hk : k < g.hs.length), grB h g.ss g.hs[k] = true) : guB h g = true := by unfold guB; rw [e0, all_yes e1, all_yes e2]; rfl
theorem slB_ld {h : MH} {x : SL} (e : slB h x = true) : ldB h x = true := by
  unfold slB at e
  simp only [Bool.and_eq_true] at e
  exact e.1.1
set_option maxHeartbeats 4000000 in
theorem l12Guest_any {w : World} {h : MH} {a : HA} {g : GS} {q : MG} (hr : HRows w h a) (hl : HLen h) (hE : (allS h).length ≤ 1048576) (hq : q.d = g.d ∧ SLrow w q.s g.ss ∧ Irow w q.h g.hs) (hgs : g.ss.length ≤ 1048576) (hgh : g.hs.length ≤ 1048576) : Calls Try.prog 66 #[mhA a h.time, mgA q] w fun e w' => e = .returned (.bool (guB h g)) ∧ Below w.heap.size w w' := by
  have hr0 := hr
  have hq0 := hq
  obtain ⟨al, kl, el⟩ := hr.cs.sl
  obtain ⟨am, km, em⟩ := hr.ps.sl
  obtain ⟨ac, kc, ec⟩ := hr.mg.sl
  rw [hr.gi.len] at ec
  obtain ⟨qd, qs, qh⟩ := hq
  obtain ⟨az, ks, es⟩ := qs.sl
  obtain ⟨ah, kh, eh⟩ := qh.sl
  have HS : Hid (SLrow w (.slice az g.ss.length ks) g.ss) := (show SLrow w (.slice az g.ss.length ks) g.ss by rw [← es]; exact qs)
  have HH : Hid (Irow w (.slice ah g.hs.length kh) g.hs) := (show Irow w (.slice ah g.hs.length kh) g.hs by rw [← eh]; exact qh)
  have HRI : Hid (∀ (u : World) (_ : Below w.heap.size w u), Calls Try.prog 94 #[.slice ah g.hs.length kh] u fun e w' => e = .returned (.bool (risB g.hs)) ∧ Below u.heap.size u w') := fun u hb => l08Rising_any (HH.out.below hb) hgh
  have HNB : Hid (∀ (u : World), Calls Try.prog 95 #[.string g.d, .int .i64 g.ss.length, .bool true] u fun e w' => e = .returned (.int .i64 (nxt g.d g.ss.length true)) ∧ w' = u) := fun u => specNextBit_any g.d g.ss.length true u (by omega)
  have HLD : Hid (∀ (u : World) (_ : Below w.heap.size w u) (x : SL), Calls Try.prog 96 #[.agg #[.slice al h.cs.length kl, .slice am h.ps.length km, .slice ac h.gs.length kc, .int .i64 h.time], .agg #[.int .i64 x.kind, .int .i64 x.pos, .int .i64 x.used]] u fun e w' => e = .returned (.bool (ldB h x)) ∧ Below u.heap.size u w') := fun u hb x => (by
    have := l12Leads_any (hr0.below hb) x
    unfold mhA slA at this
    rw [el, em, ec] at this
    exact this)
  have HGR : Hid (g.ss.length ≤ 32 → (∀ k (hk : k < g.ss.length), slB h g.ss[k] = true) → ∀ (u : World) (_ : Below w.heap.size w u) (n : Int), Calls Try.prog 97 #[.agg #[.slice al h.cs.length kl, .slice am h.ps.length km, .slice ac h.gs.length kc, .int .i64 h.time], .agg #[.slice az g.ss.length ks, .string g.d, .slice ah g.hs.length kh], .int .i64 n] u fun e w' => e = .returned (.bool (grB h g.ss n)) ∧ Below u.heap.size u w') := fun h32 hs u hb n => (by
    have := l12Group_any (hr0.below hb) hl hE ⟨hq0.1, hq0.2.1.below hb, hq0.2.2.below hb⟩ h32 (fun k hk => slB_ld (hs k hk)) n
    unfold mhA mgA at this
    rw [el, em, ec, es, eh, qd] at this
    exact this)
  have HX0 : Hid (GX w ((w.alloc (.cells #[.slice al h.cs.length kl, .slice am h.ps.length km, .slice ac h.gs.length kc, .int .i64 h.time] 30)).alloc (.cells #[.slice az g.ss.length ks, .string g.d, .slice ah g.hs.length kh] 67)) h a q) := (show GX w ((w.alloc (.cells #[.slice al h.cs.length kl, .slice am h.ps.length km, .slice ac h.gs.length kc, .int .i64 h.time] 30)).alloc (.cells #[.slice az g.ss.length ks, .string g.d, .slice ah g.hs.length kh] 67)) h a q by have hn := GX.new q hr; rw [el, em, ec, es, eh, qd] at hn; exact hn)
  have HCE : Hid (∀ u, GX w u h a q → u.cell? ⟨w.heap.size, 0, none⟩ = some (.slice al h.cs.length kl) ∧ u.cell? ⟨w.heap.size, 1, none⟩ = some (.slice am h.ps.length km) ∧ u.cell? ⟨w.heap.size, 2, none⟩ = some (.slice ac h.gs.length kc) ∧ u.cell? ⟨w.heap.size, 3, none⟩ = some (.int .i64 h.time) ∧ u.cell? ⟨w.heap.size + 1, 0, none⟩ = some (.slice az g.ss.length ks) ∧ u.cell? ⟨w.heap.size + 1, 1, none⟩ = some (.string g.d) ∧ u.cell? ⟨w.heap.size + 1, 2, none⟩ = some (.slice ah g.hs.length kh) ∧ w.heap.size < u.heap.size ∧ w.heap.size + 1 < u.heap.size) := fun u x => (by
    obtain ⟨c0, c1, c2, c3⟩ := x.hx.cel
    rw [el] at c0
    rw [em] at c1
    rw [ec] at c2
    have hg := x.gb
    rw [es, eh, qd] at hg
    exact ⟨c0, c1, c2, c3, (cel3 hg).1, (cel3 hg).2.1, (cel3 hg).2.2.1, x.hx.lt, x.lt⟩)
  unfold mhA mgA
  rw [el, em, ec, es, eh, qd]
  clear el em ec es eh qd qs qh hr hl hE hr0 hq0
  obtain ⟨c0, c1, c2, c3, s0, s1, s2, l1, l2⟩ := HCE.out _ HX0.out
  have HB0 : Hid _ := HX0.out.hx.bel
  cases h0 : g0B g
  · rw [guB_0 h0]
    unfold g0B at h0
    clear HS HH HLD HGR
    by_cases t1 : 32 < g.ss.length
    · have t1i : (32 : Int) < (g.ss.length : Int) := by omega
      clear h0
      go_enter Try.func66, Try.ntmps66
      go_wp2
      go_ret
      exact ⟨rfl, HB0.out⟩
    have t1i : ¬ (32 : Int) < (g.ss.length : Int) := by omega
    rw [decide_eq_true (show g.ss.length ≤ 32 by omega), Bool.true_and] at h0
    by_cases t2 : 4 < g.d.size
    · have t2i : (4 : Int) < (g.d.size : Int) := by omega
      clear h0
      go_enter Try.func66, Try.ntmps66
      go_wp2
      go_ret
      exact ⟨rfl, HB0.out⟩
    have t2i : ¬ (4 : Int) < (g.d.size : Int) := by omega
    rw [decide_eq_true (show g.d.size ≤ 4 by omega), Bool.true_and] at h0
    cases t3 : risB g.hs
    · rw [t3] at HRI
      clear h0
      go_enter Try.func66, Try.ntmps66
      go_wp2_with (first | (go_at_call 94; refine Calls.mono (HRI.out _ HX0.out.hx.bel) ?_; rintro e u1 ⟨rfl, hu⟩; have HX2 : Hid (GX w u1 h a q) := HX0.out.step hu; obtain ⟨c0, c1, c2, c3, s0, s1, s2, l1, l2⟩ := HCE.out _ HX2.out; clear hu) | (go_at_call 95; refine Calls.mono (HNB.out _) ?_; rintro e u2 ⟨rfl, hu⟩; rw [hu]; clear hu))
      go_ret
      exact ⟨rfl, HX2.out.hx.bel⟩
    · rw [t3, Bool.true_and] at h0
      rw [t3] at HRI
      have t4 : ¬ nxt g.d g.ss.length true < 0 := of_decide_eq_false h0
      have t4i : 0 ≤ nxt g.d g.ss.length true := by omega
      clear h0
      generalize nxt g.d g.ss.length true = nx at *
      go_enter Try.func66, Try.ntmps66
      go_wp2_with (first | (go_at_call 94; refine Calls.mono (HRI.out _ HX0.out.hx.bel) ?_; rintro e u1 ⟨rfl, hu⟩; have HX2 : Hid (GX w u1 h a q) := HX0.out.step hu; obtain ⟨c0, c1, c2, c3, s0, s1, s2, l1, l2⟩ := HCE.out _ HX2.out; clear hu) | (go_at_call 95; refine Calls.mono (HNB.out _) ?_; rintro e u2 ⟨rfl, hu⟩; rw [hu]; clear hu))
      go_ret
      exact ⟨rfl, HX2.out.hx.bel⟩
  · have HG0 : Hid (g0B g = true) := h0
    unfold g0B at h0
    simp only [Bool.and_eq_true, decide_eq_true_eq] at h0
    obtain ⟨⟨⟨t1, t2⟩, t3⟩, t4⟩ := h0
    have t1i : ¬ (32 : Int) < (g.ss.length : Int) := by omega
    have t2i : ¬ (4 : Int) < (g.d.size : Int) := by omega
    have t4i : ¬ 0 ≤ nxt g.d g.ss.length true := by omega
    have HGR2 : Hid _ := HGR.out t1
    rw [t3] at HRI
    have HNS : Hid (∀ k (hk : k < g.ss.length), slB h g.ss[k] = false → guB h g = false) := fun k hk e => guB_s hk e
    have HNH : Hid (∀ k (hk : k < g.hs.length), grB h g.ss g.hs[k] = false → guB h g = false) := fun k hk e => guB_h hk e
    have HYE : Hid ((∀ k (hk : k < g.ss.length), slB h g.ss[k] = true) → (∀ k (hk : k < g.hs.length), grB h g.ss g.hs[k] = true) → guB h g = true) := fun e1 e2 => guB_y HG0.out e1 e2
    obtain ⟨G, hG⟩ : ∃ G, guB h g = G := ⟨_, rfl⟩
    rw [hG] at HNS HNH HYE ⊢
    clear hG HGR t1 t2 t3 t4
    generalize nxt g.d g.ss.length true = nx at *
    go_enter Try.func66, Try.ntmps66
    go_wp2_with (first | (go_at_call 94; refine Calls.mono (HRI.out _ HX0.out.hx.bel) ?_; rintro e u1 ⟨rfl, hu⟩; have HX2 : Hid (GX w u1 h a q) := HX0.out.step hu; obtain ⟨c0, c1, c2, c3, s0, s1, s2, l1, l2⟩ := HCE.out _ HX2.out; clear hu) | (go_at_call 95; refine Calls.mono (HNB.out _) ?_; rintro e u2 ⟨rfl, hu⟩; rw [hu]; clear hu))
    clear c0 c1 c2 c3 s0 s1 s2 l1 l2 HX0 HB0 HRI HNB t4i t2i
    go_loopw [5] (fun i wr => ∃ k : Nat, k ≤ g.ss.length ∧ i = .int .i64 k ∧ (∀ j (hj : j < g.ss.length), j < k → slB h g.ss[j] = true) ∧ GX w wr h a q) (fun i _ => g.ss.length - (intOf i).toNat)
    case atStart => exact ⟨0, Nat.zero_le _, rfl, fun j _ h => absurd h (Nat.not_lt_zero _), HX2.out⟩
    case round =>
      obtain ⟨k, hk, rfl, hal, hx⟩ := hrel
      have HA : Hid (∀ j (hj : j < g.ss.length), j < k → slB h g.ss[j] = true) := hal
      have HX1 : Hid _ := hx
      obtain ⟨c0, c1, c2, c3, s0, s1, s2, l1, l2⟩ := HCE.out _ hx
      clear hal HX2
      by_cases hlt : k < g.ss.length
      · obtain ⟨g1, o1, cap1, hv, _, hg1, hc1⟩ := HS.out.resolve_left (fun h => by rw [h.1] at hlt; simp at hlt)
        injection hv with hv1 hv2 hv3
        subst hv1 hv3
        obtain ⟨d0, d1, d2⟩ := hc1.below hx.hx.bel hg1 k hlt
        have HBD : Hid _ := HNS.out k hlt
        have HGO : Hid (slB h g.ss[k] = true → ∀ j (hj : j < g.ss.length), j < k + 1 → slB h g.ss[j] = true) := fun e => all_up hlt HA.out e
        have HL1 : Hid _ := fun u hb => HLD.out u hb g.ss[k]
        have HXn : Hid _ := fun o => HX1.out.al o
        have hk0 : (0 : Int) ≤ (k : Int) := by omega
        have hk1 : (k : Int) < (g.ss.length : Int) := by omega
        generalize g.ss[k] = y at *
        clear hc1 hv2 hx HA HGR2 HNH HYE HLD HNS
        have hsb : slB h y = (ldB h y && decide (0 ≤ y.used) && decide (y.used ≤ h.time)) := rfl
        obtain ⟨yk, yp, yu⟩ := y
        simp only at d0 d1 d2 HL1 hsb
        generalize ldB h ⟨yk, yp, yu⟩ = ld at *
        generalize slB h ⟨yk, yp, yu⟩ = sb at *
        cases ld
        · have HQ : Hid (G = false) := HBD.out (by rw [hsb]; rfl)
          clear hsb HGO HBD
          go_wp2_with (go_at_call 96; refine Calls.mono (HL1.out _ (HXn.out _).hx.bel) ?_; rintro e u1 ⟨rfl, hu⟩; have HX2 : Hid (GX w u1 h a q) := (HXn.out _).step hu; clear hu)
          go_ret
          exact ⟨ret_bool HQ.out.symm, HX2.out.hx.bel⟩
        · by_cases yu0 : yu < 0
          · have HQ : Hid (G = false) := HBD.out (by rw [hsb, decide_eq_false (show ¬ 0 ≤ yu by omega)]; rfl)
            clear hsb HGO HBD
            go_wp2_with (go_at_call 96; refine Calls.mono (HL1.out _ (HXn.out _).hx.bel) ?_; rintro e u1 ⟨rfl, hu⟩; have HX2 : Hid (GX w u1 h a q) := (HXn.out _).step hu; have x2 : u1.cell? ⟨wr.heap.size, 2, none⟩ = some (.int .i64 yu) := (World.cell?_of_block (hu.block _ (by simp))).trans (cel3 (heap_new _ _)).2.2.1; have x3 : wr.heap.size < u1.heap.size := Nat.lt_of_lt_of_le (by simp) hu.size; clear hu)
            go_ret
            exact ⟨ret_bool HQ.out.symm, HX2.out.hx.bel⟩
          · by_cases yu1 : h.time < yu
            · have HQ : Hid (G = false) := HBD.out (by rw [hsb, decide_eq_false (show ¬ yu ≤ h.time by omega), Bool.and_false])
              clear hsb HGO HBD
              go_wp2_with (go_at_call 96; refine Calls.mono (HL1.out _ (HXn.out _).hx.bel) ?_; rintro e u1 ⟨rfl, hu⟩; have HX2 : Hid (GX w u1 h a q) := (HXn.out _).step hu; obtain ⟨_, _, _, c3, _, _, _, l1, _⟩ := HCE.out _ HX2.out; have x2 : u1.cell? ⟨wr.heap.size, 2, none⟩ = some (.int .i64 yu) := (World.cell?_of_block (hu.block _ (by simp))).trans (cel3 (heap_new _ _)).2.2.1; have x3 : wr.heap.size < u1.heap.size := Nat.lt_of_lt_of_le (by simp) hu.size; clear hu)
              go_ret
              exact ⟨ret_bool HQ.out.symm, HX2.out.hx.bel⟩
            · have HQ : Hid _ := HGO.out (by rw [hsb, decide_eq_true (show 0 ≤ yu by omega), decide_eq_true (show yu ≤ h.time by omega)]; rfl)
              clear hsb HGO HBD
              go_wp2_with (go_at_call 96; refine Calls.mono (HL1.out _ (HXn.out _).hx.bel) ?_; rintro e u1 ⟨rfl, hu⟩; have HX2 : Hid (GX w u1 h a q) := (HXn.out _).step hu; obtain ⟨_, _, _, c3, _, _, _, l1, _⟩ := HCE.out _ HX2.out; have x2 : u1.cell? ⟨wr.heap.size, 2, none⟩ = some (.int .i64 yu) := (World.cell?_of_block (hu.block _ (by simp))).trans (cel3 (heap_new _ _)).2.2.1; have x3 : wr.heap.size < u1.heap.size := Nat.lt_of_lt_of_le (by simp) hu.size; clear hu)
              exact ⟨⟨k + 1, hlt, by simp, HQ.out, HX2.out⟩, by simp [intOf]; omega⟩
      · obtain rfl : k = g.ss.length := by omega
        have HSA : Hid (∀ k (hk : k < g.ss.length), slB h g.ss[k] = true) := fun k hk => HA.out k hk hk
        have HGR3 : Hid _ := HGR2.out HSA.out
        have HYE2 : Hid _ := HYE.out HSA.out
        clear hx HA HNS HLD HGR2 HYE
        go_wp2
        go_loopw [7] (fun i wr => ∃ k : Nat, k ≤ g.hs.length ∧ i = .int .i64 k ∧ (∀ j (hj : j < g.hs.length), j < k → grB h g.ss g.hs[j] = true) ∧ GX w wr h a q) (fun i _ => g.hs.length - (intOf i).toNat)
        case atStart => exact ⟨0, Nat.zero_le _, rfl, fun j _ h => absurd h (Nat.not_lt_zero _), HX1.out⟩
        case round =>
          clear c0 c1 c2 c3 s0 s1 s2 l1 l2 HX1
          obtain ⟨k, hk, rfl, hal, hx⟩ := hrel
          have HA : Hid (∀ j (hj : j < g.hs.length), j < k → grB h g.ss g.hs[j] = true) := hal
          have HX1 : Hid _ := hx
          obtain ⟨c0, c1, c2, c3, s0, s1, s2, l1, l2⟩ := HCE.out _ hx
          clear hal
          by_cases hlt : k < g.hs.length
          · obtain ⟨g1, o1, cap1, hv, _, hg1, hc1⟩ := HH.out.resolve_left (fun h => by rw [h.1] at hlt; simp at hlt)
            injection hv with hv1 hv2 hv3
            subst hv1 hv3
            have d0 := hc1.below hx.hx.bel hg1 k hlt
            have HBD : Hid _ := HNH.out k hlt
            have HGO : Hid (grB h g.ss g.hs[k] = true → ∀ j (hj : j < g.hs.length), j < k + 1 → grB h g.ss g.hs[j] = true) := fun e => all_up hlt HA.out e
            have HG1 : Hid _ := fun u hb => HGR3.out u hb g.hs[k]
            have hk0 : (0 : Int) ≤ (k : Int) := by omega
            have hk1 : (k : Int) < (g.hs.length : Int) := by omega
            have hg1w : g1 < wr.heap.size := Nat.lt_of_lt_of_le hg1 hx.hx.bel.size
            have HDR : Hid (Below w.heap.size w wr.drew) := (show Below w.heap.size w wr.drew from ⟨hx.hx.bel.os, hx.hx.bel.tape, hx.hx.bel.output, hx.hx.bel.size, hx.hx.bel.block⟩)
            generalize g.hs[k] = y at *
            clear hc1 hv2 hx HA HGR3 HNH HYE2
            generalize grB h g.ss y = gr at *
            cases gr
            · have HQ : Hid (G = false) := HBD.out rfl
              clear HGO HBD
              go_wp2
              go_region_held3 (fun w' => w'.cell? ⟨w.heap.size, 0, none⟩ = some (.slice al h.cs.length kl) ∧ w'.cell? ⟨w.heap.size, 1, none⟩ = some (.slice am h.ps.length km) ∧ w'.cell? ⟨w.heap.size, 2, none⟩ = some (.slice ac h.gs.length kc) ∧ w'.cell? ⟨w.heap.size, 3, none⟩ = some (.int .i64 h.time) ∧ w'.cell? ⟨w.heap.size + 1, 0, none⟩ = some (.slice az g.ss.length ks) ∧ w'.cell? ⟨w.heap.size + 1, 1, none⟩ = some (.string g.d) ∧ w'.cell? ⟨w.heap.size + 1, 2, none⟩ = some (.slice (some ⟨g1, o1, none⟩) g.hs.length kh) ∧ w'.cell? ⟨g1, o1 + k, none⟩ = some (.int .i64 y)) (go_keep) ((go_at_call 97; refine Calls.mono (HG1.out wr.drew HDR.out) ?_; rintro e u5 ⟨rfl, hu5⟩; have hb5 : Below wr.heap.size wr u5 := ⟨hu5.os, hu5.tape, hu5.output, hu5.size, hu5.block⟩; have HX5 : Hid (GX w u5 h a q) := HX1.out.step hb5; obtain ⟨f0, f1, f2, f3, f4, f5, f6, f7, f8⟩ := HCE.out _ HX5.out; have f9 := (World.cell?_of_block (hb5.block g1 hg1w)).trans d0; clear hu5 hb5))
              all_goals go_wp2
              all_goals go_ret
              all_goals exact ⟨ret_bool HQ.out.symm, HX5.out.hx.bel⟩
            · have HQ : Hid _ := HGO.out rfl
              clear HGO HBD
              go_wp2
              go_region_held3 (fun w' => w'.cell? ⟨w.heap.size, 0, none⟩ = some (.slice al h.cs.length kl) ∧ w'.cell? ⟨w.heap.size, 1, none⟩ = some (.slice am h.ps.length km) ∧ w'.cell? ⟨w.heap.size, 2, none⟩ = some (.slice ac h.gs.length kc) ∧ w'.cell? ⟨w.heap.size, 3, none⟩ = some (.int .i64 h.time) ∧ w'.cell? ⟨w.heap.size + 1, 0, none⟩ = some (.slice az g.ss.length ks) ∧ w'.cell? ⟨w.heap.size + 1, 1, none⟩ = some (.string g.d) ∧ w'.cell? ⟨w.heap.size + 1, 2, none⟩ = some (.slice (some ⟨g1, o1, none⟩) g.hs.length kh) ∧ w'.cell? ⟨g1, o1 + k, none⟩ = some (.int .i64 y)) (go_keep) ((go_at_call 97; refine Calls.mono (HG1.out wr.drew HDR.out) ?_; rintro e u5 ⟨rfl, hu5⟩; have hb5 : Below wr.heap.size wr u5 := ⟨hu5.os, hu5.tape, hu5.output, hu5.size, hu5.block⟩; have HX5 : Hid (GX w u5 h a q) := HX1.out.step hb5; obtain ⟨f0, f1, f2, f3, f4, f5, f6, f7, f8⟩ := HCE.out _ HX5.out; have f9 := (World.cell?_of_block (hb5.block g1 hg1w)).trans d0; clear hu5 hb5))
              all_goals go_wp2
              all_goals go_roundw
              case rel => exact ⟨k + 1, hlt, by go_num, HQ.out, HX5.out⟩
              case measure => simp [intOf]; omega
          · obtain rfl : k = g.hs.length := by omega
            have hg := HYE2.out (fun k hk => HA.out k hk hk)
            clear hx
            go_wp2
            go_ret
            exact ⟨ret_bool hg.symm, HX1.out.hx.bel⟩
end Go.Proofs.Ytomfbiiegcmmlab
