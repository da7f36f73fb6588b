import Derived.Test.YtomfbiiegcmmlabMf3
namespace Go.Proofs.Ytomfbiiegcmmlab
open Go.ChangeShapes Go.WideShapes Go.ChangeAt Go.RowKit

set_option maxRecDepth 100000
def sZ0 : SL := ⟨0, 0, 0⟩
def okG (h : MH) (ss : List SL) (f : Int) (N k : Nat) : Bool := (ss.getD (N * 4 + k) sZ0).kind == 1 && (ss.getD (N * 4 + k) sZ0).pos == f + (k : Int) && cntS h 1 (ss.getD (N * 4 + k) sZ0).pos == 1
def fsG (ss : List SL) (N : Nat) : Int := (ss.getD (N * 4) sZ0).pos
def grB (h : MH) (ss : List SL) (n : Int) : Bool := decide (0 ≤ n ∧ (n + 1) * 4 ≤ (ss.length : Int)) && (List.range 4).all (okG h ss (fsG ss n.toNat) n.toNat) && decide (fsG ss n.toNat % 4 = 0)
theorem gdS {zs : List SL} {k : Nat} (h : k < zs.length) : zs.getD k sZ0 = zs[k] := by simp [List.getD, List.getElem?_eq_getElem h]
theorem grB_out {h : MH} {ss : List SL} {n : Int} (e : n < 0 ∨ (ss.length : Int) < (n + 1) * 4) : grB h ss n = false := by
  unfold grB
  rw [decide_eq_false (by omega)]
  rfl
theorem grB_bad {h : MH} {ss : List SL} {n : Int} {k : Nat} (hk : k < 4) (e : okG h ss (fsG ss n.toNat) n.toNat k = false) : grB h ss n = false := by
  unfold grB
  have : (List.range 4).all (okG h ss (fsG ss n.toNat) n.toNat) = false := by
    rw [List.all_eq_false]
    exact ⟨k, List.mem_range.2 hk, by rw [e]; decide⟩
  rw [this]
  simp
theorem grB_end {h : MH} {ss : List SL} {n : Int} (hn : 0 ≤ n ∧ (n + 1) * 4 ≤ (ss.length : Int)) (e : ∀ k, k < 4 → okG h ss (fsG ss n.toNat) n.toNat k = true) : grB h ss n = decide (fsG ss n.toNat % 4 = 0) := by
  unfold grB
  have : (List.range 4).all (okG h ss (fsG ss n.toNat) n.toNat) = true := by
    rw [List.all_eq_true]
    exact fun k hk => e k (List.mem_range.1 hk)
  rw [this, decide_eq_true hn]
  rfl
/-- A host and a guest in the boxes of parameters. -/
structure GX (w u : World) (h : MH) (a : HA) (q : MG) : Prop where
  hx : HX w u h a
  gb : u.heap[w.heap.size + 1]? = some (.cells #[q.s, .string q.d, q.h] 67 (0, 0))
theorem GX.lt {w u : World} {h : MH} {a : HA} {q : MG} (x : GX w u h a q) : w.heap.size + 1 < u.heap.size := (Array.getElem?_eq_some_iff.1 x.gb).1
theorem GX.step {w u u' : World} {h : MH} {a : HA} {q : MG} (x : GX w u h a q) (hb : Below u.heap.size u u') : GX w u' h a q := ⟨x.hx.step hb, (hb.block _ x.lt).trans x.gb⟩
theorem GX.al {w u : World} {h : MH} {a : HA} {q : MG} (x : GX w u h a q) (o : Obj) : GX w (u.alloc o) h a q := x.step ((Below.refl _ _).alloc (Nat.le_refl _) _)
theorem GX.new {w : World} {h : MH} {a : HA} (q : MG) (x : HRows w h a) : GX w ((w.alloc (.cells #[a.vc, a.vp, a.vg, .int .i64 h.time] 30)).alloc (.cells #[q.s, .string q.d, q.h] 67)) h a q :=
  ⟨(HX.new x).step ((Below.refl _ _).alloc (Nat.le_refl _) _), by simpa using heap_new (w.alloc (.cells #[a.vc, a.vp, a.vg, .int .i64 h.time] 30)) (.cells #[q.s, .string q.d, q.h] 67)⟩
theorem ld_pos {h : MH} {x : SL} (hl : HLen h) (e : ldB h x = true) : 0 ≤ x.pos ∧ x.pos ≤ 1048576 := by
  unfold ldB inB at e
  have := hl.c
  have := hl.p
  split at e
  · have := of_decide_eq_true e
    omega
  · split at e
    · simp at e
      omega
    · split at e
      · simp at e
        omega
      · cases e
set_option maxHeartbeats 40000000 in
theorem l12Group_any {w : World} {h : MH} {a : HA} {g : GS} {q : MG} (hr : HRows w h a) (hl : HLen h) (hE : (allS h).length ≤ 1048576) (hq : q.d = g.d ∧ SLrow w q.s g.ss ∧ Irow w q.h g.hs) (h32 : g.ss.length ≤ 32) (hld : ∀ k (hk : k < g.ss.length), ldB h g.ss[k] = true) (n : Int) : Calls Try.prog 97 #[mhA a h.time, mgA q, .int .i64 n] w fun e w' => e = .returned (.bool (grB h g.ss n)) ∧ Below w.heap.size w w' := by
  obtain ⟨al, kl, el⟩ := hr.cs.sl
  obtain ⟨am, km, em⟩ := hr.ps.sl
  obtain ⟨ac, kc, ec⟩ := hr.mg.sl
  rw [hr.gi.len] at ec
  obtain ⟨qd, qs, qh⟩ := hq
  obtain ⟨az, ks, es⟩ := qs.sl
  obtain ⟨ah, kh, eh⟩ := qh.sl
  have HS : Hid (SLrow w (.slice az g.ss.length ks) g.ss) := (show SLrow w (.slice az g.ss.length ks) g.ss by rw [← es]; exact qs)
  have HCT : Hid (∀ (u : World) (_ : Below w.heap.size w u) (p : Int), Calls Try.prog 67 #[.agg #[.slice al h.cs.length kl, .slice am h.ps.length km, .slice ac h.gs.length kc, .int .i64 h.time], .int .i64 1, .int .i64 p] u fun e w' => e = .returned (.int .i64 (cntS h 1 p : Nat)) ∧ Below u.heap.size u w') := fun u hb p => (by
    have := l12Count_any (hr.below hb) hl hE 1 p
    unfold mhA at this
    rw [el, em, ec] at this
    exact this)
  have HX0 : Hid (GX w ((w.alloc (.cells #[.slice al h.cs.length kl, .slice am h.ps.length km, .slice ac h.gs.length kc, .int .i64 h.time] 30)).alloc (.cells #[.slice az g.ss.length ks, .string g.d, .slice ah g.hs.length kh] 67)) h a q) := (show GX w ((w.alloc (.cells #[.slice al h.cs.length kl, .slice am h.ps.length km, .slice ac h.gs.length kc, .int .i64 h.time] 30)).alloc (.cells #[.slice az g.ss.length ks, .string g.d, .slice ah g.hs.length kh] 67)) h a q by have hn := GX.new q hr; rw [el, em, ec, es, eh, qd] at hn; exact hn)
  have HCE : Hid (∀ u, GX w u h a q → u.cell? ⟨w.heap.size, 0, none⟩ = some (.slice al h.cs.length kl) ∧ u.cell? ⟨w.heap.size, 1, none⟩ = some (.slice am h.ps.length km) ∧ u.cell? ⟨w.heap.size, 2, none⟩ = some (.slice ac h.gs.length kc) ∧ u.cell? ⟨w.heap.size, 3, none⟩ = some (.int .i64 h.time) ∧ u.cell? ⟨w.heap.size + 1, 0, none⟩ = some (.slice az g.ss.length ks) ∧ w.heap.size < u.heap.size ∧ w.heap.size + 1 < u.heap.size) := fun u x => (by
    obtain ⟨c0, c1, c2, c3⟩ := x.hx.cel
    rw [el] at c0
    rw [em] at c1
    rw [ec] at c2
    have hg := x.gb
    rw [es] at hg
    exact ⟨c0, c1, c2, c3, (cel3 hg).1, x.hx.lt, x.lt⟩)
  have HPB : Hid (∀ k (hk : k < g.ss.length), 0 ≤ g.ss[k].pos ∧ g.ss[k].pos ≤ 1048576) := fun k hk => ld_pos hl (hld k hk)
  unfold mhA mgA
  rw [el, em, ec, es, eh, qd]
  clear el em ec es eh qd qs qh hr hl hE hld
  by_cases hn : n < 0 ∨ 32 ≤ n ∨ (g.ss.length : Int) < (n + 1) * 4
  · have HQ : Hid (grB h g.ss n = false) := grB_out (by omega)
    obtain ⟨c0, c1, c2, c3, s0, l1, l2⟩ := HCE.out _ HX0.out
    rw [HQ.out]
    have HB : Hid _ := HX0.out.hx.bel
    clear HCE HPB HCT HS
    by_cases n0 : n < 0
    · clear hn
      go_enter Try.func97, Try.ntmps97
      go_wp2
      go_ret
      exact ⟨rfl, HB.out⟩
    · by_cases n1 : 32 ≤ n
      · clear hn
        go_enter Try.func97, Try.ntmps97
        go_wp2
        go_ret
        exact ⟨rfl, HB.out⟩
      · have n2 : (g.ss.length : Int) < (n + 1) * 4 := by omega
        clear hn
        go_enter Try.func97, Try.ntmps97
        go_wp2
        go_ret
        exact ⟨rfl, HB.out⟩
  · obtain ⟨N, rfl⟩ : ∃ N : Nat, n = (N : Int) := ⟨n.toNat, by omega⟩
    have hN : N * 4 + 4 ≤ g.ss.length := by omega
    have HBAD : Hid (∀ k, k < 4 → okG h g.ss (fsG g.ss N) N k = false → grB h g.ss (N : Int) = false) := fun k hk e => grB_bad hk (by rw [Int.toNat_natCast]; exact e)
    have HEND : Hid ((∀ k, k < 4 → okG h g.ss (fsG g.ss N) N k = true) → grB h g.ss (N : Int) = decide (fsG g.ss N % 4 = 0)) := fun e => grB_end (by omega) (by rw [Int.toNat_natCast]; exact e)
    obtain ⟨G, hG⟩ : ∃ G, grB h g.ss (N : Int) = G := ⟨_, rfl⟩
    rw [hG] at HBAD HEND ⊢
    clear hG
    obtain ⟨g1, o1, cap1, hv, _, hg1, hc1⟩ := HS.out.resolve_left (fun h => by rw [h.1] at hN; simp at hN)
    injection hv with hv1 hv2 hv3
    subst hv1 hv3
    have HAT : Hid (∀ u, Below w.heap.size w u → ∀ k (hk : k < g.ss.length), u.cell? ⟨g1, o1 + k * 3, none⟩ = some (.int .i64 g.ss[k].kind) ∧ u.cell? ⟨g1, o1 + k * 3 + 1, none⟩ = some (.int .i64 g.ss[k].pos) ∧ u.cell? ⟨g1, o1 + k * 3 + 2, none⟩ = some (.int .i64 g.ss[k].used)) := fun u hb k hk => hc1.below hb hg1 k hk
    obtain ⟨c0, c1, c2, c3, s0, l1, l2⟩ := HCE.out _ HX0.out
    have n5 : N * 4 < g.ss.length := Nat.lt_of_lt_of_le (Nat.lt_add_of_pos_right (by decide)) hN
    have hF : fsG g.ss N = g.ss[N * 4].pos := by unfold fsG; rw [gdS n5]
    obtain ⟨_, d1, _⟩ := HAT.out _ HX0.out.hx.bel (N * 4) n5
    have hfb := HPB.out (N * 4) n5
    rw [← hF] at d1 hfb
    obtain ⟨hf0, hf1⟩ := hfb
    have HOK : Hid (∀ k (hkk : N * 4 + k < g.ss.length), okG h g.ss (fsG g.ss N) N k = (g.ss[N * 4 + k].kind == 1 && g.ss[N * 4 + k].pos == fsG g.ss N + (k : Int) && cntS h 1 g.ss[N * 4 + k].pos == 1)) := fun k hkk => (by unfold okG; rw [gdS hkk])
    have n0 : (0 : Int) ≤ (N : Int) := by omega
    have n1 : (N : Int) ≤ 7 := by omega
    have n2 : ¬ (g.ss.length : Int) < ((N : Int) + 1) * 4 := by omega
    obtain ⟨M, hM⟩ : ∃ M : Nat, N * 4 = M := ⟨_, rfl⟩
    have n3 : (N : Int) * 4 = (M : Int) := by omega
    have n4 : (M : Int) < (g.ss.length : Int) := by omega
    have nm : (M : Int) ≤ 28 := by omega
    have nm0 : (0 : Int) ≤ (M : Int) := by omega
    simp only [hM] at *
    generalize fsG g.ss N = f at *
    clear hF hc1 hv2
    clear hn
    go_enter Try.func97, Try.ntmps97
    go_wp2
    generalize ((w.alloc (.cells #[.slice al h.cs.length kl, .slice am h.ps.length km, .slice ac h.gs.length kc, .int .i64 h.time] 30)).alloc (.cells #[.slice (some ⟨g1, o1, none⟩) g.ss.length ks, .string g.d, .slice ah g.hs.length kh] 67)) = V at *
    clear c0 c1 c2 c3 s0 l1 l2 d1
    go_loopw [8] (fun i wr => ∃ k : Nat, k ≤ 4 ∧ i = .int .i64 k ∧ (∀ j, j < k → okG h g.ss f N j = true) ∧ GX w wr h a q) (fun i _ => 4 - (intOf i).toNat)
    case atStart => exact ⟨0, Nat.zero_le _, rfl, fun j h => absurd h (Nat.not_lt_zero _), HX0.out⟩
    case round =>
      obtain ⟨k, hk, rfl, hal, hx⟩ := hrel
      have HA : Hid (∀ j, j < k → okG h g.ss f N j = true) := hal
      have HX1 : Hid _ := hx
      obtain ⟨c0, c1, c2, c3, s0, l1, l2⟩ := HCE.out _ hx
      clear hal HX0
      by_cases hlt : k < 4
      · have hkk : M + k < g.ss.length := by omega
        obtain ⟨d0, d1, d2⟩ := HAT.out _ hx.hx.bel (M + k) hkk
        have hok := HOK.out k hkk
        have HBD : Hid _ := HBAD.out k hlt
        have HGO : Hid (okG h g.ss f N k = true → ∀ j, j < k + 1 → okG h g.ss f N j = true) := fun e j hj => (by
          by_cases e2 : j = k
          · rw [e2]
            exact e
          · exact HA.out j (by omega))
        have HCT1 : Hid _ := fun u hb => HCT.out u hb g.ss[M + k].pos
        generalize g.ss[M + k] = y at *
        obtain ⟨yk, yp, yu⟩ := y
        simp only at d0 d1 d2 hok HCT1
        have HXn : Hid _ := fun o => HX1.out.al o
        have hk0 : (0 : Int) ≤ (k : Int) := by omega
        have hk1 : (k : Int) < 4 := by omega
        obtain ⟨P, hP⟩ : ∃ P : Nat, M + k = P := ⟨_, rfl⟩
        have n6 : (M : Int) + (k : Int) = (P : Int) := by omega
        have n7 : (P : Int) < (g.ss.length : Int) := by omega
        have n8 : (0 : Int) ≤ (P : Int) := by omega
        rw [hP] at d0 d1 d2
        clear hP
        clear hx HA
        generalize okG h g.ss f N k = okv at *
        cases hq : (yk == 1)
        · rw [hq] at hok
          have HQ : Hid (G = false) := HBD.out (by rw [hok]; rfl)
          have yk1 : ¬ yk = 1 := by simpa using hq
          clear hq hok HGO HBD
          go_wp2
          go_ret
          exact ⟨ret_bool HQ.out.symm, (HXn.out _).hx.bel⟩
        · have yk1 : yk = 1 := by simpa using hq
          subst yk1
          cases hp : (yp == f + (k : Int))
          · rw [hq, hp] at hok
            have HQ : Hid (G = false) := HBD.out (by rw [hok]; rfl)
            have yp1 : ¬ yp = f + (k : Int) := by simpa using hp
            clear hq hok HGO HBD hp
            go_wp2
            go_ret
            exact ⟨ret_bool HQ.out.symm, (HXn.out _).hx.bel⟩
          · have yp1 : yp = f + (k : Int) := by simpa using hp
            rw [hq, hp] at hok
            clear hq hp
            subst yp1
            obtain ⟨z, hz⟩ : ∃ z : Int, f + (k : Int) = z := ⟨_, rfl⟩
            rw [hz] at d1 hok HCT1
            cases hcn : (cntS h 1 z == 1)
            · rw [hcn] at hok
              have HQ : Hid (G = false) := HBD.out (by rw [hok]; rfl)
              have ct1 : ¬ ((cntS h 1 z : Nat) : Int) = 1 := by
                have : ¬ cntS h 1 z = 1 := by simpa using hcn
                omega
              clear hcn hok HGO HBD
              generalize cntS h 1 z = cn at *
              go_wp2_with fail
              refine Calls.mono (HCT1.out _ (HXn.out _).hx.bel) ?_
              rintro e u1 ⟨rfl, hu⟩
              have HX2 : Hid (GX w u1 h a q) := (HXn.out _).step hu
              clear hu
              go_wp2_with fail
              go_ret
              exact ⟨ret_bool HQ.out.symm, HX2.out.hx.bel⟩
            · rw [hcn] at hok
              have HQ : Hid _ := HGO.out (by rw [hok]; rfl)
              have ct1 : ((cntS h 1 z : Nat) : Int) = 1 := by
                have : cntS h 1 z = 1 := by simpa using hcn
                omega
              clear hcn hok HGO HBD
              generalize cntS h 1 z = cn at *
              go_wp2_with fail
              refine Calls.mono (HCT1.out _ (HXn.out _).hx.bel) ?_
              rintro e u1 ⟨rfl, hu⟩
              have HX2 : Hid (GX w u1 h a q) := (HXn.out _).step hu
              clear hu
              go_wp2_with fail
              exact ⟨⟨k + 1, hlt, by simp, HQ.out, HX2.out⟩, by simp [intOf]; omega⟩
      · obtain rfl : k = 4 := by omega
        have HQ : Hid _ := HEND.out HA.out
        clear hx
        go_wp2
        go_ret
        exact ⟨ret_bool HQ.out.symm, HX1.out.hx.bel⟩
end Go.Proofs.Ytomfbiiegcmmlab
