import Derived.Test.YtomfbiiegcmmlabMf1
namespace Go.Proofs.Ytomfbiiegcmmlab
open Go.ChangeShapes Go.WideShapes Go.ChangeAt Go.RowKit

set_option maxRecDepth 100000
theorem l01B_any (b : Bool) (w : World) : Calls Try.prog 79 #[.bool b] w fun e w' => e = .returned (.int .i64 (if b then 1 else 0)) ∧ w' = w := by
  cases b
  · go_enter Try.func79, Try.ntmps79
    go_wp2
    go_ret
    exact ⟨rfl, rfl⟩
  · go_enter Try.func79, Try.ntmps79
    go_wp2
    go_ret
    exact ⟨rfl, rfl⟩
/-- A text that is there. -/
def inB (l : List ByteArray) (p : Int) : Bool := decide (0 ≤ p) && decide (p < (l.length : Int)) && decide (¬ (l.getD p.toNat ⟨#[]⟩).size = 0)
def ldB (h : MH) (x : SL) : Bool := if x.kind = 0 then decide (x.pos = 0) else if x.kind = 1 then inB h.cs x.pos else if x.kind = 2 then inB h.ps x.pos else false
theorem inB_neg {l : List ByteArray} {p : Int} (h : p < 0) : inB l p = false := by unfold inB; rw [decide_eq_false (by omega)]; rfl
theorem inB_far {l : List ByteArray} {p : Int} (h : (l.length : Int) ≤ p) : inB l p = false := by unfold inB; rw [decide_eq_false (p := p < (l.length : Int)) (by omega)]; simp
theorem inB_at {l : List ByteArray} {k : Nat} (hk : k < l.length) : inB l (k : Int) = decide (¬ l[k].size = 0) := by
  unfold inB
  rw [decide_eq_true (by omega), decide_eq_true (p := (k : Int) < (l.length : Int)) (by omega), Int.toNat_natCast, List.getD_eq_getElem?_getD, List.getElem?_eq_getElem hk]
  simp
/-- A host in the box of a parameter. -/
structure HX (w u : World) (h : MH) (a : HA) : Prop where
  bel : Below w.heap.size w u
  box : u.heap[w.heap.size]? = some (.cells #[a.vc, a.vp, a.vg, .int .i64 h.time] 30 (0, 0))
  row : HRows w h a
theorem HX.lt {w u : World} {h : MH} {a : HA} (x : HX w u h a) : w.heap.size < u.heap.size := (Array.getElem?_eq_some_iff.1 x.box).1
theorem HX.step {w u u' : World} {h : MH} {a : HA} (x : HX w u h a) (hb : Below u.heap.size u u') : HX w u' h a := ⟨x.bel.trans (hb.mono x.bel.size), (hb.block _ x.lt).trans x.box, x.row⟩
theorem HX.new {w : World} {h : MH} {a : HA} (x : HRows w h a) : HX w (w.alloc (.cells #[a.vc, a.vp, a.vg, .int .i64 h.time] 30)) h a := ⟨(Below.refl _ _).alloc (Nat.le_refl _) _, heap_new _ _, x⟩
theorem HX.cel {w u : World} {h : MH} {a : HA} (x : HX w u h a) : u.cell? ⟨w.heap.size, 0, none⟩ = some a.vc ∧ u.cell? ⟨w.heap.size, 1, none⟩ = some a.vp ∧ u.cell? ⟨w.heap.size, 2, none⟩ = some a.vg ∧ u.cell? ⟨w.heap.size, 3, none⟩ = some (.int .i64 h.time) := by
  have := x.box
  simp [World.cell?, this]
set_option maxHeartbeats 4000000 in
theorem l12Leads_any {w : World} {h : MH} {a : HA} (hr : HRows w h a) (x : SL) : Calls Try.prog 96 #[mhA a h.time, slA x] w fun e w' => e = .returned (.bool (ldB h x)) ∧ Below w.heap.size w w' := by
  obtain ⟨al, kl, el⟩ := hr.cs.sl
  obtain ⟨am, km, em⟩ := hr.ps.sl
  obtain ⟨ac, kc, ec⟩ := hr.mg.sl
  rw [hr.gi.len] at ec
  obtain ⟨vc, vp, vg, qs⟩ := a
  simp only at el ec em
  subst el ec em
  have Hcs : Hid (Srow w (.slice al h.cs.length kl) h.cs) := hr.cs
  have Hps : Hid (Srow w (.slice am h.ps.length km) h.ps) := hr.ps
  have hx := (HX.new hr).step ((Below.refl _ _).alloc (Nat.le_refl _) (.cells #[.int .i64 x.kind, .int .i64 x.pos, .int .i64 x.used] 70))
  obtain ⟨c0, c1, c2, c3⟩ := hx.cel
  have hsl := heap_new (w.alloc (.cells #[.slice al h.cs.length kl, .slice am h.ps.length km, .slice ac h.gs.length kc, .int .i64 h.time] 30)) (.cells #[.int .i64 x.kind, .int .i64 x.pos, .int .i64 x.used] 70)
  obtain ⟨s0, s1, s2, _⟩ := cel3 hsl
  have HB : Hid (Below w.heap.size w ((w.alloc (.cells #[.slice al h.cs.length kl, .slice am h.ps.length km, .slice ac h.gs.length kc, .int .i64 h.time] 30)).alloc (.cells #[.int .i64 x.kind, .int .i64 x.pos, .int .i64 x.used] 70))) := hx.bel
  have HLT : Hid _ := hx.lt
  obtain ⟨G, hG⟩ : ∃ G, ldB h x = G := ⟨_, rfl⟩
  rw [hG]
  have HG : Hid (ldB h x = G) := hG
  clear hx hsl hr hG
  have es : (w.alloc (.cells #[.slice al h.cs.length kl, .slice am h.ps.length km, .slice ac h.gs.length kc, .int .i64 h.time] 30)).heap.size = w.heap.size + 1 := by simp
  rw [es] at s0 s1 s2
  clear es
  unfold mhA slA
  simp only at c0 c1 c2 c3 HLT ⊢
  have hlt0 := HLT.out
  clear HLT
  by_cases k0 : x.kind = 0
  · have HG0 : Hid (decide (x.pos = 0) = G) := (show _ = G by rw [← HG.out]; unfold ldB; rw [if_pos k0])
    generalize x.pos = p at *
    generalize x.used = us at *
    generalize x.kind = kd at *
    clear HG
    subst k0
    go_enter Try.func96, Try.ntmps96
    go_wp2
    go_ret
    exact ⟨ret_bool HG0.out, HB.out⟩
  by_cases k1 : x.kind = 1
  · skip
    have HR : Hid (Srow w (.slice al h.cs.length kl) h.cs) := Hcs.out
    have HG0 : Hid (inB h.cs x.pos = G) := (show inB h.cs x.pos = G by rw [← HG.out]; unfold ldB; rw [if_neg k0, if_pos k1])
    generalize x.pos = p at *
    generalize x.used = us at *
    generalize x.kind = kd at *
    clear HG
    subst k1
    clear k0
    by_cases p0 : p < 0
    · have HQ : Hid (G = false) := (show G = false by rw [← HG0.out, inB_neg p0])
      have p1 : ¬ 0 ≤ p := by omega
      clear HG0 p0
      go_enter Try.func96, Try.ntmps96
      go_wp2
      go_ret
      exact ⟨ret_bool HQ.out.symm, HB.out⟩
    · by_cases pl : (h.cs.length : Int) ≤ p
      · have HQ : Hid (G = false) := (show G = false by rw [← HG0.out, inB_far pl])
        have p1 : 0 ≤ p := by omega
        have p2 : ¬ p < (h.cs.length : Int) := by omega
        clear HG0 p0 pl
        go_enter Try.func96, Try.ntmps96
        go_wp2
        go_ret
        exact ⟨ret_bool HQ.out.symm, HB.out⟩
      · obtain ⟨k, rfl⟩ : ∃ k : Nat, p = (k : Int) := ⟨p.toNat, by omega⟩
        have hlt : k < h.cs.length := by omega
        have hi := inB_at hlt
        rw [HG0.out] at hi
        obtain ⟨g, o, cap2, hv, _, hg, hc⟩ := HR.out.resolve_left (fun h => by rw [h.1] at hlt; simp at hlt)
        injection hv with hv1 hv2 hv3
        subst hv1 hv3
        have d0 := hc.below HB.out hg k hlt
        have hk0 : (0 : Int) ≤ (k : Int) := by omega
        have hk1 : (k : Int) < (h.cs.length : Int) := by omega
        generalize h.cs[k] = y at *
        clear hc hv2 p0 pl HG0
        by_cases y0 : y.size = 0
        · have HQ : Hid (G = false) := (show G = false by rw [hi]; exact decide_eq_false (fun h => h y0))
          have ye := ba_empty y0
          clear y0 hi
          subst ye
          go_enter Try.func96, Try.ntmps96
          go_wp2
          go_ret
          exact ⟨ret_bool HQ.out.symm, HB.out⟩
        · have HQ : Hid (G = true) := (show G = true by rw [hi]; exact decide_eq_true y0)
          obtain ⟨yi, yn⟩ := ba_ne y0
          clear y0 hi
          go_enter Try.func96, Try.ntmps96
          go_wp2
          go_ret
          exact ⟨ret_bool HQ.out.symm, HB.out⟩
  by_cases k2 : x.kind = 2
  · skip
    have HR : Hid (Srow w (.slice am h.ps.length km) h.ps) := Hps.out
    have HG0 : Hid (inB h.ps x.pos = G) := (show inB h.ps x.pos = G by rw [← HG.out]; unfold ldB; rw [if_neg k0, if_neg k1, if_pos k2])
    generalize x.pos = p at *
    generalize x.used = us at *
    generalize x.kind = kd at *
    clear HG
    subst k2
    clear k0 k1
    by_cases p0 : p < 0
    · have HQ : Hid (G = false) := (show G = false by rw [← HG0.out, inB_neg p0])
      have p1 : ¬ 0 ≤ p := by omega
      clear HG0 p0
      go_enter Try.func96, Try.ntmps96
      go_wp2
      go_ret
      exact ⟨ret_bool HQ.out.symm, HB.out⟩
    · by_cases pl : (h.ps.length : Int) ≤ p
      · have HQ : Hid (G = false) := (show G = false by rw [← HG0.out, inB_far pl])
        have p1 : 0 ≤ p := by omega
        have p2 : ¬ p < (h.ps.length : Int) := by omega
        clear HG0 p0 pl
        go_enter Try.func96, Try.ntmps96
        go_wp2
        go_ret
        exact ⟨ret_bool HQ.out.symm, HB.out⟩
      · obtain ⟨k, rfl⟩ : ∃ k : Nat, p = (k : Int) := ⟨p.toNat, by omega⟩
        have hlt : k < h.ps.length := by omega
        have hi := inB_at hlt
        rw [HG0.out] at hi
        obtain ⟨g, o, cap2, hv, _, hg, hc⟩ := HR.out.resolve_left (fun h => by rw [h.1] at hlt; simp at hlt)
        injection hv with hv1 hv2 hv3
        subst hv1 hv3
        have d0 := hc.below HB.out hg k hlt
        have hk0 : (0 : Int) ≤ (k : Int) := by omega
        have hk1 : (k : Int) < (h.ps.length : Int) := by omega
        generalize h.ps[k] = y at *
        clear hc hv2 p0 pl HG0
        by_cases y0 : y.size = 0
        · have HQ : Hid (G = false) := (show G = false by rw [hi]; exact decide_eq_false (fun h => h y0))
          have ye := ba_empty y0
          clear y0 hi
          subst ye
          go_enter Try.func96, Try.ntmps96
          go_wp2
          go_ret
          exact ⟨ret_bool HQ.out.symm, HB.out⟩
        · have HQ : Hid (G = true) := (show G = true by rw [hi]; exact decide_eq_true y0)
          obtain ⟨yi, yn⟩ := ba_ne y0
          clear y0 hi
          go_enter Try.func96, Try.ntmps96
          go_wp2
          go_ret
          exact ⟨ret_bool HQ.out.symm, HB.out⟩
  have HG0 : Hid (G = false) := (show G = false by rw [← HG.out]; unfold ldB; rw [if_neg k0, if_neg k1, if_neg k2])
  clear HG
  generalize x.pos = p at *
  generalize x.used = us at *
  generalize x.kind = kd at *
  go_enter Try.func96, Try.ntmps96
  go_wp2
  go_ret
  exact ⟨ret_bool HG0.out.symm, HB.out⟩
end Go.Proofs.Ytomfbiiegcmmlab
