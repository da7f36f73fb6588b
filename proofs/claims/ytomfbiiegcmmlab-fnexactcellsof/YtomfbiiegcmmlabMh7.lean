import Derived.Test.YtomfbiiegcmmlabMh5
import Derived.Test.YtomfbiiegcmmlabMh6
namespace Go.Proofs.Ytomfbiiegcmmlab
open Go.ChangeShapes Go.WideShapes Go.ChangeAt Go.RowKit

set_option maxRecDepth 100000
def szH (h : MH) : Bool := decide ((h.cs.length : Int) + totS h.cs + ((h.ps.length : Int) + totS h.ps) + ((h.gs.length : Int) + totM h.gs) ≤ 1048576)
structure HMax (h : MH) : Prop where
  c : h.cs.length ≤ maxLen
  p : h.ps.length ≤ maxLen
  g : h.gs.length ≤ maxLen
  cb : ∀ z ∈ h.cs, z.size ≤ maxLen
  pb : ∀ z ∈ h.ps, z.size ≤ maxLen
  e : ∀ k (hk : k < h.gs.length), h.gs[k].ss.length ≤ maxLen ∧ h.gs[k].hs.length ≤ maxLen ∧ h.gs[k].d.size ≤ maxLen
theorem szH_len {h : MH} (x : szH h = true) : HLen h := by
  unfold szH at x
  have h2 := of_decide_eq_true x
  have h3 := totS_nn h.cs
  have h4 := totS_nn h.ps
  have h5 := totM_nn h.gs
  refine ⟨by omega, by omega, by omega, fun k hk => ?_, fun k hk => ?_⟩
  · have := totM_el h.gs k hk
    omega
  · have := totM_el h.gs k hk
    omega
/-- A law's host in its box. -/
structure HBx (w u : World) (h : MH) (a : HA) : Prop where
  bel : Below w.heap.size w u
  box : u.heap[w.heap.size]? = some (.cells #[a.vc, a.vp, a.vg, .int .i64 h.time] 25 (0, 0))
  row : HRows u h a
theorem HBx.lt {w u : World} {h : MH} {a : HA} (x : HBx w u h a) : w.heap.size < u.heap.size := (Array.getElem?_eq_some_iff.1 x.box).1
theorem HBx.step {w u u' : World} {h : MH} {a : HA} (x : HBx w u h a) (hb : Below u.heap.size u u') : HBx w u' h a := ⟨x.bel.trans (hb.mono x.bel.size), (hb.block _ x.lt).trans x.box, x.row.below hb⟩
theorem HBx.new {w : World} {h : MH} {a : HA} (x : HRows w h a) : HBx w (w.alloc (.cells #[a.vc, a.vp, a.vg, .int .i64 h.time] 25)) h a := ⟨(Below.refl _ _).alloc (Nat.le_refl _) _, heap_new _ _, x.below ((Below.refl _ _).alloc (Nat.le_refl _) _)⟩
theorem HBx.cel {w u : World} {h : MH} {a : HA} (x : HBx w u h a) : u.cell? ⟨w.heap.size, 0, none⟩ = some a.vc ∧ u.cell? ⟨w.heap.size, 1, none⟩ = some a.vp ∧ u.cell? ⟨w.heap.size, 2, none⟩ = some a.vg ∧ u.cell? ⟨w.heap.size, 3, none⟩ = some (.int .i64 h.time) := by
  have := x.box
  simp [World.cell?, this]
set_option maxHeartbeats 4000000 in
theorem szHost_any {w : World} {h : MH} {a : HA} (x : HRows w h a) (hm : HMax h) : Calls Try.prog 7 #[mhA a h.time, .int .i64 1048576] w fun e w' => ∃ q, e = .returned (.int .i64 q) ∧ decide (q < 0) = !szH h ∧ Below w.heap.size w w' := by
  obtain ⟨al, kl, el⟩ := x.cs.sl
  obtain ⟨am, km, em⟩ := x.ps.sl
  obtain ⟨ac, kc, ec⟩ := x.mg.sl
  obtain ⟨vc, vp, vg, qs⟩ := a
  simp only at el ec em
  subst el ec em
  have HX : Hid (HBx w (w.alloc (.cells #[.slice al h.cs.length kl, .slice am h.ps.length km, .slice ac qs.length kc, .int .i64 h.time] 25)) h ⟨.slice al h.cs.length kl, .slice am h.ps.length km, .slice ac qs.length kc, qs⟩) := HBx.new x
  have n1 := totS_nn h.cs
  have n2 := totS_nn h.ps
  have n3 := totM_nn h.gs
  have HN : Hid (decide ((-1 : Int) < 0) = true) := (show decide ((-1 : Int) < 0) = true by decide)
  obtain ⟨l0, hl0⟩ : ∃ l : Int, l = 1048576 := ⟨_, rfl⟩
  rw [← hl0]
  have HZ1 : Hid _ := fun (u : World) (y : HBx w u h ⟨.slice al h.cs.length kl, .slice am h.ps.length km, .slice ac qs.length kc, qs⟩) (q : Int) hq => szSS_any y.row.cs l0 (by omega) (by omega) hm.c hm.cb q hq
  have HZ2 : Hid _ := fun (u : World) (y : HBx w u h ⟨.slice al h.cs.length kl, .slice am h.ps.length km, .slice ac qs.length kc, qs⟩) (l q : Int) h0 h1 hq => szSS_any y.row.ps l h0 h1 hm.p hm.pb q hq
  have HZ3 : Hid _ := fun (u : World) (y : HBx w u h ⟨.slice al h.cs.length kl, .slice am h.ps.length km, .slice ac qs.length kc, qs⟩) (l q : Int) h0 h1 hq => szGuestS_any y.row.mg y.row.gi l h0 h1 hm.g hm.e q hq
  have HL0 : Hid (l0 = 1048576) := hl0
  clear hl0
  unfold mhA
  simp only at HZ1 HZ2 HZ3 ⊢
  go_enter Try.func7, Try.ntmps7
  go_wp2_with fail
  generalize (w.alloc (.cells #[.slice al h.cs.length kl, .slice am h.ps.length km, .slice ac qs.length kc, .int .i64 h.time] 25)) = u0 at *
  have hl0 := HL0.out
  by_cases t1 : l0 < (h.cs.length : Int) + totS h.cs
  · refine Calls.mono (HZ1.out _ HX.out (-1) (by rw [if_pos t1])) ?_
    rintro e u1 ⟨rfl, hb⟩
    have HX1 : Hid (HBx w u1 h ⟨.slice al h.cs.length kl, .slice am h.ps.length km, .slice ac qs.length kc, qs⟩) := HX.out.step hb
    have HD : Hid (decide ((-1 : Int) < 0) = !szH h) := (show _ = !szH h by unfold szH; rw [decide_eq_false (show ¬ (h.cs.length : Int) + totS h.cs + ((h.ps.length : Int) + totS h.ps) + ((h.gs.length : Int) + totM h.gs) ≤ 1048576 by omega)]; rfl)
    clear hb hl0
    go_wp2_with fail
    go_ret
    exact ⟨_, rfl, HD.out, HX1.out.bel⟩
  obtain ⟨l1, hl1⟩ : ∃ l1 : Int, l1 = l0 - ((h.cs.length : Int) + totS h.cs) := ⟨_, rfl⟩
  refine Calls.mono (HZ1.out _ HX.out l1 (by rw [if_neg t1, hl1])) ?_
  rintro e u1 ⟨rfl, hb⟩
  have HX1 : Hid (HBx w u1 h ⟨.slice al h.cs.length kl, .slice am h.ps.length km, .slice ac qs.length kc, qs⟩) := HX.out.step hb
  have g1 : ¬ l1 < 0 := by omega
  clear hb HX HZ1
  obtain ⟨c0, c1, c2, c3⟩ := HX1.out.cel
  simp only at c0 c1 c2 c3
  have lt1 := HX1.out.lt
  have HL1 : Hid (l1 = l0 - ((h.cs.length : Int) + totS h.cs)) := hl1
  clear hl1 hl0
  go_wp2_with fail
  clear c0 c1 c2 c3 lt1
  have hl0 := HL0.out
  have hl1 := HL1.out
  by_cases t2 : l1 < (h.ps.length : Int) + totS h.ps
  · refine Calls.mono (HZ2.out _ HX1.out l1 (-1) (by omega) (by omega) (by rw [if_pos t2])) ?_
    rintro e u2 ⟨rfl, hb⟩
    have HX2 : Hid (HBx w u2 h ⟨.slice al h.cs.length kl, .slice am h.ps.length km, .slice ac qs.length kc, qs⟩) := HX1.out.step hb
    have HD : Hid (decide ((-1 : Int) < 0) = !szH h) := (show _ = !szH h by unfold szH; rw [decide_eq_false (show ¬ (h.cs.length : Int) + totS h.cs + ((h.ps.length : Int) + totS h.ps) + ((h.gs.length : Int) + totM h.gs) ≤ 1048576 by omega)]; rfl)
    clear hb hl1 hl0
    go_wp2_with fail
    go_ret
    exact ⟨_, rfl, HD.out, HX2.out.bel⟩
  obtain ⟨l2, hl2⟩ : ∃ l2 : Int, l2 = l1 - ((h.ps.length : Int) + totS h.ps) := ⟨_, rfl⟩
  refine Calls.mono (HZ2.out _ HX1.out l1 l2 (by omega) (by omega) (by rw [if_neg t2, hl2])) ?_
  rintro e u2 ⟨rfl, hb⟩
  have HX2 : Hid (HBx w u2 h ⟨.slice al h.cs.length kl, .slice am h.ps.length km, .slice ac qs.length kc, qs⟩) := HX1.out.step hb
  have g2 : ¬ l2 < 0 := by omega
  clear hb HX1 HZ2
  obtain ⟨c0, c1, c2, c3⟩ := HX2.out.cel
  simp only at c0 c1 c2 c3
  have lt1 := HX2.out.lt
  have HL2 : Hid (l2 = l1 - ((h.ps.length : Int) + totS h.ps)) := hl2
  clear hl1 hl2 hl0
  go_wp2_with fail
  clear c0 c1 c2 c3 lt1
  have hl0 := HL0.out
  have hl1 := HL1.out
  have hl2 := HL2.out
  by_cases t3 : l2 < (h.gs.length : Int) + totM h.gs
  · refine Calls.mono (HZ3.out _ HX2.out l2 (-1) (by omega) (by omega) (by rw [if_pos t3])) ?_
    rintro e u3 ⟨rfl, hb⟩
    have HX3 : Hid (HBx w u3 h ⟨.slice al h.cs.length kl, .slice am h.ps.length km, .slice ac qs.length kc, qs⟩) := HX2.out.step hb
    have HD : Hid (decide ((-1 : Int) < 0) = !szH h) := (show _ = !szH h by unfold szH; rw [decide_eq_false (show ¬ (h.cs.length : Int) + totS h.cs + ((h.ps.length : Int) + totS h.ps) + ((h.gs.length : Int) + totM h.gs) ≤ 1048576 by omega)]; rfl)
    clear hb hl1 hl2 hl0
    go_wp2_with fail
    go_ret
    exact ⟨_, rfl, HD.out, HX3.out.bel⟩
  obtain ⟨l3, hl3⟩ : ∃ l3 : Int, l3 = l2 - ((h.gs.length : Int) + totM h.gs) := ⟨_, rfl⟩
  refine Calls.mono (HZ3.out _ HX2.out l2 l3 (by omega) (by omega) (by rw [if_neg t3, hl3])) ?_
  rintro e u3 ⟨rfl, hb⟩
  have HX3 : Hid (HBx w u3 h ⟨.slice al h.cs.length kl, .slice am h.ps.length km, .slice ac qs.length kc, qs⟩) := HX2.out.step hb
  have g3 : ¬ l3 < 0 := by omega
  have HD : Hid (decide (l3 < 0) = !szH h) := (show decide (l3 < 0) = !szH h by unfold szH; rw [decide_eq_true (show (h.cs.length : Int) + totS h.cs + ((h.ps.length : Int) + totS h.ps) + ((h.gs.length : Int) + totM h.gs) ≤ 1048576 by omega), decide_eq_false g3]; rfl)
  clear hb hl1 hl2 hl3 hl0
  go_wp2_with fail
  go_ret
  exact ⟨_, rfl, HD.out, HX3.out.bel⟩
end Go.Proofs.Ytomfbiiegcmmlab
