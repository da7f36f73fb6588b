import Derived.Test.YtefeahilamiiaaaRt15
import Derived.Test.YtefeahilamiiaaaRt16
import Derived.Test.YtefeahilamiiaaaRt11
namespace Go.Proofs.Ytefeahilamiiaaa
open Go.ChangeShapes Go.WideShapes Go.ChangeAt Go.RowKit

def szB (r : RT) : Bool := decide ((r.ls.length : Int) + ((r.cs.length : Int) + totC r.cs) + r.ms.length ≤ 1048576)
structure RMax (r : RT) : Prop where
  l : r.ls.length ≤ maxLen
  c : r.cs.length ≤ maxLen
  m : r.ms.length ≤ maxLen
  e : ∀ k (hk : k < r.cs.length), r.cs[k].ps.length ≤ maxLen ∧ r.cs[k].ss.length ≤ maxLen
theorem szB_len {r : RT} (h : szB r = true) : RLen r := by
  unfold szB at h
  have h2 := of_decide_eq_true h
  have h3 := totC_nn r.cs
  refine ⟨by omega, by omega, by omega, fun k hk => ?_, fun k hk => ?_⟩
  · have := totC_el r.cs k hk
    omega
  · have := totC_el r.cs k hk
    omega
/-- A law's router in its box. -/
structure LBx (w u : World) (r : RT) (a : RA) : Prop where
  bel : Below w.heap.size w u
  box : u.heap[w.heap.size]? = some (.cells #[a.vl, a.vc, a.vm] 26 (0, 0))
  row : RRows u r a
theorem LBx.lt {w u : World} {r : RT} {a : RA} (h : LBx w u r a) : w.heap.size < u.heap.size := (Array.getElem?_eq_some_iff.1 h.box).1
theorem LBx.step {w u u' : World} {r : RT} {a : RA} (h : LBx w u r a) (hb : Below u.heap.size u u') : LBx w u' r a := ⟨h.bel.trans (hb.mono h.bel.size), (hb.block _ h.lt).trans h.box, h.row.below hb⟩
theorem LBx.new {w : World} {r : RT} {a : RA} (h : RRows w r a) : LBx w (w.alloc (.cells #[a.vl, a.vc, a.vm] 26)) r a := ⟨(Below.refl _ _).alloc (Nat.le_refl _) _, heap_new _ _, h.below ((Below.refl _ _).alloc (Nat.le_refl _) _)⟩
theorem LBx.cel {w u : World} {r : RT} {a : RA} (h : LBx w u r a) : u.cell? ⟨w.heap.size, 0, none⟩ = some a.vl ∧ u.cell? ⟨w.heap.size, 1, none⟩ = some a.vc ∧ u.cell? ⟨w.heap.size, 2, none⟩ = some a.vm := by
  have := h.box
  simp [World.cell?, this]
set_option maxRecDepth 100000 in
set_option maxHeartbeats 4000000 in
theorem szRouter_any {w : World} {r : RT} {a : RA} (h : RRows w r a) (hm : RMax r) : Calls Try.prog 5 #[rtA a, .int .i64 1048576] w fun e w' => ∃ q, e = .returned (.int .i64 q) ∧ decide (q < 0) = !szB r ∧ Below w.heap.size w w' := by
  obtain ⟨al, kl, el⟩ := h.ln.sl
  obtain ⟨ac, kc, ec⟩ := h.cq.sl
  obtain ⟨am, km, em⟩ := h.rm.sl
  obtain ⟨vl, vc, vm, qs⟩ := a
  simp only at el ec em
  subst el ec em
  have HX : Hid (LBx w (w.alloc (.cells #[.slice al r.ls.length kl, .slice ac qs.length kc, .slice am r.ms.length km] 26)) r ⟨.slice al r.ls.length kl, .slice ac qs.length kc, .slice am r.ms.length km, qs⟩) := LBx.new h
  have hnn := totC_nn r.cs
  obtain ⟨l0, hl0⟩ : ∃ l : Int, l = 1048576 := ⟨_, rfl⟩
  rw [← hl0]
  have HZ1 : Hid _ := fun w' => szLNS_any al r.ls.length kl l0 w' (by omega) (by omega) hm.l
  have HM : Hid (RMax r) := hm
  unfold rtA
  simp only
  by_cases t1 : l0 < (r.ls.length : Int)
  · rw [if_pos t1] at HZ1
    have HD : Hid (decide ((-1 : Int) < 0) = !szB r) := (show decide ((-1 : Int) < 0) = !szB r by unfold szB; rw [decide_eq_false (show ¬ (r.ls.length : Int) + ((r.cs.length : Int) + totC r.cs) + r.ms.length ≤ 1048576 by omega)]; rfl)
    clear hnn hm h hl0
    go_enter Try.func5, Try.ntmps5
    go_wp2_with (go_at_call 15; refine Calls.mono (HZ1.out _) ?_; rintro e u1 ⟨rfl, hu1⟩; rw [hu1]; clear hu1)
    go_ret
    exact ⟨_, rfl, HD.out, HX.out.bel⟩
  · rw [if_neg t1] at HZ1
    obtain ⟨l2, hl2⟩ : ∃ l2 : Int, l2 = l0 - r.ls.length := ⟨_, rfl⟩
    rw [← hl2] at HZ1
    have g2 : ¬ l2 < 0 := by omega
    have HZ2 : Hid _ := szCpuS_any HX.out.row.cq HX.out.row.cp l2 (by omega) (by omega) hm.c hm.e _ rfl
    simp only at HZ2
    by_cases t2 : l2 < (r.cs.length : Int) + totC r.cs
    · rw [if_pos t2] at HZ2
      have HD : Hid (decide ((-1 : Int) < 0) = !szB r) := (show decide ((-1 : Int) < 0) = !szB r by unfold szB; rw [decide_eq_false (show ¬ (r.ls.length : Int) + ((r.cs.length : Int) + totC r.cs) + r.ms.length ≤ 1048576 by omega)]; rfl)
      clear hnn hm h hl0 hl2
      go_enter Try.func5, Try.ntmps5
      go_wp2_with (first | (go_at_call 15; refine Calls.mono (HZ1.out _) ?_; rintro e u1 ⟨rfl, hu1⟩; rw [hu1]; clear hu1) | (go_at_call 16; refine Calls.mono HZ2.out ?_; rintro e u2 ⟨rfl, hu2⟩; have HX2 : Hid (LBx w u2 r ⟨.slice al r.ls.length kl, .slice ac qs.length kc, .slice am r.ms.length km, qs⟩) := HX.out.step hu2; clear hu2))
      go_ret
      exact ⟨_, rfl, HD.out, HX2.out.bel⟩
    · rw [if_neg t2] at HZ2
      obtain ⟨l3, hl3⟩ : ∃ l3 : Int, l3 = l2 - ((r.cs.length : Int) + totC r.cs) := ⟨_, rfl⟩
      rw [← hl3] at HZ2
      have g3 : ¬ l3 < 0 := by omega
      have HZ3 : Hid _ := fun w' => szRMS_any am r.ms.length km l3 w' (by omega) (by omega) hm.m
      by_cases t3 : l3 < (r.ms.length : Int)
      · rw [if_pos t3] at HZ3
        have HD : Hid (decide ((-1 : Int) < 0) = !szB r) := (show decide ((-1 : Int) < 0) = !szB r by unfold szB; rw [decide_eq_false (show ¬ (r.ls.length : Int) + ((r.cs.length : Int) + totC r.cs) + r.ms.length ≤ 1048576 by omega)]; rfl)
        clear hnn hm h hl0 hl2 hl3
        go_enter Try.func5, Try.ntmps5
        go_wp2_with (first | (go_at_call 15; refine Calls.mono (HZ1.out _) ?_; rintro e u1 ⟨rfl, hu1⟩; rw [hu1]; clear hu1) | (go_at_call 16; refine Calls.mono HZ2.out ?_; rintro e u2 ⟨rfl, hu2⟩; have HX2 : Hid (LBx w u2 r ⟨.slice al r.ls.length kl, .slice ac qs.length kc, .slice am r.ms.length km, qs⟩) := HX.out.step hu2; obtain ⟨c0, c1, c2⟩ := HX2.out.cel; simp only at c0 c1 c2; clear hu2) | (go_at_call 17; refine Calls.mono (HZ3.out _) ?_; rintro e u3 ⟨rfl, hu3⟩; rw [hu3]; clear hu3))
        go_ret
        exact ⟨_, rfl, HD.out, HX2.out.bel⟩
      · rw [if_neg t3] at HZ3
        obtain ⟨l4, hl4⟩ : ∃ l4 : Int, l4 = l3 - r.ms.length := ⟨_, rfl⟩
        rw [← hl4] at HZ3
        have g4 : ¬ l4 < 0 := by omega
        have HD : Hid (decide (l4 < 0) = !szB r) := (show decide (l4 < 0) = !szB r by unfold szB; rw [decide_eq_true (show (r.ls.length : Int) + ((r.cs.length : Int) + totC r.cs) + r.ms.length ≤ 1048576 by omega), decide_eq_false g4]; rfl)
        clear hnn hm h hl0 hl2 hl3 hl4
        go_enter Try.func5, Try.ntmps5
        go_wp2_with (first | (go_at_call 15; refine Calls.mono (HZ1.out _) ?_; rintro e u1 ⟨rfl, hu1⟩; rw [hu1]; clear hu1) | (go_at_call 16; refine Calls.mono HZ2.out ?_; rintro e u2 ⟨rfl, hu2⟩; have HX2 : Hid (LBx w u2 r ⟨.slice al r.ls.length kl, .slice ac qs.length kc, .slice am r.ms.length km, qs⟩) := HX.out.step hu2; obtain ⟨c0, c1, c2⟩ := HX2.out.cel; simp only at c0 c1 c2; clear hu2) | (go_at_call 17; refine Calls.mono (HZ3.out _) ?_; rintro e u3 ⟨rfl, hu3⟩; rw [hu3]; clear hu3))
        go_ret
        exact ⟨_, rfl, HD.out, HX2.out.bel⟩
end Go.Proofs.Ytefeahilamiiaaa
