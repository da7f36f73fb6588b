import Derived.Test.YtfagohdmepnkkaaPk0
namespace Go.Proofs.Ytfagohdmepnkkaa
open Go.ChangeShapes Go.WideShapes Go.ChangeAt Go.RowKit

/-- A packed queue. -/
structure PV where
  size : Int
  ring : Int
  pos : Int
  wrap : Bool
def pA (p : PV) : Value := .agg #[.int .i64 p.size, .int .i64 p.ring, .int .i64 p.pos, .bool p.wrap]
def pC (p : PV) : Array Value := #[.int .i64 p.size, .int .i64 p.ring, .int .i64 p.pos, .bool p.wrap]
def pOk (s : ByteArray) (p : PV) : Bool := memOk s && decide (1 ≤ p.size ∧ p.size ≤ 16) && decide (0 ≤ p.pos ∧ p.pos < p.size) && tbB s.size p.ring (p.size * 16)
def pF (s : ByteArray) (p : PV) : Int := if pOk s p = true then 0 else 1
theorem pF_no {s : ByteArray} {q : PV} (h : pOk s q = false) : pF s q = 1 := by unfold pF; rw [h]; rfl
theorem pF_ok {s : ByteArray} {q : PV} (h : pOk s q = true) : pF s q = 0 := by unfold pF; rw [h]; rfl
set_option maxRecDepth 100000 in
set_option maxHeartbeats 4000000 in
theorem implPackedFault_any (s : ByteArray) (p : PV) (w : World) (hs : s.size ≤ 1048576) :
    Calls Try.prog 106 #[.string s, pA p] w fun e w' => e = .returned (.int .i64 (pF s p)) ∧ Below w.heap.size w w' := by
  have HM : Hid _ := fun u => implMemFault_any s u (by omega)
  obtain ⟨sz, rg, ps, wr⟩ := p
  cases hm : memOk s
  · rw [memC_no hm] at HM
    have E : Hid (pF s ⟨sz, rg, ps, wr⟩ = 1) := pF_no (show pOk _ _ = _ by simp [pOk, hm])
    clear hm
    unfold pA
    go_enter Try.func106, Try.ntmps106
    go_wp2_with (first | (go_at_call 43; refine Calls.mono (HM.out _) ?_; rintro e u1 ⟨rfl, hu1⟩; rw [hu1]; clear hu1))
    go_ret
    exact ⟨ret_int E.out.symm, bx1 _ _⟩
  rw [memC_ok hm] at HM
  by_cases g1 : sz < 1
  · have E : Hid (pF s ⟨sz, rg, ps, wr⟩ = 1) := pF_no (show pOk _ _ = _ by have c : decide (1 ≤ sz ∧ sz ≤ 16) = false := decide_eq_false (by omega); simp only [pOk, c]; simp)
    clear hm
    unfold pA
    go_enter Try.func106, Try.ntmps106
    go_wp2_with (first | (go_at_call 43; refine Calls.mono (HM.out _) ?_; rintro e u1 ⟨rfl, hu1⟩; rw [hu1]; clear hu1))
    go_ret
    exact ⟨ret_int E.out.symm, bx1 _ _⟩
  by_cases g2 : 16 < sz
  · have E : Hid (pF s ⟨sz, rg, ps, wr⟩ = 1) := pF_no (show pOk _ _ = _ by have c : decide (1 ≤ sz ∧ sz ≤ 16) = false := decide_eq_false (by omega); simp only [pOk, c]; simp)
    clear hm
    unfold pA
    go_enter Try.func106, Try.ntmps106
    go_wp2_with (first | (go_at_call 43; refine Calls.mono (HM.out _) ?_; rintro e u1 ⟨rfl, hu1⟩; rw [hu1]; clear hu1))
    go_ret
    exact ⟨ret_int E.out.symm, bx1 _ _⟩
  have c1 : decide (1 ≤ sz ∧ sz ≤ 16) = true := decide_eq_true (by omega)
  by_cases g3 : ps < 0
  · have E : Hid (pF s ⟨sz, rg, ps, wr⟩ = 1) := pF_no (show pOk _ _ = _ by have c : decide (0 ≤ ps ∧ ps < sz) = false := decide_eq_false (by omega); simp only [pOk, c]; simp)
    clear hm c1
    unfold pA
    go_enter Try.func106, Try.ntmps106
    go_wp2_with (first | (go_at_call 43; refine Calls.mono (HM.out _) ?_; rintro e u1 ⟨rfl, hu1⟩; rw [hu1]; clear hu1))
    go_ret
    exact ⟨ret_int E.out.symm, bx1 _ _⟩
  by_cases g4 : sz ≤ ps
  · have E : Hid (pF s ⟨sz, rg, ps, wr⟩ = 1) := pF_no (show pOk _ _ = _ by have c : decide (0 ≤ ps ∧ ps < sz) = false := decide_eq_false (by omega); simp only [pOk, c]; simp)
    clear hm c1
    unfold pA
    go_enter Try.func106, Try.ntmps106
    go_wp2_with (first | (go_at_call 43; refine Calls.mono (HM.out _) ?_; rintro e u1 ⟨rfl, hu1⟩; rw [hu1]; clear hu1))
    go_ret
    exact ⟨ret_int E.out.symm, bx1 _ _⟩
  have c2 : decide (0 ≤ ps ∧ ps < sz) = true := decide_eq_true (by omega)
  have HT : Hid _ := fun u => holdsTable_any s rg (sz * 16) u hs (by unfold i64B; omega)
  cases k : tbB s.size rg (sz * 16)
  · rw [k] at HT
    have E : Hid (pF s ⟨sz, rg, ps, wr⟩ = 1) := pF_no (show pOk _ _ = _ by simp [pOk, k])
    clear hm c1 c2 k
    unfold pA
    go_enter Try.func106, Try.ntmps106
    go_wp2_with (first | (go_at_call 43; refine Calls.mono (HM.out _) ?_; rintro e u1 ⟨rfl, hu1⟩; rw [hu1]; clear hu1) | (go_at_call 123; refine Calls.mono (HT.out _) ?_; rintro e u1 ⟨rfl, hu1⟩; rw [hu1]; clear hu1))
    go_ret
    exact ⟨ret_int E.out.symm, bx1 _ _⟩
  rw [k] at HT
  have E : Hid (pF s ⟨sz, rg, ps, wr⟩ = 0) := pF_ok (show pOk _ _ = _ by simp only [pOk, hm, c1, c2, k]; rfl)
  clear hm c1 c2 k
  unfold pA
  go_enter Try.func106, Try.ntmps106
  go_wp2_with (first | (go_at_call 43; refine Calls.mono (HM.out _) ?_; rintro e u1 ⟨rfl, hu1⟩; rw [hu1]; clear hu1) | (go_at_call 123; refine Calls.mono (HT.out _) ?_; rintro e u1 ⟨rfl, hu1⟩; rw [hu1]; clear hu1))
  go_ret
  exact ⟨ret_int E.out.symm, bx1 _ _⟩
set_option maxRecDepth 100000 in
set_option maxHeartbeats 4000000 in
theorem specPackedFault_any (s : ByteArray) (p : PV) (w : World) (hs : s.size ≤ 1048576) :
    Calls Try.prog 64 #[.string s, pA p] w fun e w' => e = .returned (.int .i64 (pF s p)) ∧ Below w.heap.size w w' := by
  have HM : Hid _ := fun u => specMemFault_any s u (by omega)
  obtain ⟨sz, rg, ps, wr⟩ := p
  cases hm : memOk s
  · rw [memC_no hm] at HM
    have E : Hid (pF s ⟨sz, rg, ps, wr⟩ = 1) := pF_no (show pOk _ _ = _ by simp [pOk, hm])
    clear hm
    unfold pA
    go_enter Try.func64, Try.ntmps64
    go_wp2_with (first | (go_at_call 36; refine Calls.mono (HM.out _) ?_; rintro e u1 ⟨rfl, hu1⟩; rw [hu1]; clear hu1))
    go_ret
    exact ⟨ret_int E.out.symm, bx1 _ _⟩
  rw [memC_ok hm] at HM
  by_cases g1 : sz < 1
  · have E : Hid (pF s ⟨sz, rg, ps, wr⟩ = 1) := pF_no (show pOk _ _ = _ by have c : decide (1 ≤ sz ∧ sz ≤ 16) = false := decide_eq_false (by omega); simp only [pOk, c]; simp)
    clear hm
    unfold pA
    go_enter Try.func64, Try.ntmps64
    go_wp2_with (first | (go_at_call 36; refine Calls.mono (HM.out _) ?_; rintro e u1 ⟨rfl, hu1⟩; rw [hu1]; clear hu1))
    go_ret
    exact ⟨ret_int E.out.symm, bx1 _ _⟩
  by_cases g2 : 16 < sz
  · have E : Hid (pF s ⟨sz, rg, ps, wr⟩ = 1) := pF_no (show pOk _ _ = _ by have c : decide (1 ≤ sz ∧ sz ≤ 16) = false := decide_eq_false (by omega); simp only [pOk, c]; simp)
    clear hm
    unfold pA
    go_enter Try.func64, Try.ntmps64
    go_wp2_with (first | (go_at_call 36; refine Calls.mono (HM.out _) ?_; rintro e u1 ⟨rfl, hu1⟩; rw [hu1]; clear hu1))
    go_ret
    exact ⟨ret_int E.out.symm, bx1 _ _⟩
  have c1 : decide (1 ≤ sz ∧ sz ≤ 16) = true := decide_eq_true (by omega)
  rcases (Decidable.em (rg % 4 = 0)).symm with g5 | g5
  · have t1 : (rg.tmod 4 != 0) = true := by rw [tmod4n]; simp [g5]
    have E : Hid (pF s ⟨sz, rg, ps, wr⟩ = 1) := pF_no (show pOk _ _ = _ by simp [pOk, tbB, g5])
    clear hm c1 g5
    unfold pA
    go_enter Try.func64, Try.ntmps64
    go_wp2_with (first | (go_at_call 36; refine Calls.mono (HM.out _) ?_; rintro e u1 ⟨rfl, hu1⟩; rw [hu1]; clear hu1))
    go_ret
    exact ⟨ret_int E.out.symm, bx1 _ _⟩
  have t1 : (rg.tmod 4 != 0) = false := by rw [tmod4n]; simp [g5]
  have HT : Hid _ := fun u => l10In_any s rg (16 * sz) u hs
  have e1 : 16 * sz = sz * 16 := by omega
  rw [e1] at HT
  cases k : inW s.size rg (sz * 16)
  · rw [k, ← e1] at HT
    have E : Hid (pF s ⟨sz, rg, ps, wr⟩ = 1) := pF_no (show pOk _ _ = _ by simp [pOk, tbB, k])
    clear hm c1 k e1 g5
    unfold pA
    go_enter Try.func64, Try.ntmps64
    go_wp2_with (first | (go_at_call 36; refine Calls.mono (HM.out _) ?_; rintro e u1 ⟨rfl, hu1⟩; rw [hu1]; clear hu1) | (go_at_call 105; refine Calls.mono (HT.out _) ?_; rintro e u1 ⟨rfl, hu1⟩; rw [hu1]; clear hu1))
    go_ret
    exact ⟨ret_int E.out.symm, bx1 _ _⟩
  rw [k, ← e1] at HT
  clear e1
  by_cases g3 : ps < 0
  · have E : Hid (pF s ⟨sz, rg, ps, wr⟩ = 1) := pF_no (show pOk _ _ = _ by have c : decide (0 ≤ ps ∧ ps < sz) = false := decide_eq_false (by omega); simp only [pOk, c]; simp)
    clear hm c1 k g5
    unfold pA
    go_enter Try.func64, Try.ntmps64
    go_wp2_with (first | (go_at_call 36; refine Calls.mono (HM.out _) ?_; rintro e u1 ⟨rfl, hu1⟩; rw [hu1]; clear hu1) | (go_at_call 105; refine Calls.mono (HT.out _) ?_; rintro e u1 ⟨rfl, hu1⟩; rw [hu1]; clear hu1))
    go_ret
    exact ⟨ret_int E.out.symm, bx1 _ _⟩
  by_cases g4 : sz ≤ ps
  · have E : Hid (pF s ⟨sz, rg, ps, wr⟩ = 1) := pF_no (show pOk _ _ = _ by have c : decide (0 ≤ ps ∧ ps < sz) = false := decide_eq_false (by omega); simp only [pOk, c]; simp)
    clear hm c1 k g5
    unfold pA
    go_enter Try.func64, Try.ntmps64
    go_wp2_with (first | (go_at_call 36; refine Calls.mono (HM.out _) ?_; rintro e u1 ⟨rfl, hu1⟩; rw [hu1]; clear hu1) | (go_at_call 105; refine Calls.mono (HT.out _) ?_; rintro e u1 ⟨rfl, hu1⟩; rw [hu1]; clear hu1))
    go_ret
    exact ⟨ret_int E.out.symm, bx1 _ _⟩
  have c2 : decide (0 ≤ ps ∧ ps < sz) = true := decide_eq_true (by omega)
  have E : Hid (pF s ⟨sz, rg, ps, wr⟩ = 0) := pF_ok (show pOk _ _ = _ by simp only [pOk, tbB, hm, c1, c2, k]; simp [g5])
  clear hm c1 c2 k g5
  unfold pA
  go_enter Try.func64, Try.ntmps64
  go_wp2_with (first | (go_at_call 36; refine Calls.mono (HM.out _) ?_; rintro e u1 ⟨rfl, hu1⟩; rw [hu1]; clear hu1) | (go_at_call 105; refine Calls.mono (HT.out _) ?_; rintro e u1 ⟨rfl, hu1⟩; rw [hu1]; clear hu1))
  go_ret
  exact ⟨ret_int E.out.symm, bx1 _ _⟩
end Go.Proofs.Ytfagohdmepnkkaa
