import Derived.Test.YtegcbghhcidcaaaDoorEr1
import Derived.Test.YtegcbghhcidcaaaDoorRowTM4
namespace Go.Proofs.YtegcbghhcidcaaaDoor
open Go.ChangeShapes Go.WideShapes Go.ChangeAt Go.RowKit

/-- The errors that the program names. -/
structure E5 (w : World) (a : Nat → Addr) : Prop where
  sz : 5 ≤ w.heap.size
  g0 : w.cell? ⟨0, 0, none⟩ = some (eV (a 0))
  g1 : w.cell? ⟨1, 0, none⟩ = some (eV (a 1))
  g2 : w.cell? ⟨2, 0, none⟩ = some (eV (a 2))
  g3 : w.cell? ⟨3, 0, none⟩ = some (eV (a 3))
  g4 : w.cell? ⟨4, 0, none⟩ = some (eV (a 4))
theorem E5.step {w w' : World} {a : Nat → Addr} (h : E5 w a) (hb : Below w.heap.size w w') : E5 w' a := by
  have := h.sz
  refine ⟨Nat.le_trans h.sz hb.size, ?_, ?_, ?_, ?_, ?_⟩
  · exact (hb.cell (p := ⟨0, 0, none⟩) (by simp only; omega)).trans h.g0
  · exact (hb.cell (p := ⟨1, 0, none⟩) (by simp only; omega)).trans h.g1
  · exact (hb.cell (p := ⟨2, 0, none⟩) (by simp only; omega)).trans h.g2
  · exact (hb.cell (p := ⟨3, 0, none⟩) (by simp only; omega)).trans h.g3
  · exact (hb.cell (p := ⟨4, 0, none⟩) (by simp only; omega)).trans h.g4
set_option maxRecDepth 100000 in
set_option maxHeartbeats 4000000 in
theorem codeOf_nil {w : World} {a : Nat → Addr} (h : E5 w a) : Calls Tryd.prog 14 #[.nilIface] w fun e w' => e = .returned (.int .i64 0) ∧ w' = w := by
  obtain ⟨sz, g0, g1, g2, g3, g4⟩ := h
  have HN : Hid (∀ (b : Addr) (u : World), Calls Tryd.prog 25 #[.nilIface, .iface 100 (.pointer (some b))] u fun e w' => e = .returned (.bool false) ∧ w' = u) := fun b u => isNil_any b u
  unfold eV at g0 g1 g2 g3 g4
  have z0 : 0 < w.heap.size := by omega
  have z1 : 1 < w.heap.size := by omega
  have z2 : 2 < w.heap.size := by omega
  have z3 : 3 < w.heap.size := by omega
  have z4 : 4 < w.heap.size := by omega
  go_enter Tryd.func14, Tryd.ntmps14
  go_wp2_with (go_at_call 25; refine Calls.mono (HN.out _ _) ?_; rintro e u1 ⟨rfl, hu1⟩; rw [hu1]; clear hu1)
  go_ret
  exact ⟨rfl, rfl⟩
def tmB (t : Int) : Bool := decide (0 ≤ t) && decide (t ≤ 1099511627776)
def rtB (n d : Int) : Bool := decide (0 ≤ n) && decide (n ≤ 1000) && decide (1 ≤ d) && decide (d ≤ 1000)
def plB (p : Int) : Bool := decide (1 ≤ p) && decide (p ≤ 3)
def tiB (z : TM) : Bool := decide (0 ≤ z.due) && decide (z.due ≤ 2199023255552) && tmB z.period && plB z.policy
theorem isTime_any (t : Int) (w : World) : Calls Tryd.prog 22 #[.int .i64 t] w fun e w' => e = .returned (.bool (tmB t)) ∧ w' = w := by
  unfold tmB
  go_enter Tryd.func22, Tryd.ntmps22
  go_wp2
  all_goals go_ret
  all_goals refine ⟨ret_bool ?_, rfl⟩
  all_goals first | rfl | (simp; omega)
theorem isRate_any (n d : Int) (w : World) : Calls Tryd.prog 23 #[.int .i64 n, .int .i64 d] w fun e w' => e = .returned (.bool (rtB n d)) ∧ w' = w := by
  unfold rtB
  go_enter Tryd.func23, Tryd.ntmps23
  go_wp2
  all_goals go_ret
  all_goals refine ⟨ret_bool ?_, rfl⟩
  all_goals first | rfl | (simp; omega)
theorem l09Rate_any (n d : Int) (w : World) : Calls Tryd.prog 11 #[.int .i64 n, .int .i64 d] w fun e w' => e = .returned (.bool (rtB n d)) ∧ w' = w := by
  unfold rtB
  go_enter Tryd.func11, Tryd.ntmps11
  go_wp2
  all_goals go_ret
  all_goals refine ⟨ret_bool ?_, rfl⟩
  all_goals first | rfl | (simp; omega)
theorem isPolicy_any (p : Int) (w : World) : Calls Tryd.prog 28 #[.int .i64 p] w fun e w' => e = .returned (.bool (plB p)) ∧ w' = w := by
  unfold plB
  go_enter Tryd.func28, Tryd.ntmps28
  go_wp2
  all_goals go_ret
  all_goals refine ⟨ret_bool ?_, rfl⟩
  all_goals first | rfl | (simp; omega) | (subst_vars; rfl) | (rw [Bool.eq_iff_iff]; simp; omega) | trace_state
end Go.Proofs.YtegcbghhcidcaaaDoor
