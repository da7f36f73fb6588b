import Derived.Test.YtggciigjhlbhhaaRd2
import Derived.Test.YtggciigjhlbhhaaDe3
import Derived.Laws.StructEq
namespace Go.Proofs.Ytggciigjhlbhhaa
open Go.ChangeShapes Go.WideShapes Go.ChangeAt Go.RowKit

/-- A descriptor is the device's in this round. -/
def rdyB (wr : Bool) (d : DV) : Bool := (d.avail == wr) && (d.used == !wr)
theorem uTN : Try.prog.underlying 66 = some (.struct (Try.prog.fieldsOf 66)) := by kernel_rfl
theorem stTN : Try.prog.stoodInHeld 66 = false := by kernel_rfl
theorem pb0 (a b : Bool) (w : World) : (part 4 #[.bool a, .bool b] 0).run Try.prog w = .ok (.bool a) w := by kernel_rfl
theorem pb1 (a b : Bool) (w : World) : (part 4 #[.bool a, .bool b] 1).run Try.prog w = .ok (.bool b) w := by kernel_rfl
theorem fTN : (Try.prog.fieldsOf 66).toList.map (fun f => (f.name == "_", f.type, f.offset)) = [(false, 4, 0), (false, 4, 1)] := by kernel_rfl
theorem listF2 {α : Type} {cs : List α} (h : cs.length = 2) : ∃ x y, cs = [x, y] := by
  match cs, h with
  | [x, y], _ => exact ⟨x, y, rfl⟩
theorem eqTurnN (n : Nat) (a b c d : Bool) (w : World) : (Op.equalIn (n + 2) 66 (.agg #[.bool a, .bool b]) (.agg #[.bool c, .bool d])).run Try.prog w = .ok (a == c && b == d) w := by
  rw [run_equalIn_struct w (n + 1) 66 _ _ uTN stTN]
  have hf := fTN
  obtain ⟨f1, f2, hq⟩ := listF2 (show (Try.prog.fieldsOf 66).toList.length = 2 by kernel_rfl)
  rw [hq] at hf ⊢
  simp only [List.map_cons, List.map_nil, List.cons.injEq, Prod.mk.injEq, and_true] at hf
  obtain ⟨⟨n1, t1, o1⟩, n2, t2, o2⟩ := hf
  have m1 : f1.name ≠ "_" := by simpa using n1
  have m2 : f2.name ≠ "_" := by simpa using n2
  simp only [Op.eqFields, ne_eq, m1, m2, not_false_eq_true, if_true, t1, o1, t2, o2, Sem.run_bind, pb0, pb1, Result.andThen_ok, run_equalIn_bool' w n 4 _ _ Try.underlying4, Sem.run_ite, Sem.run_pure]
  cases hac : a == c <;> cases hbd : b == d <;> simp
theorem eqTurn (a b c d : Bool) (w : World) : (binOp .eql 66 (.agg #[.bool a, .bool b]) (.agg #[.bool c, .bool d])).run Try.prog w = .ok (.bool (a == c && b == d)) w := by
  rw [run_eql_struct, eqTurnN 9998]
  rfl
set_option maxRecDepth 100000 in
set_option maxHeartbeats 4000000 in
theorem isReady_any (p : PV) (d : DV) (w : World) : Calls Try.prog 55 #[pA p, dA d] w fun e w' => e = .returned (.bool (rdyB p.wrap d)) ∧ Below w.heap.size w w' := by
  obtain ⟨S, R, P, W⟩ := p
  obtain ⟨d1, d2, d3, d4, d5, av, us, d8⟩ := d
  unfold pA dA rdyB
  have hE := fun u => eqTurn av us W (!W) u
  generalize (av == W && us == !W) = Z at *
  simp only
  go_enter Try.func55, Try.ntmps55
  go_wp2_with fail
  go_ret
  exact ⟨rfl, (bx1 _ _).alloc (by simp) _⟩
end Go.Proofs.Ytggciigjhlbhhaa
