import Derived.Test.YtfagohdmepnkkaaPk1
import Derived.WalkKit
import Derived.ProofKit
import Derived.OpenShut
namespace Go.Proofs.Ytfagohdmepnkkaa
open Go.ChangeShapes Go.WideShapes Go.ChangeAt Go.RowKit

theorem cPV : Try.prog.cellsOf 44 = 4 := by kernel_rfl
theorem ciPV : Try.prog.cellsOf 2 = 1 := by kernel_rfl
theorem cbPV : Try.prog.cellsOf 4 = 1 := by kernel_rfl
theorem listPV {cs : Array Value} (h : cs.size = 4) : ∃ x0 x1 x2 x3, cs = #[x0, x1, x2, x3] := by
  obtain ⟨l⟩ := cs
  match l, h with
  | [x0, x1, x2, x3], _ => exact ⟨x0, x1, x2, x3, rfl⟩
set_option maxRecDepth 100000 in
theorem open_p {H : Type} {enc : TypeId × Value → H} {W : World} {base : Nat} {v : Value} {d : DataW H} {p : List MemPlace} (hv : Value.okWide Try.prog W .any base 44 v)
    (h : DataW.Trod enc Try.prog W 0 (fun _ => true) true 44 v d p) : ∃ z : PV, v = pA z := by
  obtain ⟨cs, rfl, hsz⟩ := okWide_struct Try.underlying44 hv
  obtain ⟨x0, x1, x2, x3, rfl⟩ := listPV (hsz.trans cPV)
  obtain ⟨fuel, hf⟩ := h
  obtain ⟨xs, n, _, hx, _, hlen, hel⟩ := DataW.trod_struct Try.underlying44 hf
  match xs, hlen, hel with
  | [y0, y1, y2, y3], _, hel =>
    have g0 := hel 0 _ rfl
    have g1 := hel 1 _ rfl
    have g2 := hel 2 _ rfl
    have g3 := hel 3 _ rfl
    simp only [Value.cells] at g0 g1 g2 g3
    obtain ⟨a0, e0, _⟩ := DataW.trod_int Try.underlying2 g0
    obtain ⟨a1, e1, _⟩ := DataW.trod_int Try.underlying2 g1
    obtain ⟨a2, e2, _⟩ := DataW.trod_int Try.underlying2 g2
    obtain ⟨a3, e3, _⟩ := DataW.trod_bool Try.underlying4 g3
    simp [ciPV, cbPV] at e0 e1 e2 e3
    subst e0 e1 e2 e3
    exact ⟨⟨a0, a1, a2, a3⟩, rfl⟩
set_option maxRecDepth 100000 in
set_option maxHeartbeats 4000000 in
theorem toPacked_any (z : PV) (w : World) : Calls Try.prog 24 #[pA z] w fun e w' => e = .returned (pA z) ∧ Below w.heap.size w w' := by
  unfold pA
  go_enter Try.func24, Try.ntmps24
  go_wp2
  refine bodyPost_ret (v := .agg #[.int .i64 z.size, .int .i64 z.ring, .int .i64 z.pos, .bool z.wrap]) ?_ rfl ⟨rfl, (((Below.refl _ _).alloc (Nat.le_refl _) _).alloc (by simp) _).alloc (by simp; omega) _⟩
  simp only [results, Try.results24, go_sem]
  simp [go_sem]
end Go.Proofs.Ytfagohdmepnkkaa
