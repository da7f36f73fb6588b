import Derived.Test.YtggciigjhlbhhaaQu2
import Derived.WalkKit
import Derived.ProofKit
import Derived.OpenShut
namespace Go.Proofs.Ytggciigjhlbhhaa
open Go.ChangeShapes Go.WideShapes Go.ChangeAt Go.RowKit

theorem cQV : Try.prog.cellsOf 23 = 6 := by kernel_rfl
theorem ciQV : Try.prog.cellsOf 2 = 1 := by kernel_rfl
theorem listQV {cs : Array Value} (h : cs.size = 6) : ∃ x0 x1 x2 x3 x4 x5, cs = #[x0, x1, x2, x3, x4, x5] := by
  obtain ⟨l⟩ := cs
  match l, h with
  | [x0, x1, x2, x3, x4, x5], _ => exact ⟨x0, x1, x2, x3, x4, x5, rfl⟩
set_option maxRecDepth 100000 in
theorem open_q {H : Type} {enc : TypeId × Value → H} {W : World} {base : Nat} {v : Value} {d : DataW H} {p : List MemPlace} (hv : Value.okWide Try.prog W .any base 23 v)
    (h : DataW.Trod enc Try.prog W 0 (fun _ => true) true 23 v d p) : ∃ z : QV, v = qA z := by
  obtain ⟨cs, rfl, hsz⟩ := okWide_struct Try.underlying23 hv
  obtain ⟨x0, x1, x2, x3, x4, x5, rfl⟩ := listQV (hsz.trans cQV)
  obtain ⟨fuel, hf⟩ := h
  obtain ⟨xs, n, _, hx, _, hlen, hel⟩ := DataW.trod_struct Try.underlying23 hf
  match xs, hlen, hel with
  | [y0, y1, y2, y3, y4, y5], _, hel =>
    have g0 := hel 0 _ rfl
    have g1 := hel 1 _ rfl
    have g2 := hel 2 _ rfl
    have g3 := hel 3 _ rfl
    have g4 := hel 4 _ rfl
    have g5 := hel 5 _ rfl
    simp only [Value.cells] at g0 g1 g2 g3 g4 g5
    obtain ⟨a0, e0, _⟩ := DataW.trod_int Try.underlying2 g0
    obtain ⟨a1, e1, _⟩ := DataW.trod_int Try.underlying2 g1
    obtain ⟨a2, e2, _⟩ := DataW.trod_int Try.underlying2 g2
    obtain ⟨a3, e3, _⟩ := DataW.trod_int Try.underlying2 g3
    obtain ⟨a4, e4, _⟩ := DataW.trod_int Try.underlying2 g4
    obtain ⟨a5, e5, _⟩ := DataW.trod_int Try.underlying2 g5
    simp [ciQV] at e0 e1 e2 e3 e4 e5
    subst e0 e1 e2 e3 e4 e5
    exact ⟨⟨a0, a1, a2, a3, a4, a5⟩, rfl⟩
set_option maxRecDepth 100000 in
set_option maxHeartbeats 4000000 in
theorem toQueue_any (z : QV) (w : World) : Calls Try.prog 7 #[qA z] w fun e w' => e = .returned (qA z) ∧ Below w.heap.size w w' := by
  unfold qA
  go_enter Try.func7, Try.ntmps7
  go_wp2
  refine bodyPost_ret (v := .agg #[.int .i64 z.size, .int .i64 z.desc, .int .i64 z.avail, .int .i64 z.used, .int .i64 z.taken, .int .i64 z.given]) ?_ rfl ⟨rfl, (((Below.refl _ _).alloc (Nat.le_refl _) _).alloc (by simp) _).alloc (by simp; omega) _⟩
  simp only [results, Try.results7, go_sem]
  simp [go_sem]
end Go.Proofs.Ytggciigjhlbhhaa
