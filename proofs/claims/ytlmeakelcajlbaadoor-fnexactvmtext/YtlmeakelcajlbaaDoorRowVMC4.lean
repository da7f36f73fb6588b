import Derived.Test.YtlmeakelcajlbaaDoorRowVMC3
import Derived.Deep.Slices
namespace Go.Proofs.YtlmeakelcajlbaaDoor
open Go.ChangeShapes Go.WideShapes Go.ChangeAt Go.RowKit

theorem cVMC : Tryd.prog.cellsOf 23 = 8 := by kernel_rfl
theorem ciVMC : Tryd.prog.cellsOf 2 = 1 := by kernel_rfl
theorem csVMC : Tryd.prog.cellsOf 9 = 1 := by kernel_rfl
theorem listVMC {α : Type} {cs : List α} (h : cs.length = 8) : ∃ x0 x1 x2 x3 x4 x5 x6 x7, cs = [x0, x1, x2, x3, x4, x5, x6, x7] := by
  match cs, h with
  | [x0, x1, x2, x3, x4, x5, x6, x7], _ => exact ⟨x0, x1, x2, x3, x4, x5, x6, x7, rfl⟩
theorem vmc_one {H : Type} {enc : TypeId × Value → H} {W : World} {fuel : Nat} {cs : List Value} {x : DataW H × List MemPlace} (h : DataW.trod enc Tryd.prog W 0 (fun _ => true) true fuel 23 cs = some x) : ∃ z : VMC, cs = vmcC z ∧ z.name.size ≤ maxLen ∧ z.node.size ≤ maxLen := by
  obtain ⟨xs, m, _, hx, hl, hlen, hel⟩ := DataW.trod_struct Tryd.underlying23 h
  obtain ⟨x0, x1, x2, x3, x4, x5, x6, x7, rfl⟩ := listVMC (hl.trans cVMC)
  match xs, hlen, hel, hx with
  | [y0, y1, y2, y3, y4, y5, y6, y7], _, hel, hx =>
    have g0 := hel 0 _ rfl
    have g1 := hel 1 _ rfl
    have g2 := hel 2 _ rfl
    have g3 := hel 3 _ rfl
    have g4 := hel 4 _ rfl
    have g5 := hel 5 _ rfl
    have g6 := hel 6 _ rfl
    have g7 := hel 7 _ rfl
    obtain ⟨a0, e0, _, w0⟩ := DataW.trod_string Tryd.underlying9 g0
    obtain ⟨a1, e1, _, _⟩ := DataW.trod_int Tryd.underlying2 g1
    obtain ⟨a2, e2, _, _⟩ := DataW.trod_int Tryd.underlying2 g2
    obtain ⟨a3, e3, _, _⟩ := DataW.trod_int Tryd.underlying2 g3
    obtain ⟨a4, e4, _, _⟩ := DataW.trod_int Tryd.underlying2 g4
    obtain ⟨a5, e5, _, _⟩ := DataW.trod_int Tryd.underlying2 g5
    obtain ⟨a6, e6, _, w6⟩ := DataW.trod_string Tryd.underlying9 g6
    obtain ⟨a7, e7, _, _⟩ := DataW.trod_int Tryd.underlying2 g7
    simp [ciVMC, csVMC] at e0 e1 e2 e3 e4 e5 e6 e7
    subst e0 e1 e2 e3 e4 e5 e6 e7
    exact ⟨⟨a0, a1, a2, a3, a4, a5, a6, a7⟩, rfl, w0, w6⟩
instance : Inhabited VMC := ⟨vmc0⟩
end Go.Proofs.YtlmeakelcajlbaaDoor
