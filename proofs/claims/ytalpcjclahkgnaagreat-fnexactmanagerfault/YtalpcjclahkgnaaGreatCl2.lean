import Derived.Test.YtalpcjclahkgnaaGreatCl1
import Derived.Deep.Slices
namespace Go.Proofs.YtalpcjclahkgnaaGreat
open Go.ChangeShapes Go.WideShapes Go.ChangeAt Go.RowKit

theorem cCLT : Tryz.prog.cellsOf 26 = 5 := by kernel_rfl
theorem cCLI : Tryz.prog.cellsOf 2 = 1 := by kernel_rfl
theorem cCLB : Tryz.prog.cellsOf 4 = 1 := by kernel_rfl
theorem cCLnodes : Tryz.prog.cellsOf 22 = 1 := by kernel_rfl
theorem cCLvms : Tryz.prog.cellsOf 23 = 1 := by kernel_rfl
theorem cCLtenants : Tryz.prog.cellsOf 24 = 1 := by kernel_rfl
theorem arrayCL {α : Type} {cs : Array α} (h : cs.size = 5) : ∃ x0 x1 x2 x3 x4, cs = #[x0, x1, x2, x3, x4] := by
  obtain ⟨l⟩ := cs
  match l, h with
  | [x0, x1, x2, x3, x4], _ => exact ⟨x0, x1, x2, x3, x4, rfl⟩
set_option maxRecDepth 100000 in
theorem open_CL {H : Type} {enc : TypeId × Value → H} {W : World} {base : Nat} {v : Value} {d : DataW H} {p : List MemPlace} (hv : Value.okWide Tryz.prog W .any base 26 v)
    (h : DataW.Trod enc Tryz.prog W 0 (fun _ => true) true 26 v d p) : ∃ (s : CL) (a : CA), v = clA s a ∧ CLRows W s a ∧ CLmax s := by
  obtain ⟨cs, rfl, hsz⟩ := okWide_struct Tryz.underlying26 hv
  obtain ⟨x0, x1, x2, x3, x4, rfl⟩ := arrayCL (hsz.trans cCLT)
  obtain ⟨fuel, hf⟩ := h
  obtain ⟨xs, n, _, hx, _, hlen, hel⟩ := DataW.trod_struct Tryz.underlying26 hf
  match xs, hlen, hel, hx with
  | [y0, y1, y2, y3, y4], _, hel, hx =>
    have g0 := hel 0 _ rfl
    have g1 := hel 1 _ rfl
    have g2 := hel 2 _ rfl
    have g3 := hel 3 _ rfl
    have g4 := hel 4 _ rfl
    simp only [Value.cells] at g0 g1 g2 g3 g4
    have j0 : DataW.trod enc Tryz.prog W 0 (fun _ => true) true n 22 [x0] = some y0 := by simpa [cCLnodes, cCLvms, cCLtenants, cCLI] using g0
    obtain ⟨l0, r0, w0⟩ := open_nodS j0
    have j1 : DataW.trod enc Tryz.prog W 0 (fun _ => true) true n 23 [x1] = some y1 := by simpa [cCLnodes, cCLvms, cCLtenants, cCLI] using g1
    obtain ⟨l1, r1, w1⟩ := open_vmcS j1
    have j2 : DataW.trod enc Tryz.prog W 0 (fun _ => true) true n 24 [x2] = some y2 := by simpa [cCLnodes, cCLvms, cCLtenants, cCLI] using g2
    obtain ⟨l2, r2, w2⟩ := open_tntS j2
    obtain ⟨a3, e3, _, _⟩ := DataW.trod_int Tryz.underlying2 g3
    obtain ⟨a4, e4, _, _⟩ := DataW.trod_int Tryz.underlying2 g4
    simp [cCLI] at e3 e4
    subst e3 e4
    exact ⟨⟨l0, l1, l2, a3, a4⟩, ⟨x0, x1, x2⟩, rfl, ⟨r0, r1, r2⟩, ⟨w0, w1, w2⟩⟩
end Go.Proofs.YtalpcjclahkgnaaGreat
