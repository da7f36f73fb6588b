import Derived.Test.YtlpkkclmcgnapaaBd1
import Derived.Deep.Slices
namespace Go.Proofs.Ytlpkkclmcgnapaa
open Go.ChangeShapes Go.WideShapes Go.ChangeAt Go.RowKit

theorem cBDT : Try.prog.cellsOf 24 = 3 := by kernel_rfl
theorem cBDI : Try.prog.cellsOf 2 = 1 := by kernel_rfl
theorem cBDB : Try.prog.cellsOf 4 = 1 := by kernel_rfl
theorem cBDds : Try.prog.cellsOf 22 = 1 := by kernel_rfl
theorem arrayBD {α : Type} {cs : Array α} (h : cs.size = 3) : ∃ x0 x1 x2, cs = #[x0, x1, x2] := by
  obtain ⟨l⟩ := cs
  match l, h with
  | [x0, x1, x2], _ => exact ⟨x0, x1, x2, rfl⟩
set_option maxRecDepth 100000 in
theorem open_BD {H : Type} {enc : TypeId × Value → H} {W : World} {base : Nat} {v : Value} {d : DataW H} {p : List MemPlace} (hv : Value.okWide Try.prog W .any base 24 v)
    (h : DataW.Trod enc Try.prog W 0 (fun _ => true) true 24 v d p) : ∃ (s : BD) (a : BDA), v = bdA s a ∧ BDRows W s a ∧ BDmax s := by
  obtain ⟨cs, rfl, hsz⟩ := okWide_struct Try.underlying24 hv
  obtain ⟨x0, x1, x2, rfl⟩ := arrayBD (hsz.trans cBDT)
  obtain ⟨fuel, hf⟩ := h
  obtain ⟨xs, n, _, hx, _, hlen, hel⟩ := DataW.trod_struct Try.underlying24 hf
  match xs, hlen, hel, hx with
  | [y0, y1, y2], _, hel, hx =>
    have g0 := hel 0 _ rfl
    have g1 := hel 1 _ rfl
    have g2 := hel 2 _ rfl
    simp only [Value.cells] at g0 g1 g2
    obtain ⟨a0, e0, _, _⟩ := DataW.trod_int Try.underlying2 g0
    obtain ⟨a1, e1, _, _⟩ := DataW.trod_int Try.underlying2 g1
    have j2 : DataW.trod enc Try.prog W 0 (fun _ => true) true n 22 [x2] = some y2 := by simpa [cBDds, cBDI] using g2
    obtain ⟨l2, r2, w2⟩ := open_dvS j2
    simp [cBDI] at e0 e1
    subst e0 e1
    exact ⟨⟨a0, a1, l2⟩, ⟨x2⟩, rfl, ⟨r2⟩, ⟨w2⟩⟩
end Go.Proofs.Ytlpkkclmcgnapaa
