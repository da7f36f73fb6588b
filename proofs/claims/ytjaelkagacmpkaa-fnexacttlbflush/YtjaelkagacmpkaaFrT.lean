import Derived.Test.YtjaelkagacmpkaaRows
import Derived.Test.YtjaelkagacmpkaaLawT0
import Derived.WalkKit
import Derived.ProofKit
import Derived.OpenShut
import Derived.ShutString
import Derived.ChangeOld
import Derived.Carry
namespace Go.Proofs.Ytjaelkagacmpkaa
open Go.ChangeShapes Go.WideShapes Go.ChangeAt Go.RowKit

theorem own : ownKnob Try.prog.godebug = none := by kernel_rfl
theorem laidOut : laidOutB Try.prog = true := by kernel_rfl
theorem cT : Try.prog.cellsOf 51 = 2 := by kernel_rfl
theorem cS : Try.prog.cellsOf 49 = 1 := by kernel_rfl
theorem cI : Try.prog.cellsOf 2 = 1 := by kernel_rfl
theorem array2 {α : Type} {cs : Array α} (h : cs.size = 2) : ∃ c0 c1, cs = #[c0, c1] := by
  obtain ⟨l⟩ := cs
  match l, h with
  | [c0, c1], _ => exact ⟨c0, c1, rfl⟩
set_option maxRecDepth 100000 in
theorem open_tlb {H : Type} {enc : TypeId × Value → H} {W : World} {base : Nat} {v : Value} {d : DataW H} {p : List MemPlace} (hv : Value.okWide Try.prog W .any base 51 v)
    (h : DataW.Trod enc Try.prog W 0 (fun _ => true) true 51 v d p) : ∃ (u : Value) (nx : Int) (zs : List TE), v = tlA u nx ∧ TErow W u zs ∧ zs.length ≤ maxLen := by
  obtain ⟨cs, rfl, hsz⟩ := okWide_struct Try.underlying51 hv
  obtain ⟨x0, x1, rfl⟩ := array2 (hsz.trans cT)
  obtain ⟨fuel, hf⟩ := h
  obtain ⟨xs, n, _, hx, _, hlen, hel⟩ := DataW.trod_struct Try.underlying51 hf
  match xs, hlen, hel, hx with
  | [y0, y1], _, hel, hx =>
    have g0 := hel 0 _ rfl
    have g1 := hel 1 _ rfl
    simp only [Value.cells] at g0 g1
    obtain ⟨nx, e1, _, _⟩ := DataW.trod_int Try.underlying2 g1
    simp [cI] at e1
    subst e1
    have g2 : DataW.trod enc Try.prog W 0 (fun _ => true) true n 49 [x0] = some y0 := by
      simpa [cS] using g0
    obtain ⟨zs, hr, hl⟩ := open_teS g2
    exact ⟨x0, nx, zs, rfl, hr, hl⟩
end Go.Proofs.Ytjaelkagacmpkaa
