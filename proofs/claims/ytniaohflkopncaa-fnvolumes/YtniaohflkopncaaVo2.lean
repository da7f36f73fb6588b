import Derived.Test.YtniaohflkopncaaRowKS4
import Derived.Test.YtniaohflkopncaaLG
import Derived.Deep.DeepCutAuto
namespace Go.Proofs.Ytniaohflkopncaa
open Go.ChangeShapes Go.WideShapes Go.ChangeAt Go.RowKit

theorem cVs : Try.prog.cellsOf 9 = 1 := by kernel_rfl
theorem arrayV2 {α : Type} {cs : Array α} (h : cs.size = 2) : ∃ c0 c1, cs = #[c0, c1] := by
  obtain ⟨l⟩ := cs
  match l, h with
  | [c0, c1], _ => exact ⟨c0, c1, rfl⟩
end Go.Proofs.Ytniaohflkopncaa
