import Derived.Test.YtegcbghhcidcaaaDoorRows
import Derived.Test.YtegcbghhcidcaaaDoorTie
import Derived.Test.YtegcbghhcidcaaaDoorCards
import Derived.Test.YtegcbghhcidcaaaDoorEr2
import Derived.Test.YtegcbghhcidcaaaDoorCk2
import Derived.ProofKit
import Derived.LaidMore
import Derived.LaidSub
import Derived.OpenShut
import Derived.OpenVars
import Derived.SevenTiedAt
import Derived.Stop.LaidErr
import Derived.Deep.Slices
namespace Go.Proofs.YtegcbghhcidcaaaDoor
open Go.ChangeShapes Go.WideShapes Go.ChangeAt Go.WideMaps Go.WideElems Go.RowKit

theorem own : ownKnob Tryd.prog.godebug = none := by kernel_rfl
theorem laidOut : laidOutB Tryd.prog = true := by kernel_rfl
theorem gE0 : Tryd.prog.globalNamed "loop.example/g00038/impl.errWrong" = some 0 := by kernel_rfl
theorem gT0 : (Tryd.prog.globals[0]?).map (·.type) = some 45 := by kernel_rfl
theorem gE1 : Tryd.prog.globalNamed "loop.example/g00038/impl.errFull" = some 1 := by kernel_rfl
theorem gT1 : (Tryd.prog.globals[1]?).map (·.type) = some 45 := by kernel_rfl
theorem gE2 : Tryd.prog.globalNamed "loop.example/g00038/impl.errAbsent" = some 2 := by kernel_rfl
theorem gT2 : (Tryd.prog.globals[2]?).map (·.type) = some 45 := by kernel_rfl
theorem gE3 : Tryd.prog.globalNamed "loop.example/g00038/impl.errAlready" = some 3 := by kernel_rfl
theorem gT3 : (Tryd.prog.globals[3]?).map (·.type) = some 45 := by kernel_rfl
theorem gE4 : Tryd.prog.globalNamed "loop.example/g00038/impl.errTooFar" = some 4 := by kernel_rfl
theorem gT4 : (Tryd.prog.globals[4]?).map (·.type) = some 45 := by kernel_rfl
theorem cES : Tryd.prog.cellsOf 126 = 1 := by kernel_rfl
theorem cST : Tryd.prog.cellsOf 9 = 1 := by kernel_rfl
theorem starE : "*" ++ "errors.errorString" = "*errors.errorString" := by decide
theorem rowE (u : TypeId) (h : Tryd.prog.typeName? 3 u = some "*errors.errorString") : u = 100 :=
  typeName_ptr_named (nm := "errors.errorString") (by rw [starE]; kernel_rfl) (by kernel_rfl) (by decide) u (by rw [starE]; exact h)
/-- The rest of what is laid. -/
theorem laid_tail {P : Program} {x : String × DataW Unit} {r : List (String × DataW Unit)} {W : World} (h : laidMet P (x :: r) W) : laidMet P r W := by
  obtain ⟨ps, ⟨g, t, cs, f, p, q, hg, ht, hv, hd, hr, e⟩, hnd, hrows⟩ := h
  subst e
  exact ⟨q, hr, hnd.sublist (by simp), fun b off hp => hrows b off (by simp [hp])⟩
theorem var_cell {W : World} {n : String} {k : Nat} {v : Value} (hg : Tryd.prog.globalNamed n = some k) (hv : W.var? Tryd.prog n = some #[v]) : W.cell? ⟨k, 0, none⟩ = some v := by simpa using World.var?_cell hg hv 0
theorem of_laidE {W : World} (h : laidMetH Tryd.prog [("loop.example/g00038/impl.errWrong", Rows.laid_loop_example_g00038_impl_errWrong), ("loop.example/g00038/impl.errFull", Rows.laid_loop_example_g00038_impl_errFull), ("loop.example/g00038/impl.errAbsent", Rows.laid_loop_example_g00038_impl_errAbsent), ("loop.example/g00038/impl.errAlready", Rows.laid_loop_example_g00038_impl_errAlready), ("loop.example/g00038/impl.errTooFar", Rows.laid_loop_example_g00038_impl_errTooFar)] W) : ∃ a, E5 W a := by
  rw [MakeChecks.laidMetH_plain _ _ _ (by kernel_rfl)] at h
  obtain ⟨a0, _, v0, _⟩ := laid_sentinel h gE0 gT0 Tryd.underlying45 rowE Tryd.underlying100 Tryd.underlying126 rfl rfl Tryd.underlying9 cES cST
  replace h := laid_tail h
  obtain ⟨a1, _, v1, _⟩ := laid_sentinel h gE1 gT1 Tryd.underlying45 rowE Tryd.underlying100 Tryd.underlying126 rfl rfl Tryd.underlying9 cES cST
  replace h := laid_tail h
  obtain ⟨a2, _, v2, _⟩ := laid_sentinel h gE2 gT2 Tryd.underlying45 rowE Tryd.underlying100 Tryd.underlying126 rfl rfl Tryd.underlying9 cES cST
  replace h := laid_tail h
  obtain ⟨a3, _, v3, _⟩ := laid_sentinel h gE3 gT3 Tryd.underlying45 rowE Tryd.underlying100 Tryd.underlying126 rfl rfl Tryd.underlying9 cES cST
  replace h := laid_tail h
  obtain ⟨a4, _, v4, _⟩ := laid_sentinel h gE4 gT4 Tryd.underlying45 rowE Tryd.underlying100 Tryd.underlying126 rfl rfl Tryd.underlying9 cES cST
  have c4 := var_cell gE4 v4
  have hz : 4 < W.heap.size := World.block_lt_of_cell? W _ c4
  exact ⟨fun k => if k = 0 then a0 else if k = 1 then a1 else if k = 2 then a2 else if k = 3 then a3 else a4, hz, var_cell gE0 v0, var_cell gE1 v1, var_cell gE2 v2, var_cell gE3 v3, c4⟩
theorem tv_len {H : Type} {enc : TypeId × Value → H} {P : Program} {W : World} {sp : Nat → Bool} : ∀ {ns : List String} {gs : List (DataW H)} {q : List MemPlace}, DataW.TrodVars enc P W sp ns gs q → gs.length = ns.length
  | [], [], _, _ => rfl
  | [], _ :: _, _, h => h.elim
  | _ :: _, [], _, h => h.elim
  | _ :: _, _ :: _, _, h => by
    obtain ⟨_, _, _, _, _, _, _, _, _, _, h2, _⟩ := h
    simp [tv_len h2]
theorem cBo : Tryd.prog.cellsOf 4 = 1 := by kernel_rfl
theorem array7 {cs : Array Value} (h : cs.size = 7) : ∃ x0 x1 x2 x3 x4 x5 x6, cs = #[x0, x1, x2, x3, x4, x5, x6] := by
  obtain ⟨l⟩ := cs
  match l, h with
  | [x0, x1, x2, x3, x4, x5, x6], _ => exact ⟨x0, x1, x2, x3, x4, x5, x6, rfl⟩
end Go.Proofs.YtegcbghhcidcaaaDoor
