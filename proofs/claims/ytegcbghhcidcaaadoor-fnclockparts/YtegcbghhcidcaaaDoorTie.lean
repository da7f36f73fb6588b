/-
  DERIVED. GIVEN WITH THE SEED: THE PROGRAM's TIES (one call each: nine closed facts by the kernel) AND EACH ROW's TIE, after the 31st guide's Derived/Test/Toyas{Tie, Card}.lean. No idea stands in it: it is a product of the set-up. Laid BY PROGRAM, IN A SANDBOX (cutbox-door.mjs). By AI agents, Wed Nov 11 2026. No macro, syntax, notation, axiom, sorry.
-/
import Derived.Test.YtegcbghhcidcaaaDoorRows
import Derived.LaidByTextLater
import Derived.SevenTiedAt
import Derived.LaidSub
import Derived.LaidOnce
namespace Go.Proofs.YtegcbghhcidcaaaDoor
open Go
set_option maxRecDepth 100000
theorem seatTie1 : Tryd.prog.laidByTextLater [("loop.example/g00038/impl.errWrong", Rows.laid_loop_example_g00038_impl_errWrong), ("loop.example/g00038/impl.errFull", Rows.laid_loop_example_g00038_impl_errFull), ("loop.example/g00038/impl.errAbsent", Rows.laid_loop_example_g00038_impl_errAbsent), ("loop.example/g00038/impl.errAlready", Rows.laid_loop_example_g00038_impl_errAlready), ("loop.example/g00038/impl.errTooFar", Rows.laid_loop_example_g00038_impl_errTooFar)] [.sentinel, .sentinel, .sentinel, .sentinel, .sentinel] true :=
  Program.laidByTextLater_by_one 104 8 2 (by kernel_rfl) (by kernel_rfl) (by kernel_rfl) (by kernel_rfl) (by kernel_rfl) (by kernel_rfl) (fun _ _ => by kernel_rfl)
theorem noOwnUnsafe : Tryd.pinned.checked.prog.headLifts.contains "ownunsafe" = false := by kernel_rfl
theorem tie : Tryd.prog.laidByTextLater [("loop.example/g00038/impl.errWrong", Rows.laid_loop_example_g00038_impl_errWrong), ("loop.example/g00038/impl.errFull", Rows.laid_loop_example_g00038_impl_errFull), ("loop.example/g00038/impl.errAbsent", Rows.laid_loop_example_g00038_impl_errAbsent), ("loop.example/g00038/impl.errAlready", Rows.laid_loop_example_g00038_impl_errAlready), ("loop.example/g00038/impl.errTooFar", Rows.laid_loop_example_g00038_impl_errTooFar)] [.sentinel, .sentinel, .sentinel, .sentinel, .sentinel] true :=
  Program.laidByTextLater.sub seatTie1 ["loop.example/g00038/impl.errWrong", "loop.example/g00038/impl.errFull", "loop.example/g00038/impl.errAbsent", "loop.example/g00038/impl.errAlready", "loop.example/g00038/impl.errTooFar"] (by kernel_rfl) (by kernel_rfl)
theorem fnClockParts_row_tie : Rows.fnClockPartsRow.laidByTextAt .later Tryd.pinned [.sentinel, .sentinel, .sentinel, .sentinel, .sentinel] true :=
  OpenClaim.laidByTextAt_later rfl rfl tie noOwnUnsafe
theorem fnClockPartsUpto_row_tie : Rows.fnClockPartsUptoRow.laidByTextAt .later Tryd.pinned [.sentinel, .sentinel, .sentinel, .sentinel, .sentinel] true :=
  OpenClaim.laidByTextAt_later rfl rfl tie noOwnUnsafe
end Go.Proofs.YtegcbghhcidcaaaDoor
