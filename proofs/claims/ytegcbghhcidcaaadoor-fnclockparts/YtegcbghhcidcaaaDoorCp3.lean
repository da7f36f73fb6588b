import Derived.Test.YtegcbghhcidcaaaDoorCp2
namespace Go.Proofs.YtegcbghhcidcaaaDoor
open Go.ChangeShapes Go.WideShapes Go.ChangeAt Go.RowKit

def opA (t : Int) : Value := .agg #[.int .i64 1, .int .i64 t, .int .i64 0, .int .i64 0, .int .i64 0, .int .i64 0, .int .i64 0]
set_option maxRecDepth 100000 in
set_option maxHeartbeats 4000000 in
theorem do0 {w : World} {B : Nat} {c : CK} {ao : Option Addr} {cap : Nat} {t : Int} (h : BoxK w B 25 c (.slice ao 0 cap)) (hm : May c t) : Calls Tryd.prog 26 #[.pointer (some ⟨B, 0, none⟩), opA t] w fun e w' => e = .returned (.tuple #[.slice none 0 0, .nilIface]) ∧ BoxK w' B 25 (adv c t) (.slice ao 0 cap) ∧ w.grownBy w' (some B) := by
  have HB : Hid (∀ o, w.grownBy (w.alloc o) (some B)) := fun o => World.grownBy_alloc w o _
  have HA : Hid (∀ o, Calls Tryd.prog 31 #[.pointer (some ⟨B, 0, none⟩), .int .i64 t] (w.alloc o) fun e w' => e = .returned (.tuple #[.slice none 0 0, .nilIface]) ∧ BoxK w' B 25 (adv c t) (.slice ao 0 cap) ∧ (w.alloc o).grownBy w' (some B)) := fun o => advance0 (h.below (bx1 _ _)) hm
  clear h hm
  unfold opA
  go_enter Tryd.func26, Tryd.ntmps26
  go_wp2_with fail
  refine Calls.mono (HA.out _) ?_
  rintro e u1 ⟨rfl, hx, hg⟩
  have HX : Hid (BoxK u1 B 25 (adv c t) (.slice ao 0 cap)) := hx
  have HG : Hid (w.grownBy u1 (some B)) := Lib.grownBy_trans (HB.out _) hg
  clear hx hg
  go_wp2_with fail
  go_ret2
  exact ⟨rfl, HX.out, HG.out⟩
end Go.Proofs.YtegcbghhcidcaaaDoor
