import Derived.Test.YtohmejfpebjlaaaGreatDoorTextZ
import Derived.Test.YtohmejfpebjlaaaGreatDoorSEnc
namespace Go.Proofs.YtohmejfpebjlaaaGreatDoor
open Go.ChangeShapes Go.WideShapes Go.ChangeAt Go.RowKit

/-- An instruction's text; of one with a fault: the empty one. -/
def iT (op a b c imm : Int) : ByteArray := if isOk op a b c imm = true then txt op a b c imm ⟨#[]⟩ else ⟨#[]⟩
set_option maxRecDepth 100000 in
set_option maxHeartbeats 2000000 in
theorem specText_any (op a b c imm : Int) (w : World) (h0 : -9223372036854775808 ≤ op) (h1 : op ≤ 9223372036854775807) :
    Calls Tryz.prog 11 #[ins op a b c imm] w fun e w' => e = .returned (.string (iT op a b c imm)) ∧ Below w.heap.size w w' := by
  unfold iT
  cases hok : isOk op a b c imm
  · rw [if_neg (by decide)]
    unfold ins
    go_enter Tryz.func11, Tryz.ntmps11
    go_wp2_with (go_at_call 6; refine (instrFault_any _ _ _ _ _ _ (by omega) (by omega)).mono ?_; rintro e u1 ⟨rfl, hw1⟩; rw [hok])
    go_ret
    exact ⟨rfl, bstep (Below.refl _ _) _ hw1⟩
  · rw [if_pos rfl]
    obtain ⟨bo, ba, bb, bc, bi⟩ := isOk_b hok
    have HO : Hid (isOk op a b c imm = true) := hok
    clear hok
    unfold ins
    go_enter Tryz.func11, Tryz.ntmps11
    go_wp2_with (first | (go_at_call 6; refine (instrFault_any _ _ _ _ _ _ (by omega) (by omega)).mono ?_; rintro e u1 ⟨rfl, hw1⟩; rw [HO.out]; have z1 : w.heap.size < u1.heap.size := (by have := hw1.size; simp at this; omega); obtain ⟨hc, hf⟩ := bcell hw1) | (go_at_call 34; refine (l02Text_any op a b c imm _ _ (by decide) (by omega) (by omega) (by omega) (by omega) (by omega) (by omega) (by omega) (by omega) (by omega) (by omega)).mono ?_; rintro e u2 ⟨rfl, hw2⟩))
    go_ret
    exact ⟨rfl, (bstep (Below.refl _ _) _ hw1).trans (hw2.mono (by omega))⟩
end Go.Proofs.YtohmejfpebjlaaaGreatDoor
