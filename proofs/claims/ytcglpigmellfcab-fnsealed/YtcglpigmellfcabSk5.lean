import Derived.Test.YtcglpigmellfcabSk4
namespace Go.Proofs.Ytcglpigmellfcab
open Go.ChangeShapes Go.WideShapes Go.ChangeAt Go.RowKit

theorem str_eq {a b : ByteArray} (h : a = b) : Ending.returned (Value.string a) = .returned (.string b) := by rw [h]
set_option maxRecDepth 100000 in
set_option maxHeartbeats 4000000 in
theorem specTagOf_any (s d : ByteArray) (w : World) :
    Calls Try.prog 80 #[.string s, .string d] w fun e w' => e = .returned (.string (tgoV s d)) ∧ Below w.heap.size w w' := by
  cases h1 : ovB s
  · cases h2 : ovB d
    · have hs2 := ovB_le h1
      have hd2 := ovB_le h2
      have E : Hid (tgoV s d = tagV s d) := (show tgoV s d = tagV s d by unfold tgoV; rw [if_neg (by simp [h1, h2])])
      have q1 : decide (4096 < (s.size : Int)) = false := h1
      have q2 : decide (4096 < (d.size : Int)) = false := h2
      have hh1 : (s ++ d).size ≤ 1048576 := by rw [ByteArray.size_append]; omega
      have hh2 : (d ++ s).size ≤ 1048576 := by rw [ByteArray.size_append]; omega
      clear h1 h2
      go_enter Try.func80, Try.ntmps80
      go_wp2_with fail
      refine (specMix_any _ _ _ hh1).mono ?_
      rintro e u1 ⟨rfl, hw1⟩
      rw [hw1]
      clear hw1
      go_wp2_with fail
      refine (specPutWord_any _ _).mono ?_
      rintro e u2 ⟨rfl, hb2⟩
      have HB2 : Hid _ := hb2
      clear hb2
      go_wp2_with fail
      refine (specMix_any _ _ _ hh2).mono ?_
      rintro e u3 ⟨rfl, hw3⟩
      rw [hw3]
      clear hw3
      go_wp2_with fail
      refine (specPutWord_any _ _).mono ?_
      rintro e u4 ⟨rfl, hb4⟩
      have HB4 : Hid _ := HB2.out.trans (hb4.mono HB2.out.size)
      clear hb4
      go_wp2
      go_ret
      exact ⟨str_eq E.out.symm, HB4.out⟩
    · have E : Hid (tgoV s d = ⟨#[]⟩) := (show tgoV s d = ⟨#[]⟩ by unfold tgoV; rw [if_pos (.inr h2)])
      have q1 : decide (4096 < (s.size : Int)) = false := h1
      have q2 : decide (4096 < (d.size : Int)) = true := h2
      clear h1 h2
      go_enter Try.func80, Try.ntmps80
      go_wp2
      go_ret
      exact ⟨str_eq E.out.symm, Below.refl _ _⟩
  · have E : Hid (tgoV s d = ⟨#[]⟩) := (show tgoV s d = ⟨#[]⟩ by unfold tgoV; rw [if_pos (.inl h1)])
    have q1 : decide (4096 < (s.size : Int)) = true := h1
    clear h1
    go_enter Try.func80, Try.ntmps80
    go_wp2
    go_ret
    exact ⟨str_eq E.out.symm, Below.refl _ _⟩
end Go.Proofs.Ytcglpigmellfcab
