import Derived.Test.YtmogemcbbcmeoabNewM3
namespace Go.Proofs.Ytmogemcbbcmeoab
open Go.ChangeShapes Go.WideShapes Go.ChangeAt Go.RowKit

set_option maxRecDepth 100000 in
set_option maxHeartbeats 4000000 in
theorem specNew_yes (s : ByteArray) (hs : s.size ≤ 1099511627776) (h : memOk s = true) : AnsN 22 s 1 s (zl 16) (zl 12) (zl 16) := by
  intro w
  have hc : Hid _ := memC_ok h
  have HS : Hid _ := hs
  have m1 := mk16
  have m2 := mk12
  clear h hs
  go_enter Try.func22, Try.ntmps22
  go_wp2_with (go_at_call 55; refine (specMemFault_any _ _ HS.out).mono ?_; rintro e u1 ⟨rfl, hu1⟩; rw [hu1, hc.out]; clear hu1)
  go_region
  all_goals
    go_wp2
    refine bodyPost_ret (v := macA 1 s (.slice (some ⟨_, 0, none⟩) 16 16) (.slice (some ⟨_, 0, none⟩) 12 12) (.slice (some ⟨_, 0, none⟩) 16 16)) (by simp [results, Try.results22, go_sem, macA]; exact ⟨rfl, rfl, rfl⟩) rfl ⟨_, _, _, rfl, ?_, bel4 _ _ _ _ _⟩
    first
      | exact R3.zero (heap4 _ _ _ _ _).1 (heap4 _ _ _ _ _).2.1 (heap4 _ _ _ _ _).2.2 (by omega) (by omega) (by omega) (by omega) (by omega) (by omega)
      | exact R3.zero (heap4 _ _ _ _ _).1 (heap4 _ _ _ _ _).2.2 (heap4 _ _ _ _ _).2.1 (by omega) (by omega) (by omega) (by omega) (by omega) (by omega)
      | exact R3.zero (heap4 _ _ _ _ _).2.1 (heap4 _ _ _ _ _).1 (heap4 _ _ _ _ _).2.2 (by omega) (by omega) (by omega) (by omega) (by omega) (by omega)
      | exact R3.zero (heap4 _ _ _ _ _).2.1 (heap4 _ _ _ _ _).2.2 (heap4 _ _ _ _ _).1 (by omega) (by omega) (by omega) (by omega) (by omega) (by omega)
      | exact R3.zero (heap4 _ _ _ _ _).2.2 (heap4 _ _ _ _ _).1 (heap4 _ _ _ _ _).2.1 (by omega) (by omega) (by omega) (by omega) (by omega) (by omega)
      | exact R3.zero (heap4 _ _ _ _ _).2.2 (heap4 _ _ _ _ _).2.1 (heap4 _ _ _ _ _).1 (by omega) (by omega) (by omega) (by omega) (by omega) (by omega)
end Go.Proofs.Ytmogemcbbcmeoab
