import Derived.Test.YtmogemcbbcmeoabLwM0
namespace Go.Proofs.Ytmogemcbbcmeoab
open Go.ChangeShapes Go.WideShapes Go.ChangeAt Go.RowKit

set_option maxRecDepth 100000 in
set_option maxHeartbeats 4000000 in
theorem heldMac_ok {w : World} {lo : Nat} (md : Int) (mem : ByteArray) {vr vc vv : Value} (nr nc nv : Nat) (h : R3 w lo vr vc vv (mkK 1 nr) (mkK (1 + (nr : Int)) nc) (mkK (1 + (nr : Int) + (nc : Int)) nv)) (hlo1 : nr ≤ 100) (hlo2 : nc ≤ 100) (hlo3 : nv ≤ 100) :
    Calls Try.prog 26 #[macA md mem vr vc vv, .int .i64 1] w fun e u => e = .returned (.int .i64 (1 + (nr : Int) + (nc : Int) + (nv : Int))) ∧ Below w.heap.size w u := by
  have h1 := h.o1
  have h2 := h.o2
  have h3 := h.o3
  rw [mkK_len] at h1 h2 h3
  obtain ⟨a1, k1, rfl⟩ := own_sl2 h1
  obtain ⟨a2, k2, rfl⟩ := own_sl2 h2
  obtain ⟨a3, k3, rfl⟩ := own_sl2 h3
  have E1 : Hid _ := fun o => heldK_ok 1 (by omega) (by omega) nr (h1.alloc o) hlo1
  have E2 : Hid _ := fun o => heldK_ok (1 + (nr : Int)) (by omega) (by omega) nc (h2.alloc o) hlo2
  have E3 : Hid _ := fun o => heldK_ok (1 + (nr : Int) + (nc : Int)) (by omega) (by omega) nv (h3.alloc o) hlo3
  clear h h1 h2 h3
  unfold macA
  go_enter Try.func26, Try.ntmps26
  go_wp2_with (first | (go_at_call 62; refine Calls.mono (E1.out _) ?_; rintro e q1 ⟨rfl, hq⟩; rw [hq]; clear hq q1 E1) | (go_at_call 62; refine Calls.mono (E2.out _) ?_; rintro e q1 ⟨rfl, hq⟩; rw [hq]; clear hq q1 E2) | (go_at_call 62; refine Calls.mono (E3.out _) ?_; rintro e q1 ⟨rfl, hq⟩; rw [hq]; clear hq q1 E3) | (go_at_call 63; refine (heldP_nil _ _).mono ?_; rintro e p1 ⟨rfl, hp⟩; rw [hp]; clear hp p1))
  go_ret
  exact ⟨rfl, (Below.refl _ _).alloc (Nat.le_refl _) _⟩
end Go.Proofs.Ytmogemcbbcmeoab
