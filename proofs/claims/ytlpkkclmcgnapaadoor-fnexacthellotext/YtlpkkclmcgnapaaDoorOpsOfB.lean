import Derived.Test.YtlpkkclmcgnapaaDoorOpd
namespace Go.Proofs.YtlpkkclmcgnapaaDoor
open Go.ChangeShapes Go.WideShapes Go.ChangeAt Go.RowKit

theorem oL_19 : opsOf 19 = [rP 0, rP 1, .imm (-2048) 12] := by kernel_rfl
set_option maxRecDepth 100000 in
set_option maxHeartbeats 4000000 in
theorem oW_19 (w : World) : OpR 19 w := by
  unfold OpR
  rw [oL_19]
  go_enter Tryd.func11, Tryd.ntmps11
  go_wp2_with (first | (go_at_call 16; refine (plain_any _ _).mono ?_; rintro e u ⟨rfl, rfl⟩) | (go_at_call 17; refine (vector_any _ _).mono ?_; rintro e u ⟨rfl, rfl⟩) | (go_at_call 18; refine (signed12 _).mono ?_; rintro e u ⟨rfl, rfl⟩) | (go_at_call 18; refine (signed20 _).mono ?_; rintro e u ⟨rfl, rfl⟩))
  go_ret
  exact ⟨_, rfl, World.ownsRow_lit _ _ _ (Nat.le_refl _) (by decide) rfl, (Below.refl _ _).alloc (Nat.le_refl _) _⟩
theorem oL_20 : opsOf 20 = [rP 0, .imm 0 20] := by kernel_rfl
set_option maxRecDepth 100000 in
set_option maxHeartbeats 4000000 in
theorem oW_20 (w : World) : OpR 20 w := by
  unfold OpR
  rw [oL_20]
  go_enter Tryd.func11, Tryd.ntmps11
  go_wp2_with (first | (go_at_call 16; refine (plain_any _ _).mono ?_; rintro e u ⟨rfl, rfl⟩) | (go_at_call 17; refine (vector_any _ _).mono ?_; rintro e u ⟨rfl, rfl⟩) | (go_at_call 18; refine (signed12 _).mono ?_; rintro e u ⟨rfl, rfl⟩) | (go_at_call 18; refine (signed20 _).mono ?_; rintro e u ⟨rfl, rfl⟩))
  go_ret
  exact ⟨_, rfl, World.ownsRow_lit _ _ _ (Nat.le_refl _) (by decide) rfl, (Below.refl _ _).alloc (Nat.le_refl _) _⟩
theorem oL_21 : opsOf 21 = [] := by kernel_rfl
set_option maxRecDepth 100000 in
set_option maxHeartbeats 4000000 in
theorem oW_21 (w : World) : OpR 21 w := by
  unfold OpR
  rw [oL_21]
  go_enter Tryd.func11, Tryd.ntmps11
  go_wp2_with (first | (go_at_call 16; refine (plain_any _ _).mono ?_; rintro e u ⟨rfl, rfl⟩) | (go_at_call 17; refine (vector_any _ _).mono ?_; rintro e u ⟨rfl, rfl⟩) | (go_at_call 18; refine (signed12 _).mono ?_; rintro e u ⟨rfl, rfl⟩) | (go_at_call 18; refine (signed20 _).mono ?_; rintro e u ⟨rfl, rfl⟩))
  go_ret
  exact ⟨_, rfl, ⟨rfl, .inl ⟨rfl, rfl⟩⟩, Below.refl _ _⟩
theorem oL_22 : opsOf 22 = [] := by kernel_rfl
set_option maxRecDepth 100000 in
set_option maxHeartbeats 4000000 in
theorem oW_22 (w : World) : OpR 22 w := by
  unfold OpR
  rw [oL_22]
  go_enter Tryd.func11, Tryd.ntmps11
  go_wp2_with (first | (go_at_call 16; refine (plain_any _ _).mono ?_; rintro e u ⟨rfl, rfl⟩) | (go_at_call 17; refine (vector_any _ _).mono ?_; rintro e u ⟨rfl, rfl⟩) | (go_at_call 18; refine (signed12 _).mono ?_; rintro e u ⟨rfl, rfl⟩) | (go_at_call 18; refine (signed20 _).mono ?_; rintro e u ⟨rfl, rfl⟩))
  go_ret
  exact ⟨_, rfl, ⟨rfl, .inl ⟨rfl, rfl⟩⟩, Below.refl _ _⟩
theorem oL_23 : opsOf 23 = [] := by kernel_rfl
set_option maxRecDepth 100000 in
set_option maxHeartbeats 4000000 in
theorem oW_23 (w : World) : OpR 23 w := by
  unfold OpR
  rw [oL_23]
  go_enter Tryd.func11, Tryd.ntmps11
  go_wp2_with (first | (go_at_call 16; refine (plain_any _ _).mono ?_; rintro e u ⟨rfl, rfl⟩) | (go_at_call 17; refine (vector_any _ _).mono ?_; rintro e u ⟨rfl, rfl⟩) | (go_at_call 18; refine (signed12 _).mono ?_; rintro e u ⟨rfl, rfl⟩) | (go_at_call 18; refine (signed20 _).mono ?_; rintro e u ⟨rfl, rfl⟩))
  go_ret
  exact ⟨_, rfl, ⟨rfl, .inl ⟨rfl, rfl⟩⟩, Below.refl _ _⟩
theorem oL_24 : opsOf 24 = [rP 0, rP 1, .imm (-2048) 12] := by kernel_rfl
set_option maxRecDepth 100000 in
set_option maxHeartbeats 4000000 in
theorem oW_24 (w : World) : OpR 24 w := by
  unfold OpR
  rw [oL_24]
  go_enter Tryd.func11, Tryd.ntmps11
  go_wp2_with (first | (go_at_call 16; refine (plain_any _ _).mono ?_; rintro e u ⟨rfl, rfl⟩) | (go_at_call 17; refine (vector_any _ _).mono ?_; rintro e u ⟨rfl, rfl⟩) | (go_at_call 18; refine (signed12 _).mono ?_; rintro e u ⟨rfl, rfl⟩) | (go_at_call 18; refine (signed20 _).mono ?_; rintro e u ⟨rfl, rfl⟩))
  go_ret
  exact ⟨_, rfl, World.ownsRow_lit _ _ _ (Nat.le_refl _) (by decide) rfl, (Below.refl _ _).alloc (Nat.le_refl _) _⟩
theorem oL_25 : opsOf 25 = [rP 0, rP 1, .imm (-2048) 12] := by kernel_rfl
set_option maxRecDepth 100000 in
set_option maxHeartbeats 4000000 in
theorem oW_25 (w : World) : OpR 25 w := by
  unfold OpR
  rw [oL_25]
  go_enter Tryd.func11, Tryd.ntmps11
  go_wp2_with (first | (go_at_call 16; refine (plain_any _ _).mono ?_; rintro e u ⟨rfl, rfl⟩) | (go_at_call 17; refine (vector_any _ _).mono ?_; rintro e u ⟨rfl, rfl⟩) | (go_at_call 18; refine (signed12 _).mono ?_; rintro e u ⟨rfl, rfl⟩) | (go_at_call 18; refine (signed20 _).mono ?_; rintro e u ⟨rfl, rfl⟩))
  go_ret
  exact ⟨_, rfl, World.ownsRow_lit _ _ _ (Nat.le_refl _) (by decide) rfl, (Below.refl _ _).alloc (Nat.le_refl _) _⟩
theorem oL_26 : opsOf 26 = [rP 0, rP 1, .imm (-2048) 12] := by kernel_rfl
set_option maxRecDepth 100000 in
set_option maxHeartbeats 4000000 in
theorem oW_26 (w : World) : OpR 26 w := by
  unfold OpR
  rw [oL_26]
  go_enter Tryd.func11, Tryd.ntmps11
  go_wp2_with (first | (go_at_call 16; refine (plain_any _ _).mono ?_; rintro e u ⟨rfl, rfl⟩) | (go_at_call 17; refine (vector_any _ _).mono ?_; rintro e u ⟨rfl, rfl⟩) | (go_at_call 18; refine (signed12 _).mono ?_; rintro e u ⟨rfl, rfl⟩) | (go_at_call 18; refine (signed20 _).mono ?_; rintro e u ⟨rfl, rfl⟩))
  go_ret
  exact ⟨_, rfl, World.ownsRow_lit _ _ _ (Nat.le_refl _) (by decide) rfl, (Below.refl _ _).alloc (Nat.le_refl _) _⟩
theorem oL_27 : opsOf 27 = [rP 0, rP 1, .imm (-2048) 12] := by kernel_rfl
set_option maxRecDepth 100000 in
set_option maxHeartbeats 4000000 in
theorem oW_27 (w : World) : OpR 27 w := by
  unfold OpR
  rw [oL_27]
  go_enter Tryd.func11, Tryd.ntmps11
  go_wp2_with (first | (go_at_call 16; refine (plain_any _ _).mono ?_; rintro e u ⟨rfl, rfl⟩) | (go_at_call 17; refine (vector_any _ _).mono ?_; rintro e u ⟨rfl, rfl⟩) | (go_at_call 18; refine (signed12 _).mono ?_; rintro e u ⟨rfl, rfl⟩) | (go_at_call 18; refine (signed20 _).mono ?_; rintro e u ⟨rfl, rfl⟩))
  go_ret
  exact ⟨_, rfl, World.ownsRow_lit _ _ _ (Nat.le_refl _) (by decide) rfl, (Below.refl _ _).alloc (Nat.le_refl _) _⟩
theorem oL_28 : opsOf 28 = [rP 0, rP 1, rP 2] := by kernel_rfl
set_option maxRecDepth 100000 in
set_option maxHeartbeats 4000000 in
theorem oW_28 (w : World) : OpR 28 w := by
  unfold OpR
  rw [oL_28]
  go_enter Tryd.func11, Tryd.ntmps11
  go_wp2_with (first | (go_at_call 16; refine (plain_any _ _).mono ?_; rintro e u ⟨rfl, rfl⟩) | (go_at_call 17; refine (vector_any _ _).mono ?_; rintro e u ⟨rfl, rfl⟩) | (go_at_call 18; refine (signed12 _).mono ?_; rintro e u ⟨rfl, rfl⟩) | (go_at_call 18; refine (signed20 _).mono ?_; rintro e u ⟨rfl, rfl⟩))
  go_ret
  exact ⟨_, rfl, World.ownsRow_lit _ _ _ (Nat.le_refl _) (by decide) rfl, (Below.refl _ _).alloc (Nat.le_refl _) _⟩
theorem oL_29 : opsOf 29 = [rP 0, rP 1, rP 2] := by kernel_rfl
set_option maxRecDepth 100000 in
set_option maxHeartbeats 4000000 in
theorem oW_29 (w : World) : OpR 29 w := by
  unfold OpR
  rw [oL_29]
  go_enter Tryd.func11, Tryd.ntmps11
  go_wp2_with (first | (go_at_call 16; refine (plain_any _ _).mono ?_; rintro e u ⟨rfl, rfl⟩) | (go_at_call 17; refine (vector_any _ _).mono ?_; rintro e u ⟨rfl, rfl⟩) | (go_at_call 18; refine (signed12 _).mono ?_; rintro e u ⟨rfl, rfl⟩) | (go_at_call 18; refine (signed20 _).mono ?_; rintro e u ⟨rfl, rfl⟩))
  go_ret
  exact ⟨_, rfl, World.ownsRow_lit _ _ _ (Nat.le_refl _) (by decide) rfl, (Below.refl _ _).alloc (Nat.le_refl _) _⟩
theorem oL_30 : opsOf 30 = [rP 0, rP 1, rP 2] := by kernel_rfl
set_option maxRecDepth 100000 in
set_option maxHeartbeats 4000000 in
theorem oW_30 (w : World) : OpR 30 w := by
  unfold OpR
  rw [oL_30]
  go_enter Tryd.func11, Tryd.ntmps11
  go_wp2_with (first | (go_at_call 16; refine (plain_any _ _).mono ?_; rintro e u ⟨rfl, rfl⟩) | (go_at_call 17; refine (vector_any _ _).mono ?_; rintro e u ⟨rfl, rfl⟩) | (go_at_call 18; refine (signed12 _).mono ?_; rintro e u ⟨rfl, rfl⟩) | (go_at_call 18; refine (signed20 _).mono ?_; rintro e u ⟨rfl, rfl⟩))
  go_ret
  exact ⟨_, rfl, World.ownsRow_lit _ _ _ (Nat.le_refl _) (by decide) rfl, (Below.refl _ _).alloc (Nat.le_refl _) _⟩
theorem oL_31 : opsOf 31 = [] := by kernel_rfl
set_option maxRecDepth 100000 in
set_option maxHeartbeats 4000000 in
theorem oW_31 (w : World) : OpR 31 w := by
  unfold OpR
  rw [oL_31]
  go_enter Tryd.func11, Tryd.ntmps11
  go_wp2_with (first | (go_at_call 16; refine (plain_any _ _).mono ?_; rintro e u ⟨rfl, rfl⟩) | (go_at_call 17; refine (vector_any _ _).mono ?_; rintro e u ⟨rfl, rfl⟩) | (go_at_call 18; refine (signed12 _).mono ?_; rintro e u ⟨rfl, rfl⟩) | (go_at_call 18; refine (signed20 _).mono ?_; rintro e u ⟨rfl, rfl⟩))
  go_ret
  exact ⟨_, rfl, ⟨rfl, .inl ⟨rfl, rfl⟩⟩, Below.refl _ _⟩
theorem oL_32 : opsOf 32 = [rP 0, rP 1, .imm (-2048) 12] := by kernel_rfl
set_option maxRecDepth 100000 in
set_option maxHeartbeats 4000000 in
theorem oW_32 (w : World) : OpR 32 w := by
  unfold OpR
  rw [oL_32]
  go_enter Tryd.func11, Tryd.ntmps11
  go_wp2_with (first | (go_at_call 16; refine (plain_any _ _).mono ?_; rintro e u ⟨rfl, rfl⟩) | (go_at_call 17; refine (vector_any _ _).mono ?_; rintro e u ⟨rfl, rfl⟩) | (go_at_call 18; refine (signed12 _).mono ?_; rintro e u ⟨rfl, rfl⟩) | (go_at_call 18; refine (signed20 _).mono ?_; rintro e u ⟨rfl, rfl⟩))
  go_ret
  exact ⟨_, rfl, World.ownsRow_lit _ _ _ (Nat.le_refl _) (by decide) rfl, (Below.refl _ _).alloc (Nat.le_refl _) _⟩
theorem oL_33 : opsOf 33 = [rP 0, rP 1, .imm (-2048) 12] := by kernel_rfl
set_option maxRecDepth 100000 in
set_option maxHeartbeats 4000000 in
theorem oW_33 (w : World) : OpR 33 w := by
  unfold OpR
  rw [oL_33]
  go_enter Tryd.func11, Tryd.ntmps11
  go_wp2_with (first | (go_at_call 16; refine (plain_any _ _).mono ?_; rintro e u ⟨rfl, rfl⟩) | (go_at_call 17; refine (vector_any _ _).mono ?_; rintro e u ⟨rfl, rfl⟩) | (go_at_call 18; refine (signed12 _).mono ?_; rintro e u ⟨rfl, rfl⟩) | (go_at_call 18; refine (signed20 _).mono ?_; rintro e u ⟨rfl, rfl⟩))
  go_ret
  exact ⟨_, rfl, World.ownsRow_lit _ _ _ (Nat.le_refl _) (by decide) rfl, (Below.refl _ _).alloc (Nat.le_refl _) _⟩
theorem oL_34 : opsOf 34 = [rP 0, rP 1, .imm (-2048) 12] := by kernel_rfl
set_option maxRecDepth 100000 in
set_option maxHeartbeats 4000000 in
theorem oW_34 (w : World) : OpR 34 w := by
  unfold OpR
  rw [oL_34]
  go_enter Tryd.func11, Tryd.ntmps11
  go_wp2_with (first | (go_at_call 16; refine (plain_any _ _).mono ?_; rintro e u ⟨rfl, rfl⟩) | (go_at_call 17; refine (vector_any _ _).mono ?_; rintro e u ⟨rfl, rfl⟩) | (go_at_call 18; refine (signed12 _).mono ?_; rintro e u ⟨rfl, rfl⟩) | (go_at_call 18; refine (signed20 _).mono ?_; rintro e u ⟨rfl, rfl⟩))
  go_ret
  exact ⟨_, rfl, World.ownsRow_lit _ _ _ (Nat.le_refl _) (by decide) rfl, (Below.refl _ _).alloc (Nat.le_refl _) _⟩
theorem oL_35 : opsOf 35 = [rP 0, rP 1, .imm (-2048) 12] := by kernel_rfl
set_option maxRecDepth 100000 in
set_option maxHeartbeats 4000000 in
theorem oW_35 (w : World) : OpR 35 w := by
  unfold OpR
  rw [oL_35]
  go_enter Tryd.func11, Tryd.ntmps11
  go_wp2_with (first | (go_at_call 16; refine (plain_any _ _).mono ?_; rintro e u ⟨rfl, rfl⟩) | (go_at_call 17; refine (vector_any _ _).mono ?_; rintro e u ⟨rfl, rfl⟩) | (go_at_call 18; refine (signed12 _).mono ?_; rintro e u ⟨rfl, rfl⟩) | (go_at_call 18; refine (signed20 _).mono ?_; rintro e u ⟨rfl, rfl⟩))
  go_ret
  exact ⟨_, rfl, World.ownsRow_lit _ _ _ (Nat.le_refl _) (by decide) rfl, (Below.refl _ _).alloc (Nat.le_refl _) _⟩
theorem oL_36 : opsOf 36 = [rP 0, .imm (-524288) 20] := by kernel_rfl
set_option maxRecDepth 100000 in
set_option maxHeartbeats 4000000 in
theorem oW_36 (w : World) : OpR 36 w := by
  unfold OpR
  rw [oL_36]
  go_enter Tryd.func11, Tryd.ntmps11
  go_wp2_with (first | (go_at_call 16; refine (plain_any _ _).mono ?_; rintro e u ⟨rfl, rfl⟩) | (go_at_call 17; refine (vector_any _ _).mono ?_; rintro e u ⟨rfl, rfl⟩) | (go_at_call 18; refine (signed12 _).mono ?_; rintro e u ⟨rfl, rfl⟩) | (go_at_call 18; refine (signed20 _).mono ?_; rintro e u ⟨rfl, rfl⟩))
  go_ret
  exact ⟨_, rfl, World.ownsRow_lit _ _ _ (Nat.le_refl _) (by decide) rfl, (Below.refl _ _).alloc (Nat.le_refl _) _⟩
end Go.Proofs.YtlpkkclmcgnapaaDoor
