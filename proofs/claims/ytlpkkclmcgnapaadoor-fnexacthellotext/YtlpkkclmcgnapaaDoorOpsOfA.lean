import Derived.Test.YtlpkkclmcgnapaaDoorOpd
namespace Go.Proofs.YtlpkkclmcgnapaaDoor
open Go.ChangeShapes Go.WideShapes Go.ChangeAt Go.RowKit

theorem oL_1 : opsOf 1 = [rP 0, rP 1, rP 2] := by kernel_rfl
set_option maxRecDepth 100000 in
set_option maxHeartbeats 4000000 in
theorem oW_1 (w : World) : OpR 1 w := by
  unfold OpR
  rw [oL_1]
  go_enter Tryd.func11, Tryd.ntmps11
  go_wp2_with (first | (go_at_call 16; refine (plain_any _ _).mono ?_; rintro e u ⟨rfl, rfl⟩) | (go_at_call 17; refine (vector_any _ _).mono ?_; rintro e u ⟨rfl, rfl⟩) | (go_at_call 18; refine (signed12 _).mono ?_; rintro e u ⟨rfl, rfl⟩) | (go_at_call 18; refine (signed20 _).mono ?_; rintro e u ⟨rfl, rfl⟩))
  go_ret
  exact ⟨_, rfl, World.ownsRow_lit _ _ _ (Nat.le_refl _) (by decide) rfl, (Below.refl _ _).alloc (Nat.le_refl _) _⟩
theorem oL_2 : opsOf 2 = [rP 0, rP 1, rP 2] := by kernel_rfl
set_option maxRecDepth 100000 in
set_option maxHeartbeats 4000000 in
theorem oW_2 (w : World) : OpR 2 w := by
  unfold OpR
  rw [oL_2]
  go_enter Tryd.func11, Tryd.ntmps11
  go_wp2_with (first | (go_at_call 16; refine (plain_any _ _).mono ?_; rintro e u ⟨rfl, rfl⟩) | (go_at_call 17; refine (vector_any _ _).mono ?_; rintro e u ⟨rfl, rfl⟩) | (go_at_call 18; refine (signed12 _).mono ?_; rintro e u ⟨rfl, rfl⟩) | (go_at_call 18; refine (signed20 _).mono ?_; rintro e u ⟨rfl, rfl⟩))
  go_ret
  exact ⟨_, rfl, World.ownsRow_lit _ _ _ (Nat.le_refl _) (by decide) rfl, (Below.refl _ _).alloc (Nat.le_refl _) _⟩
theorem oL_3 : opsOf 3 = [rP 0, rP 1, rP 2] := by kernel_rfl
set_option maxRecDepth 100000 in
set_option maxHeartbeats 4000000 in
theorem oW_3 (w : World) : OpR 3 w := by
  unfold OpR
  rw [oL_3]
  go_enter Tryd.func11, Tryd.ntmps11
  go_wp2_with (first | (go_at_call 16; refine (plain_any _ _).mono ?_; rintro e u ⟨rfl, rfl⟩) | (go_at_call 17; refine (vector_any _ _).mono ?_; rintro e u ⟨rfl, rfl⟩) | (go_at_call 18; refine (signed12 _).mono ?_; rintro e u ⟨rfl, rfl⟩) | (go_at_call 18; refine (signed20 _).mono ?_; rintro e u ⟨rfl, rfl⟩))
  go_ret
  exact ⟨_, rfl, World.ownsRow_lit _ _ _ (Nat.le_refl _) (by decide) rfl, (Below.refl _ _).alloc (Nat.le_refl _) _⟩
theorem oL_4 : opsOf 4 = [rP 0, rP 1, rP 2] := by kernel_rfl
set_option maxRecDepth 100000 in
set_option maxHeartbeats 4000000 in
theorem oW_4 (w : World) : OpR 4 w := by
  unfold OpR
  rw [oL_4]
  go_enter Tryd.func11, Tryd.ntmps11
  go_wp2_with (first | (go_at_call 16; refine (plain_any _ _).mono ?_; rintro e u ⟨rfl, rfl⟩) | (go_at_call 17; refine (vector_any _ _).mono ?_; rintro e u ⟨rfl, rfl⟩) | (go_at_call 18; refine (signed12 _).mono ?_; rintro e u ⟨rfl, rfl⟩) | (go_at_call 18; refine (signed20 _).mono ?_; rintro e u ⟨rfl, rfl⟩))
  go_ret
  exact ⟨_, rfl, World.ownsRow_lit _ _ _ (Nat.le_refl _) (by decide) rfl, (Below.refl _ _).alloc (Nat.le_refl _) _⟩
theorem oL_5 : opsOf 5 = [rP 0, rP 1, rP 2] := by kernel_rfl
set_option maxRecDepth 100000 in
set_option maxHeartbeats 4000000 in
theorem oW_5 (w : World) : OpR 5 w := by
  unfold OpR
  rw [oL_5]
  go_enter Tryd.func11, Tryd.ntmps11
  go_wp2_with (first | (go_at_call 16; refine (plain_any _ _).mono ?_; rintro e u ⟨rfl, rfl⟩) | (go_at_call 17; refine (vector_any _ _).mono ?_; rintro e u ⟨rfl, rfl⟩) | (go_at_call 18; refine (signed12 _).mono ?_; rintro e u ⟨rfl, rfl⟩) | (go_at_call 18; refine (signed20 _).mono ?_; rintro e u ⟨rfl, rfl⟩))
  go_ret
  exact ⟨_, rfl, World.ownsRow_lit _ _ _ (Nat.le_refl _) (by decide) rfl, (Below.refl _ _).alloc (Nat.le_refl _) _⟩
theorem oL_6 : opsOf 6 = [rP 0, rP 1, rP 2] := by kernel_rfl
set_option maxRecDepth 100000 in
set_option maxHeartbeats 4000000 in
theorem oW_6 (w : World) : OpR 6 w := by
  unfold OpR
  rw [oL_6]
  go_enter Tryd.func11, Tryd.ntmps11
  go_wp2_with (first | (go_at_call 16; refine (plain_any _ _).mono ?_; rintro e u ⟨rfl, rfl⟩) | (go_at_call 17; refine (vector_any _ _).mono ?_; rintro e u ⟨rfl, rfl⟩) | (go_at_call 18; refine (signed12 _).mono ?_; rintro e u ⟨rfl, rfl⟩) | (go_at_call 18; refine (signed20 _).mono ?_; rintro e u ⟨rfl, rfl⟩))
  go_ret
  exact ⟨_, rfl, World.ownsRow_lit _ _ _ (Nat.le_refl _) (by decide) rfl, (Below.refl _ _).alloc (Nat.le_refl _) _⟩
theorem oL_7 : opsOf 7 = [rP 0, rP 1, rP 2] := by kernel_rfl
set_option maxRecDepth 100000 in
set_option maxHeartbeats 4000000 in
theorem oW_7 (w : World) : OpR 7 w := by
  unfold OpR
  rw [oL_7]
  go_enter Tryd.func11, Tryd.ntmps11
  go_wp2_with (first | (go_at_call 16; refine (plain_any _ _).mono ?_; rintro e u ⟨rfl, rfl⟩) | (go_at_call 17; refine (vector_any _ _).mono ?_; rintro e u ⟨rfl, rfl⟩) | (go_at_call 18; refine (signed12 _).mono ?_; rintro e u ⟨rfl, rfl⟩) | (go_at_call 18; refine (signed20 _).mono ?_; rintro e u ⟨rfl, rfl⟩))
  go_ret
  exact ⟨_, rfl, World.ownsRow_lit _ _ _ (Nat.le_refl _) (by decide) rfl, (Below.refl _ _).alloc (Nat.le_refl _) _⟩
theorem oL_8 : opsOf 8 = [rP 0, rP 1, rP 2] := by kernel_rfl
set_option maxRecDepth 100000 in
set_option maxHeartbeats 4000000 in
theorem oW_8 (w : World) : OpR 8 w := by
  unfold OpR
  rw [oL_8]
  go_enter Tryd.func11, Tryd.ntmps11
  go_wp2_with (first | (go_at_call 16; refine (plain_any _ _).mono ?_; rintro e u ⟨rfl, rfl⟩) | (go_at_call 17; refine (vector_any _ _).mono ?_; rintro e u ⟨rfl, rfl⟩) | (go_at_call 18; refine (signed12 _).mono ?_; rintro e u ⟨rfl, rfl⟩) | (go_at_call 18; refine (signed20 _).mono ?_; rintro e u ⟨rfl, rfl⟩))
  go_ret
  exact ⟨_, rfl, World.ownsRow_lit _ _ _ (Nat.le_refl _) (by decide) rfl, (Below.refl _ _).alloc (Nat.le_refl _) _⟩
theorem oL_9 : opsOf 9 = [rP 0, rP 1, rP 2] := by kernel_rfl
set_option maxRecDepth 100000 in
set_option maxHeartbeats 4000000 in
theorem oW_9 (w : World) : OpR 9 w := by
  unfold OpR
  rw [oL_9]
  go_enter Tryd.func11, Tryd.ntmps11
  go_wp2_with (first | (go_at_call 16; refine (plain_any _ _).mono ?_; rintro e u ⟨rfl, rfl⟩) | (go_at_call 17; refine (vector_any _ _).mono ?_; rintro e u ⟨rfl, rfl⟩) | (go_at_call 18; refine (signed12 _).mono ?_; rintro e u ⟨rfl, rfl⟩) | (go_at_call 18; refine (signed20 _).mono ?_; rintro e u ⟨rfl, rfl⟩))
  go_ret
  exact ⟨_, rfl, World.ownsRow_lit _ _ _ (Nat.le_refl _) (by decide) rfl, (Below.refl _ _).alloc (Nat.le_refl _) _⟩
theorem oL_10 : opsOf 10 = [rP 0, rP 1, rP 2] := by kernel_rfl
set_option maxRecDepth 100000 in
set_option maxHeartbeats 4000000 in
theorem oW_10 (w : World) : OpR 10 w := by
  unfold OpR
  rw [oL_10]
  go_enter Tryd.func11, Tryd.ntmps11
  go_wp2_with (first | (go_at_call 16; refine (plain_any _ _).mono ?_; rintro e u ⟨rfl, rfl⟩) | (go_at_call 17; refine (vector_any _ _).mono ?_; rintro e u ⟨rfl, rfl⟩) | (go_at_call 18; refine (signed12 _).mono ?_; rintro e u ⟨rfl, rfl⟩) | (go_at_call 18; refine (signed20 _).mono ?_; rintro e u ⟨rfl, rfl⟩))
  go_ret
  exact ⟨_, rfl, World.ownsRow_lit _ _ _ (Nat.le_refl _) (by decide) rfl, (Below.refl _ _).alloc (Nat.le_refl _) _⟩
theorem oL_11 : opsOf 11 = [rP 0, rP 1, rP 2] := by kernel_rfl
set_option maxRecDepth 100000 in
set_option maxHeartbeats 4000000 in
theorem oW_11 (w : World) : OpR 11 w := by
  unfold OpR
  rw [oL_11]
  go_enter Tryd.func11, Tryd.ntmps11
  go_wp2_with (first | (go_at_call 16; refine (plain_any _ _).mono ?_; rintro e u ⟨rfl, rfl⟩) | (go_at_call 17; refine (vector_any _ _).mono ?_; rintro e u ⟨rfl, rfl⟩) | (go_at_call 18; refine (signed12 _).mono ?_; rintro e u ⟨rfl, rfl⟩) | (go_at_call 18; refine (signed20 _).mono ?_; rintro e u ⟨rfl, rfl⟩))
  go_ret
  exact ⟨_, rfl, World.ownsRow_lit _ _ _ (Nat.le_refl _) (by decide) rfl, (Below.refl _ _).alloc (Nat.le_refl _) _⟩
theorem oL_12 : opsOf 12 = [rP 0, rP 1, rP 2] := by kernel_rfl
set_option maxRecDepth 100000 in
set_option maxHeartbeats 4000000 in
theorem oW_12 (w : World) : OpR 12 w := by
  unfold OpR
  rw [oL_12]
  go_enter Tryd.func11, Tryd.ntmps11
  go_wp2_with (first | (go_at_call 16; refine (plain_any _ _).mono ?_; rintro e u ⟨rfl, rfl⟩) | (go_at_call 17; refine (vector_any _ _).mono ?_; rintro e u ⟨rfl, rfl⟩) | (go_at_call 18; refine (signed12 _).mono ?_; rintro e u ⟨rfl, rfl⟩) | (go_at_call 18; refine (signed20 _).mono ?_; rintro e u ⟨rfl, rfl⟩))
  go_ret
  exact ⟨_, rfl, World.ownsRow_lit _ _ _ (Nat.le_refl _) (by decide) rfl, (Below.refl _ _).alloc (Nat.le_refl _) _⟩
theorem oL_13 : opsOf 13 = [rP 0, rP 1, rP 2] := by kernel_rfl
set_option maxRecDepth 100000 in
set_option maxHeartbeats 4000000 in
theorem oW_13 (w : World) : OpR 13 w := by
  unfold OpR
  rw [oL_13]
  go_enter Tryd.func11, Tryd.ntmps11
  go_wp2_with (first | (go_at_call 16; refine (plain_any _ _).mono ?_; rintro e u ⟨rfl, rfl⟩) | (go_at_call 17; refine (vector_any _ _).mono ?_; rintro e u ⟨rfl, rfl⟩) | (go_at_call 18; refine (signed12 _).mono ?_; rintro e u ⟨rfl, rfl⟩) | (go_at_call 18; refine (signed20 _).mono ?_; rintro e u ⟨rfl, rfl⟩))
  go_ret
  exact ⟨_, rfl, World.ownsRow_lit _ _ _ (Nat.le_refl _) (by decide) rfl, (Below.refl _ _).alloc (Nat.le_refl _) _⟩
theorem oL_14 : opsOf 14 = [] := by kernel_rfl
set_option maxRecDepth 100000 in
set_option maxHeartbeats 4000000 in
theorem oW_14 (w : World) : OpR 14 w := by
  unfold OpR
  rw [oL_14]
  go_enter Tryd.func11, Tryd.ntmps11
  go_wp2_with (first | (go_at_call 16; refine (plain_any _ _).mono ?_; rintro e u ⟨rfl, rfl⟩) | (go_at_call 17; refine (vector_any _ _).mono ?_; rintro e u ⟨rfl, rfl⟩) | (go_at_call 18; refine (signed12 _).mono ?_; rintro e u ⟨rfl, rfl⟩) | (go_at_call 18; refine (signed20 _).mono ?_; rintro e u ⟨rfl, rfl⟩))
  go_ret
  exact ⟨_, rfl, ⟨rfl, .inl ⟨rfl, rfl⟩⟩, Below.refl _ _⟩
theorem oL_15 : opsOf 15 = [] := by kernel_rfl
set_option maxRecDepth 100000 in
set_option maxHeartbeats 4000000 in
theorem oW_15 (w : World) : OpR 15 w := by
  unfold OpR
  rw [oL_15]
  go_enter Tryd.func11, Tryd.ntmps11
  go_wp2_with (first | (go_at_call 16; refine (plain_any _ _).mono ?_; rintro e u ⟨rfl, rfl⟩) | (go_at_call 17; refine (vector_any _ _).mono ?_; rintro e u ⟨rfl, rfl⟩) | (go_at_call 18; refine (signed12 _).mono ?_; rintro e u ⟨rfl, rfl⟩) | (go_at_call 18; refine (signed20 _).mono ?_; rintro e u ⟨rfl, rfl⟩))
  go_ret
  exact ⟨_, rfl, ⟨rfl, .inl ⟨rfl, rfl⟩⟩, Below.refl _ _⟩
theorem oL_16 : opsOf 16 = [rP 0, rP 1, .imm (-2048) 12] := by kernel_rfl
set_option maxRecDepth 100000 in
set_option maxHeartbeats 4000000 in
theorem oW_16 (w : World) : OpR 16 w := by
  unfold OpR
  rw [oL_16]
  go_enter Tryd.func11, Tryd.ntmps11
  go_wp2_with (first | (go_at_call 16; refine (plain_any _ _).mono ?_; rintro e u ⟨rfl, rfl⟩) | (go_at_call 17; refine (vector_any _ _).mono ?_; rintro e u ⟨rfl, rfl⟩) | (go_at_call 18; refine (signed12 _).mono ?_; rintro e u ⟨rfl, rfl⟩) | (go_at_call 18; refine (signed20 _).mono ?_; rintro e u ⟨rfl, rfl⟩))
  go_ret
  exact ⟨_, rfl, World.ownsRow_lit _ _ _ (Nat.le_refl _) (by decide) rfl, (Below.refl _ _).alloc (Nat.le_refl _) _⟩
theorem oL_17 : opsOf 17 = [rP 0, rP 1, .imm (-2048) 12] := by kernel_rfl
set_option maxRecDepth 100000 in
set_option maxHeartbeats 4000000 in
theorem oW_17 (w : World) : OpR 17 w := by
  unfold OpR
  rw [oL_17]
  go_enter Tryd.func11, Tryd.ntmps11
  go_wp2_with (first | (go_at_call 16; refine (plain_any _ _).mono ?_; rintro e u ⟨rfl, rfl⟩) | (go_at_call 17; refine (vector_any _ _).mono ?_; rintro e u ⟨rfl, rfl⟩) | (go_at_call 18; refine (signed12 _).mono ?_; rintro e u ⟨rfl, rfl⟩) | (go_at_call 18; refine (signed20 _).mono ?_; rintro e u ⟨rfl, rfl⟩))
  go_ret
  exact ⟨_, rfl, World.ownsRow_lit _ _ _ (Nat.le_refl _) (by decide) rfl, (Below.refl _ _).alloc (Nat.le_refl _) _⟩
theorem oL_18 : opsOf 18 = [rP 0, rP 1, .imm (-2048) 12] := by kernel_rfl
set_option maxRecDepth 100000 in
set_option maxHeartbeats 4000000 in
theorem oW_18 (w : World) : OpR 18 w := by
  unfold OpR
  rw [oL_18]
  go_enter Tryd.func11, Tryd.ntmps11
  go_wp2_with (first | (go_at_call 16; refine (plain_any _ _).mono ?_; rintro e u ⟨rfl, rfl⟩) | (go_at_call 17; refine (vector_any _ _).mono ?_; rintro e u ⟨rfl, rfl⟩) | (go_at_call 18; refine (signed12 _).mono ?_; rintro e u ⟨rfl, rfl⟩) | (go_at_call 18; refine (signed20 _).mono ?_; rintro e u ⟨rfl, rfl⟩))
  go_ret
  exact ⟨_, rfl, World.ownsRow_lit _ _ _ (Nat.le_refl _) (by decide) rfl, (Below.refl _ _).alloc (Nat.le_refl _) _⟩
end Go.Proofs.YtlpkkclmcgnapaaDoor
