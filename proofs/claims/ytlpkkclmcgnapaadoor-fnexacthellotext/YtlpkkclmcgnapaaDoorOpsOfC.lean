import Derived.Test.YtlpkkclmcgnapaaDoorOpd
namespace Go.Proofs.YtlpkkclmcgnapaaDoor
open Go.ChangeShapes Go.WideShapes Go.ChangeAt Go.RowKit

theorem oL_37 : opsOf 37 = [rP 0, rP 1, .imm (-2048) 12] := by kernel_rfl
set_option maxRecDepth 100000 in
set_option maxHeartbeats 4000000 in
theorem oW_37 (w : World) : OpR 37 w := by
  unfold OpR
  rw [oL_37]
  go_enter Tryd.func11, Tryd.ntmps11
  go_wp2_with (first | (go_at_call 16; refine (plain_any _ _).mono ?_; rintro e u ⟨rfl, rfl⟩) | (go_at_call 17; refine (vector_any _ _).mono ?_; rintro e u ⟨rfl, rfl⟩) | (go_at_call 18; refine (signed12 _).mono ?_; rintro e u ⟨rfl, rfl⟩) | (go_at_call 18; refine (signed20 _).mono ?_; rintro e u ⟨rfl, rfl⟩))
  go_ret
  exact ⟨_, rfl, World.ownsRow_lit _ _ _ (Nat.le_refl _) (by decide) rfl, (Below.refl _ _).alloc (Nat.le_refl _) _⟩
theorem oL_38 : opsOf 38 = [] := by kernel_rfl
set_option maxRecDepth 100000 in
set_option maxHeartbeats 4000000 in
theorem oW_38 (w : World) : OpR 38 w := by
  unfold OpR
  rw [oL_38]
  go_enter Tryd.func11, Tryd.ntmps11
  go_wp2_with (first | (go_at_call 16; refine (plain_any _ _).mono ?_; rintro e u ⟨rfl, rfl⟩) | (go_at_call 17; refine (vector_any _ _).mono ?_; rintro e u ⟨rfl, rfl⟩) | (go_at_call 18; refine (signed12 _).mono ?_; rintro e u ⟨rfl, rfl⟩) | (go_at_call 18; refine (signed20 _).mono ?_; rintro e u ⟨rfl, rfl⟩))
  go_ret
  exact ⟨_, rfl, ⟨rfl, .inl ⟨rfl, rfl⟩⟩, Below.refl _ _⟩
theorem oL_39 : opsOf 39 = [] := by kernel_rfl
set_option maxRecDepth 100000 in
set_option maxHeartbeats 4000000 in
theorem oW_39 (w : World) : OpR 39 w := by
  unfold OpR
  rw [oL_39]
  go_enter Tryd.func11, Tryd.ntmps11
  go_wp2_with (first | (go_at_call 16; refine (plain_any _ _).mono ?_; rintro e u ⟨rfl, rfl⟩) | (go_at_call 17; refine (vector_any _ _).mono ?_; rintro e u ⟨rfl, rfl⟩) | (go_at_call 18; refine (signed12 _).mono ?_; rintro e u ⟨rfl, rfl⟩) | (go_at_call 18; refine (signed20 _).mono ?_; rintro e u ⟨rfl, rfl⟩))
  go_ret
  exact ⟨_, rfl, ⟨rfl, .inl ⟨rfl, rfl⟩⟩, Below.refl _ _⟩
theorem oL_40 : opsOf 40 = [] := by kernel_rfl
set_option maxRecDepth 100000 in
set_option maxHeartbeats 4000000 in
theorem oW_40 (w : World) : OpR 40 w := by
  unfold OpR
  rw [oL_40]
  go_enter Tryd.func11, Tryd.ntmps11
  go_wp2_with (first | (go_at_call 16; refine (plain_any _ _).mono ?_; rintro e u ⟨rfl, rfl⟩) | (go_at_call 17; refine (vector_any _ _).mono ?_; rintro e u ⟨rfl, rfl⟩) | (go_at_call 18; refine (signed12 _).mono ?_; rintro e u ⟨rfl, rfl⟩) | (go_at_call 18; refine (signed20 _).mono ?_; rintro e u ⟨rfl, rfl⟩))
  go_ret
  exact ⟨_, rfl, ⟨rfl, .inl ⟨rfl, rfl⟩⟩, Below.refl _ _⟩
theorem oL_41 : opsOf 41 = [] := by kernel_rfl
set_option maxRecDepth 100000 in
set_option maxHeartbeats 4000000 in
theorem oW_41 (w : World) : OpR 41 w := by
  unfold OpR
  rw [oL_41]
  go_enter Tryd.func11, Tryd.ntmps11
  go_wp2_with (first | (go_at_call 16; refine (plain_any _ _).mono ?_; rintro e u ⟨rfl, rfl⟩) | (go_at_call 17; refine (vector_any _ _).mono ?_; rintro e u ⟨rfl, rfl⟩) | (go_at_call 18; refine (signed12 _).mono ?_; rintro e u ⟨rfl, rfl⟩) | (go_at_call 18; refine (signed20 _).mono ?_; rintro e u ⟨rfl, rfl⟩))
  go_ret
  exact ⟨_, rfl, ⟨rfl, .inl ⟨rfl, rfl⟩⟩, Below.refl _ _⟩
theorem oL_42 : opsOf 42 = [] := by kernel_rfl
set_option maxRecDepth 100000 in
set_option maxHeartbeats 4000000 in
theorem oW_42 (w : World) : OpR 42 w := by
  unfold OpR
  rw [oL_42]
  go_enter Tryd.func11, Tryd.ntmps11
  go_wp2_with (first | (go_at_call 16; refine (plain_any _ _).mono ?_; rintro e u ⟨rfl, rfl⟩) | (go_at_call 17; refine (vector_any _ _).mono ?_; rintro e u ⟨rfl, rfl⟩) | (go_at_call 18; refine (signed12 _).mono ?_; rintro e u ⟨rfl, rfl⟩) | (go_at_call 18; refine (signed20 _).mono ?_; rintro e u ⟨rfl, rfl⟩))
  go_ret
  exact ⟨_, rfl, ⟨rfl, .inl ⟨rfl, rfl⟩⟩, Below.refl _ _⟩
theorem oL_43 : opsOf 43 = [rP 0, .imm (-2048) 12] := by kernel_rfl
set_option maxRecDepth 100000 in
set_option maxHeartbeats 4000000 in
theorem oW_43 (w : World) : OpR 43 w := by
  unfold OpR
  rw [oL_43]
  go_enter Tryd.func11, Tryd.ntmps11
  go_wp2_with (first | (go_at_call 16; refine (plain_any _ _).mono ?_; rintro e u ⟨rfl, rfl⟩) | (go_at_call 17; refine (vector_any _ _).mono ?_; rintro e u ⟨rfl, rfl⟩) | (go_at_call 18; refine (signed12 _).mono ?_; rintro e u ⟨rfl, rfl⟩) | (go_at_call 18; refine (signed20 _).mono ?_; rintro e u ⟨rfl, rfl⟩))
  go_ret
  exact ⟨_, rfl, World.ownsRow_lit _ _ _ (Nat.le_refl _) (by decide) rfl, (Below.refl _ _).alloc (Nat.le_refl _) _⟩
theorem oL_44 : opsOf 44 = [rP 0, .imm (-2048) 12] := by kernel_rfl
set_option maxRecDepth 100000 in
set_option maxHeartbeats 4000000 in
theorem oW_44 (w : World) : OpR 44 w := by
  unfold OpR
  rw [oL_44]
  go_enter Tryd.func11, Tryd.ntmps11
  go_wp2_with (first | (go_at_call 16; refine (plain_any _ _).mono ?_; rintro e u ⟨rfl, rfl⟩) | (go_at_call 17; refine (vector_any _ _).mono ?_; rintro e u ⟨rfl, rfl⟩) | (go_at_call 18; refine (signed12 _).mono ?_; rintro e u ⟨rfl, rfl⟩) | (go_at_call 18; refine (signed20 _).mono ?_; rintro e u ⟨rfl, rfl⟩))
  go_ret
  exact ⟨_, rfl, World.ownsRow_lit _ _ _ (Nat.le_refl _) (by decide) rfl, (Below.refl _ _).alloc (Nat.le_refl _) _⟩
theorem oL_45 : opsOf 45 = [] := by kernel_rfl
set_option maxRecDepth 100000 in
set_option maxHeartbeats 4000000 in
theorem oW_45 (w : World) : OpR 45 w := by
  unfold OpR
  rw [oL_45]
  go_enter Tryd.func11, Tryd.ntmps11
  go_wp2_with (first | (go_at_call 16; refine (plain_any _ _).mono ?_; rintro e u ⟨rfl, rfl⟩) | (go_at_call 17; refine (vector_any _ _).mono ?_; rintro e u ⟨rfl, rfl⟩) | (go_at_call 18; refine (signed12 _).mono ?_; rintro e u ⟨rfl, rfl⟩) | (go_at_call 18; refine (signed20 _).mono ?_; rintro e u ⟨rfl, rfl⟩))
  go_ret
  exact ⟨_, rfl, ⟨rfl, .inl ⟨rfl, rfl⟩⟩, Below.refl _ _⟩
theorem oL_46 : opsOf 46 = [rP 0, .imm (-2048) 12] := by kernel_rfl
set_option maxRecDepth 100000 in
set_option maxHeartbeats 4000000 in
theorem oW_46 (w : World) : OpR 46 w := by
  unfold OpR
  rw [oL_46]
  go_enter Tryd.func11, Tryd.ntmps11
  go_wp2_with (first | (go_at_call 16; refine (plain_any _ _).mono ?_; rintro e u ⟨rfl, rfl⟩) | (go_at_call 17; refine (vector_any _ _).mono ?_; rintro e u ⟨rfl, rfl⟩) | (go_at_call 18; refine (signed12 _).mono ?_; rintro e u ⟨rfl, rfl⟩) | (go_at_call 18; refine (signed20 _).mono ?_; rintro e u ⟨rfl, rfl⟩))
  go_ret
  exact ⟨_, rfl, World.ownsRow_lit _ _ _ (Nat.le_refl _) (by decide) rfl, (Below.refl _ _).alloc (Nat.le_refl _) _⟩
theorem oL_47 : opsOf 47 = [rP 0, .imm (-2048) 12] := by kernel_rfl
set_option maxRecDepth 100000 in
set_option maxHeartbeats 4000000 in
theorem oW_47 (w : World) : OpR 47 w := by
  unfold OpR
  rw [oL_47]
  go_enter Tryd.func11, Tryd.ntmps11
  go_wp2_with (first | (go_at_call 16; refine (plain_any _ _).mono ?_; rintro e u ⟨rfl, rfl⟩) | (go_at_call 17; refine (vector_any _ _).mono ?_; rintro e u ⟨rfl, rfl⟩) | (go_at_call 18; refine (signed12 _).mono ?_; rintro e u ⟨rfl, rfl⟩) | (go_at_call 18; refine (signed20 _).mono ?_; rintro e u ⟨rfl, rfl⟩))
  go_ret
  exact ⟨_, rfl, World.ownsRow_lit _ _ _ (Nat.le_refl _) (by decide) rfl, (Below.refl _ _).alloc (Nat.le_refl _) _⟩
theorem oL_48 : opsOf 48 = [.imm (-2048) 12] := by kernel_rfl
set_option maxRecDepth 100000 in
set_option maxHeartbeats 4000000 in
theorem oW_48 (w : World) : OpR 48 w := by
  unfold OpR
  rw [oL_48]
  go_enter Tryd.func11, Tryd.ntmps11
  go_wp2_with (first | (go_at_call 16; refine (plain_any _ _).mono ?_; rintro e u ⟨rfl, rfl⟩) | (go_at_call 17; refine (vector_any _ _).mono ?_; rintro e u ⟨rfl, rfl⟩) | (go_at_call 18; refine (signed12 _).mono ?_; rintro e u ⟨rfl, rfl⟩) | (go_at_call 18; refine (signed20 _).mono ?_; rintro e u ⟨rfl, rfl⟩))
  go_ret
  exact ⟨_, rfl, World.ownsRow_lit _ _ _ (Nat.le_refl _) (by decide) rfl, (Below.refl _ _).alloc (Nat.le_refl _) _⟩
theorem oL_49 : opsOf 49 = [] := by kernel_rfl
set_option maxRecDepth 100000 in
set_option maxHeartbeats 4000000 in
theorem oW_49 (w : World) : OpR 49 w := by
  unfold OpR
  rw [oL_49]
  go_enter Tryd.func11, Tryd.ntmps11
  go_wp2_with (first | (go_at_call 16; refine (plain_any _ _).mono ?_; rintro e u ⟨rfl, rfl⟩) | (go_at_call 17; refine (vector_any _ _).mono ?_; rintro e u ⟨rfl, rfl⟩) | (go_at_call 18; refine (signed12 _).mono ?_; rintro e u ⟨rfl, rfl⟩) | (go_at_call 18; refine (signed20 _).mono ?_; rintro e u ⟨rfl, rfl⟩))
  go_ret
  exact ⟨_, rfl, ⟨rfl, .inl ⟨rfl, rfl⟩⟩, Below.refl _ _⟩
theorem oL_50 : opsOf 50 = [] := by kernel_rfl
set_option maxRecDepth 100000 in
set_option maxHeartbeats 4000000 in
theorem oW_50 (w : World) : OpR 50 w := by
  unfold OpR
  rw [oL_50]
  go_enter Tryd.func11, Tryd.ntmps11
  go_wp2_with (first | (go_at_call 16; refine (plain_any _ _).mono ?_; rintro e u ⟨rfl, rfl⟩) | (go_at_call 17; refine (vector_any _ _).mono ?_; rintro e u ⟨rfl, rfl⟩) | (go_at_call 18; refine (signed12 _).mono ?_; rintro e u ⟨rfl, rfl⟩) | (go_at_call 18; refine (signed20 _).mono ?_; rintro e u ⟨rfl, rfl⟩))
  go_ret
  exact ⟨_, rfl, ⟨rfl, .inl ⟨rfl, rfl⟩⟩, Below.refl _ _⟩
theorem oL_51 : opsOf 51 = [] := by kernel_rfl
set_option maxRecDepth 100000 in
set_option maxHeartbeats 4000000 in
theorem oW_51 (w : World) : OpR 51 w := by
  unfold OpR
  rw [oL_51]
  go_enter Tryd.func11, Tryd.ntmps11
  go_wp2_with (first | (go_at_call 16; refine (plain_any _ _).mono ?_; rintro e u ⟨rfl, rfl⟩) | (go_at_call 17; refine (vector_any _ _).mono ?_; rintro e u ⟨rfl, rfl⟩) | (go_at_call 18; refine (signed12 _).mono ?_; rintro e u ⟨rfl, rfl⟩) | (go_at_call 18; refine (signed20 _).mono ?_; rintro e u ⟨rfl, rfl⟩))
  go_ret
  exact ⟨_, rfl, ⟨rfl, .inl ⟨rfl, rfl⟩⟩, Below.refl _ _⟩
theorem oL_52 : opsOf 52 = [vP 0, rP 1] := by kernel_rfl
set_option maxRecDepth 100000 in
set_option maxHeartbeats 4000000 in
theorem oW_52 (w : World) : OpR 52 w := by
  unfold OpR
  rw [oL_52]
  go_enter Tryd.func11, Tryd.ntmps11
  go_wp2_with (first | (go_at_call 16; refine (plain_any _ _).mono ?_; rintro e u ⟨rfl, rfl⟩) | (go_at_call 17; refine (vector_any _ _).mono ?_; rintro e u ⟨rfl, rfl⟩) | (go_at_call 18; refine (signed12 _).mono ?_; rintro e u ⟨rfl, rfl⟩) | (go_at_call 18; refine (signed20 _).mono ?_; rintro e u ⟨rfl, rfl⟩))
  go_ret
  exact ⟨_, rfl, World.ownsRow_lit _ _ _ (Nat.le_refl _) (by decide) rfl, (Below.refl _ _).alloc (Nat.le_refl _) _⟩
theorem oL_53 : opsOf 53 = [vP 0, rP 1] := by kernel_rfl
set_option maxRecDepth 100000 in
set_option maxHeartbeats 4000000 in
theorem oW_53 (w : World) : OpR 53 w := by
  unfold OpR
  rw [oL_53]
  go_enter Tryd.func11, Tryd.ntmps11
  go_wp2_with (first | (go_at_call 16; refine (plain_any _ _).mono ?_; rintro e u ⟨rfl, rfl⟩) | (go_at_call 17; refine (vector_any _ _).mono ?_; rintro e u ⟨rfl, rfl⟩) | (go_at_call 18; refine (signed12 _).mono ?_; rintro e u ⟨rfl, rfl⟩) | (go_at_call 18; refine (signed20 _).mono ?_; rintro e u ⟨rfl, rfl⟩))
  go_ret
  exact ⟨_, rfl, World.ownsRow_lit _ _ _ (Nat.le_refl _) (by decide) rfl, (Below.refl _ _).alloc (Nat.le_refl _) _⟩
theorem oL_54 : opsOf 54 = [vP 0, vP 1, vP 2] := by kernel_rfl
set_option maxRecDepth 100000 in
set_option maxHeartbeats 4000000 in
theorem oW_54 (w : World) : OpR 54 w := by
  unfold OpR
  rw [oL_54]
  go_enter Tryd.func11, Tryd.ntmps11
  go_wp2_with (first | (go_at_call 16; refine (plain_any _ _).mono ?_; rintro e u ⟨rfl, rfl⟩) | (go_at_call 17; refine (vector_any _ _).mono ?_; rintro e u ⟨rfl, rfl⟩) | (go_at_call 18; refine (signed12 _).mono ?_; rintro e u ⟨rfl, rfl⟩) | (go_at_call 18; refine (signed20 _).mono ?_; rintro e u ⟨rfl, rfl⟩))
  go_ret
  exact ⟨_, rfl, World.ownsRow_lit _ _ _ (Nat.le_refl _) (by decide) rfl, (Below.refl _ _).alloc (Nat.le_refl _) _⟩
end Go.Proofs.YtlpkkclmcgnapaaDoor
