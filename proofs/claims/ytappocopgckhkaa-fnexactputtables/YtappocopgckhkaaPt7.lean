import Derived.Test.YtappocopgckhkaaPt6
namespace Go.Proofs.Ytappocopgckhkaa
open Go.ChangeShapes Go.WideShapes Go.ChangeAt Go.RowKit

set_option maxRecDepth 100000 in
set_option maxHeartbeats 4000000 in
theorem l21Table_any (x : FT) (hb : x.body.size ≤ 1048576) (w : World) : Calls Try.prog 34 #[.agg #[.string x.name, .int .i64 x.rev, .string x.body]] w fun e w' => e = .returned (.string (if ftOk x = true then ftX x else ⟨#[]⟩)) ∧ Below w.heap.size w w' := by
  have HL0 : Hid (LG w (w.alloc (.cells #[.string x.name, .int .i64 x.rev, .string x.body] 55)) w.heap.size #[.string x.name, .int .i64 x.rev, .string x.body] 55) := LG.new w _ _
  have HN : Hid (∀ u, Calls Try.prog 62 #[.string x.name] u fun e w' => e = .returned (.bool (tnB x.name)) ∧ w' = u) := fun u => l21Name_any _ u
  have EO : Hid (ftOk x = (tnB x.name && decide (0 ≤ x.rev) && decide (x.rev ≤ 255) && (decide (0 ≤ (x.body.size : Int)) && decide ((x.body.size : Int) ≤ 200) && ((x.body.size : Int) % 4 == 0)))) := rfl
  obtain ⟨V, hV⟩ : ∃ V, (if ftOk x = true then ftX x else ⟨#[]⟩) = V := ⟨_, rfl⟩
  rw [hV]
  have E : Hid ((if ftOk x = true then ftX x else ⟨#[]⟩) = V) := hV
  clear hV
  have ht4 : ((x.body.size : Nat) : Int).tmod 4 = (x.body.size : Int) % 4 := Int.tmod_eq_emod_of_nonneg (by omega)
  cases qn : tnB x.name
  · rw [qn] at HN
    have E2 : Hid (V = ⟨#[]⟩) := (show V = _ by rw [← E.out]; exact if_neg (by rw [EO.out]; rw [qn]; simp))
    clear E EO
    go_enter Try.func34, Try.ntmps34
    go_upto_region 1 with fail
    generalize (w.alloc (.cells #[.string x.name, .int .i64 x.rev, .string x.body] 55)) = u0 at *
    generalize w.heap.size = q0 at *
    have k0 := HL0.out.cel 0 _ rfl
    have k1 := HL0.out.cel 1 _ rfl
    have k2 := HL0.out.cel 2 _ rfl
    have kl := HL0.out.lt
    go_wp2_with (go_at_call 62; refine Calls.mono (HN.out _) ?_; rintro e u1 ⟨rfl, hw1⟩; rw [hw1]; clear hw1)
    go_ret
    exact ⟨by rw [E2.out]; rfl, HL0.out.bel⟩
  rw [qn] at HN
  cases q1 : decide (x.rev < 0)
  rotate_left
  · have hq := of_decide_eq_true q1
    have E2 : Hid (V = ⟨#[]⟩) := (show V = _ by rw [← E.out]; exact if_neg (by rw [EO.out]; simp; intros; omega))
    clear E EO
    go_enter Try.func34, Try.ntmps34
    go_upto_region 1 with fail
    generalize (w.alloc (.cells #[.string x.name, .int .i64 x.rev, .string x.body] 55)) = u0 at *
    generalize w.heap.size = q0 at *
    have k0 := HL0.out.cel 0 _ rfl
    have k1 := HL0.out.cel 1 _ rfl
    have k2 := HL0.out.cel 2 _ rfl
    have kl := HL0.out.lt
    go_wp2_with (go_at_call 62; refine Calls.mono (HN.out _) ?_; rintro e u1 ⟨rfl, hw1⟩; rw [hw1]; clear hw1)
    go_ret
    exact ⟨by rw [E2.out]; rfl, HL0.out.bel⟩
  cases q2 : decide (255 < x.rev)
  rotate_left
  · have hq := of_decide_eq_true q2
    have E2 : Hid (V = ⟨#[]⟩) := (show V = _ by rw [← E.out]; exact if_neg (by rw [EO.out]; simp; intros; omega))
    clear E EO
    go_enter Try.func34, Try.ntmps34
    go_upto_region 1 with fail
    generalize (w.alloc (.cells #[.string x.name, .int .i64 x.rev, .string x.body] 55)) = u0 at *
    generalize w.heap.size = q0 at *
    have k0 := HL0.out.cel 0 _ rfl
    have k1 := HL0.out.cel 1 _ rfl
    have k2 := HL0.out.cel 2 _ rfl
    have kl := HL0.out.lt
    go_wp2_with (go_at_call 62; refine Calls.mono (HN.out _) ?_; rintro e u1 ⟨rfl, hw1⟩; rw [hw1]; clear hw1)
    go_ret
    exact ⟨by rw [E2.out]; rfl, HL0.out.bel⟩
  cases q3 : decide (200 < (x.body.size : Int))
  rotate_left
  · have hq := of_decide_eq_true q3
    have E2 : Hid (V = ⟨#[]⟩) := (show V = _ by rw [← E.out]; exact if_neg (by rw [EO.out]; simp; intros; omega))
    clear E EO
    go_enter Try.func34, Try.ntmps34
    go_upto_region 1 with fail
    generalize (w.alloc (.cells #[.string x.name, .int .i64 x.rev, .string x.body] 55)) = u0 at *
    generalize w.heap.size = q0 at *
    have k0 := HL0.out.cel 0 _ rfl
    have k1 := HL0.out.cel 1 _ rfl
    have k2 := HL0.out.cel 2 _ rfl
    have kl := HL0.out.lt
    go_wp2_with (go_at_call 62; refine Calls.mono (HN.out _) ?_; rintro e u1 ⟨rfl, hw1⟩; rw [hw1]; clear hw1)
    go_ret
    exact ⟨by rw [E2.out]; rfl, HL0.out.bel⟩
  cases q4 : ((x.body.size : Int) % 4 != 0)
  rotate_left
  · have hq : ¬ (x.body.size : Int) % 4 = 0 := by simpa using q4
    have E2 : Hid (V = ⟨#[]⟩) := (show V = _ by rw [← E.out]; exact if_neg (by rw [EO.out]; rw [show ((x.body.size : Int) % 4 == 0) = false from beq_eq_false_iff_ne.2 hq]; simp))
    clear E EO
    go_enter Try.func34, Try.ntmps34
    go_upto_region 1 with fail
    generalize (w.alloc (.cells #[.string x.name, .int .i64 x.rev, .string x.body] 55)) = u0 at *
    generalize w.heap.size = q0 at *
    have k0 := HL0.out.cel 0 _ rfl
    have k1 := HL0.out.cel 1 _ rfl
    have k2 := HL0.out.cel 2 _ rfl
    have kl := HL0.out.lt
    go_wp2_with (go_at_call 62; refine Calls.mono (HN.out _) ?_; rintro e u1 ⟨rfl, hw1⟩; rw [hw1]; clear hw1)
    go_ret
    exact ⟨by rw [E2.out]; rfl, HL0.out.bel⟩
  have hok : ftOk x = true := by
    have h1 := of_decide_eq_false q1
    have h2 := of_decide_eq_false q2
    have h3 := of_decide_eq_false q3
    have h4 : (x.body.size : Int) % 4 = 0 := by simpa using q4
    rw [EO.out, qn, show ((x.body.size : Int) % 4 == 0) = true from beq_iff_eq.2 h4]
    simp
    omega
  obtain ⟨b1, b2, b3, b4, b5⟩ := ftOk_b hok
  have E2 : Hid (V = x.name ++ pw (ftW x + (-(smb (x.name ++ pw (ftW x) ++ x.body) (x.name ++ pw (ftW x) ++ x.body).size)) % 256) ++ x.body) := (show V = _ by rw [← E.out, if_pos hok]; rfl)
  have HP : Hid (∀ n u, Calls Try.prog 33 #[.int .i64 n] u fun e w' => e = .returned (.string (pw n)) ∧ Below u.heap.size u w') := fun n u => specPutWord_any n u
  have eW : ((x.body.size : Int) + 8) * 65536 + x.rev * 256 = ftW x := by unfold ftW; omega
  have hWb : 0 ≤ ftW x ∧ ftW x ≤ 20000000 := by unfold ftW; omega
  have w1 : IntKind.i64.wrap (((x.body.size : Int) + 8) * 65536) = ((x.body.size : Int) + 8) * 65536 := by rw [IntKind.wrap_i64]; omega
  have w2 : IntKind.i64.wrap (x.rev * 256) = x.rev * 256 := by rw [IntKind.wrap_i64]; omega
  have w3 : IntKind.i64.wrap (((x.body.size : Int) + 8) * 65536 + x.rev * 256) = ftW x := by rw [eW, IntKind.wrap_i64]; omega
  have y1 := pw_sz (ftW x)
  have a1 := fun u => run_string_add_sum (P := Try.prog) u x.name (pw (ftW x)) (by omega)
  have z1 : (x.name ++ pw (ftW x)).size = 8 := by rw [ba_sz]; omega
  have a2 := fun u => run_string_add_sum (P := Try.prog) u (x.name ++ pw (ftW x)) x.body (by omega)
  have z2 : (x.name ++ pw (ftW x) ++ x.body).size ≤ 208 := by rw [ba_sz]; omega
  have HBY : Hid (∀ u, Calls Try.prog 63 #[.string (x.name ++ pw (ftW x) ++ x.body)] u fun e w' => e = .returned (.int .i64 (smb (x.name ++ pw (ftW x) ++ x.body) (x.name ++ pw (ftW x) ++ x.body).size)) ∧ w' = u) := fun u => l21Bytes_any _ (by omega) u
  have hsb := smb_b (x.name ++ pw (ftW x) ++ x.body) (x.name ++ pw (ftW x) ++ x.body).size
  have HMD : Hid (∀ n u, Calls Try.prog 53 #[.int .i64 n, .int .i64 256] u fun e w' => e = .returned (.int .i64 (n % 256)) ∧ w' = u) := fun n u => l01Mod_any n 256 u (by omega) (by omega)
  clear E EO hok eW
  generalize hJ : x.name ++ pw (ftW x) ++ x.body = J at *
  generalize hA : x.name ++ pw (ftW x) = A at *
  generalize smb J J.size = S at *
  have y2 := pw_sz (ftW x + (-S) % 256)
  have a3 := fun u => run_string_add_sum (P := Try.prog) u x.name (pw (ftW x + (-S) % 256)) (by omega)
  have z3 : (x.name ++ pw (ftW x + (-S) % 256)).size = 8 := by rw [ba_sz]; omega
  have a4 := fun u => run_string_add_sum (P := Try.prog) u (x.name ++ pw (ftW x + (-S) % 256)) x.body (by omega)
  have w4 : IntKind.i64.wrap (-S) = -S := by rw [IntKind.wrap_i64]; omega
  have w5 : IntKind.i64.wrap (ftW x + (-S) % 256) = ftW x + (-S) % 256 := by rw [IntKind.wrap_i64]; omega
  clear hJ hA hsb hWb z1 z2 z3 y1 y2
  generalize x.name ++ pw (ftW x + (-S) % 256) = B at *
  obtain ⟨WC, hWC⟩ : ∃ c, ftW x + (-S) % 256 = c := ⟨_, rfl⟩
  rw [hWC] at w5 a3
  generalize ftW x = W at *
  go_enter Try.func34, Try.ntmps34
  go_upto_region 1 with fail
  generalize (w.alloc (.cells #[.string x.name, .int .i64 x.rev, .string x.body] 55)) = u0 at *
  generalize hq0 : w.heap.size = q0 at HL0 ⊢
  have HQ0 : Hid (w.heap.size = q0) := hq0
  clear hq0
  have k0 := HL0.out.cel 0 _ rfl
  have k1 := HL0.out.cel 1 _ rfl
  have k2 := HL0.out.cel 2 _ rfl
  have kl := HL0.out.lt
  go_wp2_with fail
  refine Calls.mono (HN.out _) ?_
  rintro e u1 ⟨rfl, hw1⟩
  rw [hw1]
  clear hw1
  go_upto_region 4 with fail
  clear k0 k1 k2 kl q1 q2 q3 q4 w1 w2 w3
  have HZ0 : Hid (LG w u0.drew q0 #[.string x.name, .int .i64 x.rev, .string x.body] 55) := HL0.out.drew
  clear HL0
  refine wp_region_held (S := fun w9 => LG w w9 q0 #[.string x.name, .int .i64 x.rev, .string x.body] 55) (by kernel_rfl) ?_
  change wpAnyH _ _ _ _ _ _ _ _ (World.drew _)
  generalize u0.drew = x0 at *
  refine wpAnyH_take (i := 0) (v := .pointer (some ⟨q0, 0, none⟩)) rfl (by kernel_rfl) (by kernel_rfl) (by kernel_rfl) (fun _ _ _ h => h) (Or.inl ⟨by kernel_rfl, fun w9 h9 => ?_⟩) HZ0.out ?_
  · go_simp
  refine wpAnyH_take (i := 1) (v := .string x.name) rfl (by kernel_rfl) (by kernel_rfl) (by kernel_rfl) (fun _ _ _ h => h) (Or.inl ⟨by kernel_rfl, fun w9 h9 => ?_⟩) HZ0.out ?_
  · have k0 := h9.cel 0 _ rfl; have k1 := h9.cel 1 _ rfl; have k2 := h9.cel 2 _ rfl; have kl := h9.lt; clear h9; go_simp
  refine wpAnyH_take (i := 2) (v := .int .i64 W) rfl (by kernel_rfl) (by kernel_rfl) (by kernel_rfl) (fun _ _ _ h => h) (Or.inl ⟨by kernel_rfl, fun w9 h9 => ?_⟩) HZ0.out ?_
  · go_simp
  refine wpAnyH_take (i := 3) (v := .pointer (some ⟨q0, 0, none⟩)) rfl (by kernel_rfl) (by kernel_rfl) (by kernel_rfl) (fun _ _ _ h => h) (Or.inl ⟨by kernel_rfl, fun w9 h9 => ?_⟩) HZ0.out ?_
  · go_simp
  refine wpAnyH_take (i := 4) (v := .string x.name) rfl (by kernel_rfl) (by kernel_rfl) (by kernel_rfl) (fun _ _ _ h => h) (Or.inl ⟨by kernel_rfl, fun w9 h9 => ?_⟩) HZ0.out ?_
  · have k0 := h9.cel 0 _ rfl; have k1 := h9.cel 1 _ rfl; have k2 := h9.cel 2 _ rfl; have kl := h9.lt; clear h9; go_simp
  refine wpAnyH_take (i := 5) (v := .int .i64 W) rfl (by kernel_rfl) (by kernel_rfl) (by kernel_rfl) (fun _ _ _ h => h) (Or.inl ⟨by kernel_rfl, fun w9 h9 => ?_⟩) HZ0.out ?_
  · go_simp
  refine wpAnyH_take (i := 8) (v := .pointer (some ⟨q0, 2, none⟩)) rfl (by kernel_rfl) (by kernel_rfl) (by kernel_rfl) (fun _ _ _ h => h) (Or.inl ⟨by kernel_rfl, fun w9 h9 => ?_⟩) HZ0.out ?_
  · go_simp
  refine wpAnyH_take (i := 9) (v := .string x.body) rfl (by kernel_rfl) (by kernel_rfl) (by kernel_rfl) (fun _ _ _ h => h) (Or.inl ⟨by kernel_rfl, fun w9 h9 => ?_⟩) HZ0.out ?_
  · have k0 := h9.cel 0 _ rfl; have k1 := h9.cel 1 _ rfl; have k2 := h9.cel 2 _ rfl; have kl := h9.lt; clear h9; go_simp
  refine wpAnyH_take (i := 17) (v := .pointer (some ⟨q0, 2, none⟩)) rfl (by kernel_rfl) (by kernel_rfl) (by kernel_rfl) (fun _ _ _ h => h) (Or.inl ⟨by kernel_rfl, fun w9 h9 => ?_⟩) HZ0.out ?_
  · go_simp
  refine wpAnyH_take (i := 18) (v := .string x.body) rfl (by kernel_rfl) (by kernel_rfl) (by kernel_rfl) (fun _ _ _ h => h) (Or.inl ⟨by kernel_rfl, fun w9 h9 => ?_⟩) HZ0.out ?_
  · have k0 := h9.cel 0 _ rfl; have k1 := h9.cel 1 _ rfl; have k2 := h9.cel 2 _ rfl; have kl := h9.lt; clear h9; go_simp
  refine held_one 6 (by kernel_rfl) rfl (by kernel_rfl) fun K hK => ?_
  go_simp
  go_wp2_with (go_at_call 33; refine Calls.mono (HP.out _ _) ?_; rintro e x1 ⟨rfl, hb⟩; have HZ1 : Hid (LG w x1 q0 #[.string x.name, .int .i64 x.rev, .string x.body] 55) := HZ0.out.step hb; clear hb HZ0)
  refine hK _ _ HZ1.out ?_
  clear hK K
  refine wpAnyH_take (i := 7) (v := .string A) rfl (by kernel_rfl) (by kernel_rfl) (by kernel_rfl) (fun _ _ _ h => h) (Or.inl ⟨by kernel_rfl, fun w9 h9 => ?_⟩) HZ1.out ?_
  · go_simp
  refine wpAnyH_take (i := 10) (v := .string J) rfl (by kernel_rfl) (by kernel_rfl) (by kernel_rfl) (fun _ _ _ h => h) (Or.inl ⟨by kernel_rfl, fun w9 h9 => ?_⟩) HZ1.out ?_
  · go_simp
  refine held_one 11 (by kernel_rfl) rfl (by kernel_rfl) fun K hK => ?_
  go_simp
  go_wp2_with (go_at_call 63; refine Calls.mono (HBY.out _) ?_; rintro e x2 ⟨rfl, hw9⟩; have HZ2 : Hid (LG w x2 q0 #[.string x.name, .int .i64 x.rev, .string x.body] 55) := (show _ by rw [hw9]; exact HZ1.out); clear hw9 HZ1)
  refine hK _ _ HZ2.out ?_
  clear hK K
  refine wpAnyH_take (i := 12) (v := .int .i64 (-S)) rfl (by kernel_rfl) (by kernel_rfl) (by kernel_rfl) (fun _ _ _ h => h) (Or.inl ⟨by kernel_rfl, fun w9 h9 => ?_⟩) HZ2.out ?_
  · go_simp
  refine held_one 13 (by kernel_rfl) rfl (by kernel_rfl) fun K hK => ?_
  go_simp
  go_wp2_with (go_at_call 53; refine Calls.mono (HMD.out _ _) ?_; rintro e x3 ⟨rfl, hw9⟩; have HZ3 : Hid (LG w x3 q0 #[.string x.name, .int .i64 x.rev, .string x.body] 55) := (show _ by rw [hw9]; exact HZ2.out); clear hw9 HZ2)
  refine hK _ _ HZ3.out ?_
  clear hK K
  refine wpAnyH_take (i := 14) (v := .int .i64 WC) rfl (by kernel_rfl) (by kernel_rfl) (by kernel_rfl) (fun _ _ _ h => h) (Or.inl ⟨by kernel_rfl, fun w9 h9 => ?_⟩) HZ3.out ?_
  · go_simp
  refine held_one 15 (by kernel_rfl) rfl (by kernel_rfl) fun K hK => ?_
  go_simp
  go_wp2_with (go_at_call 33; refine Calls.mono (HP.out _ _) ?_; rintro e x4 ⟨rfl, hb⟩; have HZ4 : Hid (LG w x4 q0 #[.string x.name, .int .i64 x.rev, .string x.body] 55) := HZ3.out.step hb; clear hb HZ3)
  refine hK _ _ HZ4.out ?_
  clear hK K
  refine wpAnyH_take (i := 16) (v := .string B) rfl (by kernel_rfl) (by kernel_rfl) (by kernel_rfl) (fun _ _ _ h => h) (Or.inl ⟨by kernel_rfl, fun w9 h9 => ?_⟩) HZ4.out ?_
  · go_simp
  refine wpAnyH_take (i := 19) (v := .string (B ++ x.body)) rfl (by kernel_rfl) (by kernel_rfl) (by kernel_rfl) (fun _ _ _ h => h) (Or.inl ⟨by kernel_rfl, fun w9 h9 => ?_⟩) HZ4.out ?_
  · go_simp
  refine wpAnyH_take (i := 20) (v := .string (B ++ x.body)) rfl (by kernel_rfl) (by kernel_rfl) (by kernel_rfl) (fun _ _ _ h => h) (Or.inl ⟨by kernel_rfl, fun w9 h9 => ?_⟩) HZ4.out ?_
  · go_simp
  refine wpAnyH_done (by kernel_rfl) ?_ _
  go_simp
  go_wp2
  go_ret
  exact ⟨by rw [E2.out]; rfl, by first | exact HZ4.out.bel | (rw [← HQ0.out]; exact HZ4.out.bel)⟩
end Go.Proofs.Ytappocopgckhkaa
