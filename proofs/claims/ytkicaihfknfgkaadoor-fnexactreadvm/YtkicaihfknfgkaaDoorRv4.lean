import Derived.Test.YtkicaihfknfgkaaDoorRvX
import Derived.Test.YtkicaihfknfgkaaDoorAvZ
namespace Go.Proofs.YtkicaihfknfgkaaDoor
open Go.ChangeShapes Go.WideShapes Go.ChangeAt Go.RowKit

def RvI (u2 : World) (g1 o1 c2 : Nat) (X0 X1 X2 X3 X4 X5 : ByteArray) (N0 N1 N2 N3 N4 : Int) (bb0 bb1 bb2 bb3 bb4 bb5 bb6 bb7 bb8 bb9 bb10 bb11 bb12 bb13 bb14 bb15 bb16 bb17 bb18 bb19 bb20 bb21 bb22 bb23 bb24 bb25 : Bool) (v16 v17 v18 v19 v20 v21 v22 v23 v24 v25 v26 v27 v28 v29 v30 v31 v32 v33 v34 v35 v36 v37 v38 v39 v4 : Value) (u : World) : Prop :=
  ((bb25 = false ∧ (bb0 = true → v16 = .slice (some ⟨g1, o1, none⟩) 6 c2) ∧ (bb1 = true → v17 = .pointer (some ⟨g1, o1, none⟩)) ∧ (bb2 = true → v18 = .string X0) ∧ (bb3 = true → v19 = .slice (some ⟨g1, o1, none⟩) 6 c2) ∧ (bb4 = true → v20 = .pointer (some ⟨g1, o1 + 1, none⟩)) ∧ (bb5 = true → v21 = .string X1) ∧ (bb6 = true → v22 = .int .i64 N0) ∧ (bb7 = true → v23 = .slice (some ⟨g1, o1, none⟩) 6 c2) ∧ (bb8 = true → v24 = .pointer (some ⟨g1, o1 + 2, none⟩)) ∧ (bb9 = true → v25 = .string X2) ∧ (bb10 = true → v26 = .int .i64 N1) ∧ (bb11 = true → v27 = .slice (some ⟨g1, o1, none⟩) 6 c2) ∧ (bb12 = true → v28 = .pointer (some ⟨g1, o1 + 3, none⟩)) ∧ (bb13 = true → v29 = .string X3) ∧ (bb14 = true → v30 = .int .i64 N2) ∧ (bb15 = true → v31 = .slice (some ⟨g1, o1, none⟩) 6 c2) ∧ (bb16 = true → v32 = .pointer (some ⟨g1, o1 + 4, none⟩)) ∧ (bb17 = true → v33 = .string X4) ∧ (bb18 = true → v34 = .int .i64 N3) ∧ (bb19 = true → v35 = .slice (some ⟨g1, o1, none⟩) 6 c2) ∧ (bb20 = true → v36 = .pointer (some ⟨g1, o1 + 5, none⟩)) ∧ (bb21 = true → v37 = .string X5) ∧ (bb22 = true → v38 = .int .i64 N4) ∧ (bb23 = true → v39 = .agg #[.string X0, .int .i64 N0, .int .i64 N1, .int .i64 N2, .int .i64 N3, .int .i64 N4, .string ⟨#[]⟩, .int .i64 0]) ∧ (bb24 = true → KB u2 u #[.string ⟨#[]⟩, .int .i64 0, .int .i64 0, .int .i64 0, .int .i64 0, .int .i64 0, .string ⟨#[]⟩, .int .i64 0] 23 v4)) ∨ (bb0 = true ∧ bb1 = true ∧ bb2 = true ∧ bb3 = true ∧ bb4 = true ∧ bb5 = true ∧ bb6 = true ∧ bb7 = true ∧ bb8 = true ∧ bb9 = true ∧ bb10 = true ∧ bb11 = true ∧ bb12 = true ∧ bb13 = true ∧ bb14 = true ∧ bb15 = true ∧ bb16 = true ∧ bb17 = true ∧ bb18 = true ∧ bb19 = true ∧ bb20 = true ∧ bb21 = true ∧ bb22 = true ∧ bb23 = true ∧ bb24 = true ∧ bb25 = true ∧ v16 = .slice (some ⟨g1, o1, none⟩) 6 c2 ∧ v17 = .pointer (some ⟨g1, o1, none⟩) ∧ v18 = .string X0 ∧ v19 = .slice (some ⟨g1, o1, none⟩) 6 c2 ∧ v20 = .pointer (some ⟨g1, o1 + 1, none⟩) ∧ v21 = .string X1 ∧ v22 = .int .i64 N0 ∧ v23 = .slice (some ⟨g1, o1, none⟩) 6 c2 ∧ v24 = .pointer (some ⟨g1, o1 + 2, none⟩) ∧ v25 = .string X2 ∧ v26 = .int .i64 N1 ∧ v27 = .slice (some ⟨g1, o1, none⟩) 6 c2 ∧ v28 = .pointer (some ⟨g1, o1 + 3, none⟩) ∧ v29 = .string X3 ∧ v30 = .int .i64 N2 ∧ v31 = .slice (some ⟨g1, o1, none⟩) 6 c2 ∧ v32 = .pointer (some ⟨g1, o1 + 4, none⟩) ∧ v33 = .string X4 ∧ v34 = .int .i64 N3 ∧ v35 = .slice (some ⟨g1, o1, none⟩) 6 c2 ∧ v36 = .pointer (some ⟨g1, o1 + 5, none⟩) ∧ v37 = .string X5 ∧ v38 = .int .i64 N4 ∧ v39 = .agg #[.string X0, .int .i64 N0, .int .i64 N1, .int .i64 N2, .int .i64 N3, .int .i64 N4, .string ⟨#[]⟩, .int .i64 0] ∧ KB u2 u #[.string X0, .int .i64 N0, .int .i64 N1, .int .i64 N2, .int .i64 N3, .int .i64 N4, .string ⟨#[]⟩, .int .i64 0] 23 v4))
set_option maxRecDepth 100000 in
set_option maxHeartbeats 8000000 in
theorem specRV_any (t : ByteArray) (hs : t.size ≤ 1048576) (w : World) :
    Calls Tryd.prog 5 #[.string t] w fun e w' => e = .returned (.agg #[.string (rvS t).name, .int .i64 (rvS t).tenant, .int .i64 (rvS t).cpu, .int .i64 (rvS t).mem, .int .i64 (rvS t).zone, .int .i64 (rvS t).apart, .string (rvS t).node, .int .i64 (rvS t).epoch]) ∧ Below w.heap.size w w' := by
  have HL0 : Hid (LG w (w.alloc (.cells #[.string ⟨#[]⟩, .int .i64 0, .int .i64 0, .int .i64 0, .int .i64 0, .int .i64 0, .string ⟨#[]⟩, .int .i64 0] 23)) w.heap.size #[.string ⟨#[]⟩, .int .i64 0, .int .i64 0, .int .i64 0, .int .i64 0, .int .i64 0, .string ⟨#[]⟩, .int .i64 0] 23) := LG.new w _ _
  have HSP : Hid (∀ u, Calls Tryd.prog 11 #[.string t, .int .u8 32] u fun e w' => ∃ v, e = .returned v ∧ Srow w' v (splitB t 32) ∧ Below u.heap.size u w') := fun u => Calls.mono (l01Split_any t 32 u hs) (by rintro e w' ⟨v, rfl, ho, hb⟩; exact ⟨v, rfl, Srow.of ho, hb⟩)
  have HSZ : Hid (∀ k, (wd (splitB t 32) k).size ≤ 1048576) := (by
    intro k
    unfold wd
    rw [List.getD_eq_getElem?_getD]
    cases hk : (splitB t 32)[k]? with
    | none => exact Nat.zero_le _
    | some x => have h9 := wd_size (List.mem_of_getElem? hk); simpa using Nat.le_trans h9 hs)
  have hln := splitB_len t
  have HE : Hid (rvS t = if t.size ≤ 200 ∧ (splitB t 32).length = 6 ∧ vtV (svM (splitB t 32)) = t then svM (splitB t 32) else vmc0) := rfl
  have HSM : Hid (svM (splitB t 32) = ⟨wd (splitB t 32) 0, l23V vk0 (wd (splitB t 32) 1), l23V vk1 (wd (splitB t 32) 2), l23V vk2 (wd (splitB t 32) 3), l23V vk3 (wd (splitB t 32) 4), l23V vk4 (wd (splitB t 32) 5), ⟨#[]⟩, 0⟩) := rfl
  generalize splitB t 32 = ws at *
  have hz0 : (0 : Int) ≤ (t.size : Int) := by omega
  have hz1 : (t.size : Int) ≤ 1048576 := by omega
  have hl0 : (0 : Int) ≤ (ws.length : Int) := by omega
  have hl1 : (ws.length : Int) ≤ 1048577 := by omega
  have hll : ws.length ≤ 1048577 := by omega
  clear hs hln
  cases hbig : decide (200 < (t.size : Int))
  rotate_left
  · have hb2 : 200 < t.size := by have := of_decide_eq_true hbig; omega
    have E : Hid (rvS t = vmc0) := (show _ = _ by rw [HE.out, if_neg (by omega)])
    clear HE hb2
    generalize rvS t = V at *
    go_enter Tryd.func5, Tryd.ntmps5
    go_upto_region 1 with fail
    generalize (w.alloc (.cells #[.string ⟨#[]⟩, .int .i64 0, .int .i64 0, .int .i64 0, .int .i64 0, .int .i64 0, .string ⟨#[]⟩, .int .i64 0] 23)) = u0 at *
    generalize hbb : w.heap.size = b0 at HL0 ⊢
    have HB9 : Hid (w.heap.size = b0) := hbb
    clear hbb
    go_upto_region 2 with (go_at_call 11; refine Calls.mono (HSP.out _) ?_; rintro e u2 ⟨v2, rfl, hr, hb⟩; have HR2 : Hid (Srow u2 v2 ws) := hr; have HL2 : Hid (LG w u2 b0 #[.string ⟨#[]⟩, .int .i64 0, .int .i64 0, .int .i64 0, .int .i64 0, .int .i64 0, .string ⟨#[]⟩, .int .i64 0] 23) := HL0.out.step hb; clear hr hb)
    have k0 := HL2.out.cel 0 _ rfl
    have k1 := HL2.out.cel 1 _ rfl
    have k2 := HL2.out.cel 2 _ rfl
    have k3 := HL2.out.cel 3 _ rfl
    have k4 := HL2.out.cel 4 _ rfl
    have k5 := HL2.out.cel 5 _ rfl
    have k6 := HL2.out.cel 6 _ rfl
    have k7 := HL2.out.cel 7 _ rfl
    have kl := HL2.out.lt
    have kf := HL2.out.frz
    go_wp2
    refine bodyPost_ret (v := .agg #[.string ⟨#[]⟩, .int .i64 0, .int .i64 0, .int .i64 0, .int .i64 0, .int .i64 0, .string ⟨#[]⟩, .int .i64 0]) ?_ rfl ⟨by rw [E.out]; rfl, ?_⟩
    · simp only [results, Tryd.results5, go_sem]
      simp [go_sem, k0, k1, k2, k3, k4, k5, k6, k7]
    · have hb9 := HL2.out.bel
      rw [HB9.out] at hb9
      first | rw [HB9.out] | skip
      repeat refine Below.setCell ?_ (by simp only; omega) _
      exact hb9
  have hbz : t.size ≤ 200 := by have := of_decide_eq_false hbig; omega
  by_cases hsix : ws.length = 6
  rotate_left
  · have E : Hid (rvS t = vmc0) := (show _ = _ by rw [HE.out, if_neg (by omega)])
    have hd : ((ws.length : Int) != 6) = true := by simp; omega
    clear HE hsix
    generalize rvS t = V at *
    go_enter Tryd.func5, Tryd.ntmps5
    go_upto_region 1 with fail
    generalize (w.alloc (.cells #[.string ⟨#[]⟩, .int .i64 0, .int .i64 0, .int .i64 0, .int .i64 0, .int .i64 0, .string ⟨#[]⟩, .int .i64 0] 23)) = u0 at *
    generalize hbb : w.heap.size = b0 at HL0 ⊢
    have HB9 : Hid (w.heap.size = b0) := hbb
    clear hbb
    go_upto_region 2 with (go_at_call 11; refine Calls.mono (HSP.out _) ?_; rintro e u2 ⟨v2, rfl, hr, hb⟩; obtain ⟨a2, c2, rfl⟩ := hr.sl; have HR2 : Hid (Srow u2 (.slice a2 ws.length c2) ws) := hr; have HL2 : Hid (LG w u2 b0 #[.string ⟨#[]⟩, .int .i64 0, .int .i64 0, .int .i64 0, .int .i64 0, .int .i64 0, .string ⟨#[]⟩, .int .i64 0] 23) := HL0.out.step hb; clear hr hb)
    have k0 := HL2.out.cel 0 _ rfl
    have k1 := HL2.out.cel 1 _ rfl
    have k2 := HL2.out.cel 2 _ rfl
    have k3 := HL2.out.cel 3 _ rfl
    have k4 := HL2.out.cel 4 _ rfl
    have k5 := HL2.out.cel 5 _ rfl
    have k6 := HL2.out.cel 6 _ rfl
    have k7 := HL2.out.cel 7 _ rfl
    have kl := HL2.out.lt
    have kf := HL2.out.frz
    go_wp2
    refine bodyPost_ret (v := .agg #[.string ⟨#[]⟩, .int .i64 0, .int .i64 0, .int .i64 0, .int .i64 0, .int .i64 0, .string ⟨#[]⟩, .int .i64 0]) ?_ rfl ⟨by rw [E.out]; rfl, ?_⟩
    · simp only [results, Tryd.results5, go_sem]
      simp [go_sem, k0, k1, k2, k3, k4, k5, k6, k7]
    · have hb9 := HL2.out.bel
      rw [HB9.out] at hb9
      first | rw [HB9.out] | skip
      repeat refine Below.setCell ?_ (by simp only; omega) _
      exact hb9
  go_enter Tryd.func5, Tryd.ntmps5
  go_upto_region 1 with fail
  generalize (w.alloc (.cells #[.string ⟨#[]⟩, .int .i64 0, .int .i64 0, .int .i64 0, .int .i64 0, .int .i64 0, .string ⟨#[]⟩, .int .i64 0] 23)) = u0 at *
  generalize hbb : w.heap.size = b0 at HL0 ⊢
  have HB9 : Hid (w.heap.size = b0) := hbb
  clear hbb
  have E6 : Hid (ws.length = 6) := hsix
  clear hsix
  go_upto_region 4 with (go_at_call 11; refine Calls.mono (HSP.out _) ?_; rintro e u2 ⟨v2, rfl, hr, hb⟩; obtain ⟨a2, c2, e2⟩ := hr.sl; rw [E6.out] at e2; subst e2; have HR2 : Hid (Srow u2 (.slice a2 6 c2) ws) := hr; have HL2 : Hid (LG w u2 b0 #[.string ⟨#[]⟩, .int .i64 0, .int .i64 0, .int .i64 0, .int .i64 0, .int .i64 0, .string ⟨#[]⟩, .int .i64 0] 23) := HL0.out.step hb; clear hr hb)
  clear HL0 HSP
  obtain ⟨g1, o1, cap, hv, hcp, hg1, hsat⟩ := HR2.out.resolve_left (fun h => by have h9 := E6.out; rw [h.1] at h9; simp at h9)
  rw [E6.out] at hv
  injection hv with hv1 hv2 hv3
  subst hv1 hv3
  clear hv2
  have HWD0 : Hid (∀ u, Below u2.heap.size u2 u → ∀ k, k < 6 → u.cell? ⟨g1, o1 + k, none⟩ = some (.string (wd ws k))) := (by
    intro u hu k hk
    have h9 := hsat k (by have := E6.out; omega)
    rw [World.cell?_of_block (hu.block g1 hg1), h9]
    unfold wd
    rw [List.getD_eq_getElem?_getD, List.getElem?_eq_getElem (by have := E6.out; omega)]
    rfl)
  have HLW : Hid (∀ u, Below u2.heap.size u2 u → g1 < u.heap.size) := fun u hu => Nat.lt_of_lt_of_le hg1 hu.size
  have HV0 : Hid (∀ u, Calls Tryd.prog 12 #[.string (wd ws 1), .string ⟨#[116, 101, 110, 97, 110, 116]⟩] u fun e w' => e = .returned (.int .i64 (l23V vk0 (wd ws 1))) ∧ Below u.heap.size u w') := fun u => l23Value_any _ vk0 _ (by decide +kernel) (by decide) (HSZ.out _) u
  have HV1 : Hid (∀ u, Calls Tryd.prog 12 #[.string (wd ws 2), .string ⟨#[99, 112, 117]⟩] u fun e w' => e = .returned (.int .i64 (l23V vk1 (wd ws 2))) ∧ Below u.heap.size u w') := fun u => l23Value_any _ vk1 _ (by decide +kernel) (by decide) (HSZ.out _) u
  have HV2 : Hid (∀ u, Calls Tryd.prog 12 #[.string (wd ws 3), .string ⟨#[109, 101, 109]⟩] u fun e w' => e = .returned (.int .i64 (l23V vk2 (wd ws 3))) ∧ Below u.heap.size u w') := fun u => l23Value_any _ vk2 _ (by decide +kernel) (by decide) (HSZ.out _) u
  have HV3 : Hid (∀ u, Calls Tryd.prog 12 #[.string (wd ws 4), .string ⟨#[122, 111, 110, 101]⟩] u fun e w' => e = .returned (.int .i64 (l23V vk3 (wd ws 4))) ∧ Below u.heap.size u w') := fun u => l23Value_any _ vk3 _ (by decide +kernel) (by decide) (HSZ.out _) u
  have HV4 : Hid (∀ u, Calls Tryd.prog 12 #[.string (wd ws 5), .string ⟨#[97, 112, 97, 114, 116]⟩] u fun e w' => e = .returned (.int .i64 (l23V vk4 (wd ws 5))) ∧ Below u.heap.size u w') := fun u => l23Value_any _ vk4 _ (by decide +kernel) (by decide) (HSZ.out _) u
  have HE2 : Hid (rvS t = if vtV (svM ws) = t then svM ws else vmc0) := (show _ = _ by rw [HE.out]; have := E6.out; simp only [hbz, this, true_and])
  have HVT : Hid (∀ u, Calls Tryd.prog 10 #[.agg #[.string (svM ws).name, .int .i64 (svM ws).tenant, .int .i64 (svM ws).cpu, .int .i64 (svM ws).mem, .int .i64 (svM ws).zone, .int .i64 (svM ws).apart, .string (svM ws).node, .int .i64 (svM ws).epoch]] u fun e w' => e = .returned (.string (vtV (svM ws))) ∧ Below u.heap.size u w') := fun u => specVT_any _ u
  clear HE HR2 hcp hg1 hsat HSZ hbz E6
  generalize svM ws = SM at *
  have hsm : SM = _ := HSM.out
  subst hsm
  clear HSM
  generalize l23V vk0 (wd ws 1) = N0 at *
  generalize l23V vk1 (wd ws 2) = N1 at *
  generalize l23V vk2 (wd ws 3) = N2 at *
  generalize l23V vk3 (wd ws 4) = N3 at *
  generalize l23V vk4 (wd ws 5) = N4 at *
  have HWD : Hid (∀ u, Below u2.heap.size u2 u → ∀ k, k < 6 → u.cell? ⟨g1, o1 + k, none⟩ = some (.string ([wd ws 0, wd ws 1, wd ws 2, wd ws 3, wd ws 4, wd ws 5].getD k ⟨#[]⟩))) := (by
    intro u hu k hk
    rw [HWD0.out u hu k hk]
    obtain rfl | rfl | rfl | rfl | rfl | rfl : k = 0 ∨ k = 1 ∨ k = 2 ∨ k = 3 ∨ k = 4 ∨ k = 5 := by omega
    all_goals rfl)
  clear HWD0
  generalize wd ws 0 = X0 at *
  generalize wd ws 1 = X1 at *
  generalize wd ws 2 = X2 at *
  generalize wd ws 3 = X3 at *
  generalize wd ws 4 = X4 at *
  generalize wd ws 5 = X5 at *
  generalize hY : vtV ⟨X0, N0, N1, N2, N3, N4, ⟨#[]⟩, 0⟩ = Y at *
  clear hY hl0 hl1 hll
  refine wp_region_any (by kernel_rfl) ?_
  refine wpAny_inv (fun LL a9 u => ∃ (bb0 bb1 bb2 bb3 bb4 bb5 bb6 bb7 bb8 bb9 bb10 bb11 bb12 bb13 bb14 bb15 bb16 bb17 bb18 bb19 bb20 bb21 bb22 bb23 bb24 bb25 : Bool) (v16 v17 v18 v19 v20 v21 v22 v23 v24 v25 v26 v27 v28 v29 v30 v31 v32 v33 v34 v35 v36 v37 v38 v39 v4 : Value), LL = #[bb0, bb1, bb2, bb3, bb4, bb5, bb6, bb7, bb8, bb9, bb10, bb11, bb12, bb13, bb14, bb15, bb16, bb17, bb18, bb19, bb20, bb21, bb22, bb23, bb24, bb25] ∧ a9 = { tmps := ((.string t) :: (undef) :: (.pointer (some ⟨b0, 0, none⟩)) :: (.slice (some ⟨g1, o1, none⟩) 6 c2) :: (v4) :: (.string t) :: (.slice (some ⟨g1, o1, none⟩) 6 c2) :: (.string t) :: (.int .i64 (t.size : Int)) :: (.bool false) :: (.bool false) :: (.slice (some ⟨g1, o1, none⟩) 6 c2) :: (.int .i64 6) :: (.bool false) :: (.bool false) :: (undef) :: (v16) :: (v17) :: (v18) :: (v19) :: (v20) :: (v21) :: (v22) :: (v23) :: (v24) :: (v25) :: (v26) :: (v27) :: (v28) :: (v29) :: (v30) :: (v31) :: (v32) :: (v33) :: (v34) :: (v35) :: (v36) :: (v37) :: (v38) :: (v39) :: (undef) :: (undef) :: (undef) :: (undef) :: (undef) :: (undef) :: []).toArray, defers := [] } ∧ Below u2.heap.size u2 u ∧ RvI u2 g1 o1 c2 X0 X1 X2 X3 X4 X5 N0 N1 N2 N3 N4 bb0 bb1 bb2 bb3 bb4 bb5 bb6 bb7 bb8 bb9 bb10 bb11 bb12 bb13 bb14 bb15 bb16 bb17 bb18 bb19 bb20 bb21 bb22 bb23 bb24 bb25 v16 v17 v18 v19 v20 v21 v22 v23 v24 v25 v26 v27 v28 v29 v30 v31 v32 v33 v34 v35 v36 v37 v38 v39 v4 u) ?hs ?hd _ _ _ _ (by decide) ?st
  case st => exact ⟨false, false, false, false, false, false, false, false, false, false, false, false, false, false, false, false, false, false, false, false, false, false, false, false, false, false, undef, undef, undef, undef, undef, undef, undef, undef, undef, undef, undef, undef, undef, undef, undef, undef, undef, undef, undef, undef, undef, undef, undef, undef, undef, rfl, rfl, (Below.refl _ _).drew, Or.inl ⟨rfl, (fun e => by cases e), (fun e => by cases e), (fun e => by cases e), (fun e => by cases e), (fun e => by cases e), (fun e => by cases e), (fun e => by cases e), (fun e => by cases e), (fun e => by cases e), (fun e => by cases e), (fun e => by cases e), (fun e => by cases e), (fun e => by cases e), (fun e => by cases e), (fun e => by cases e), (fun e => by cases e), (fun e => by cases e), (fun e => by cases e), (fun e => by cases e), (fun e => by cases e), (fun e => by cases e), (fun e => by cases e), (fun e => by cases e), (fun e => by cases e), (fun e => by cases e)⟩⟩
  case hs =>
    rintro LL a9 u i ⟨bb0, bb1, bb2, bb3, bb4, bb5, bb6, bb7, bb8, bb9, bb10, bb11, bb12, bb13, bb14, bb15, bb16, bb17, bb18, bb19, bb20, bb21, bb22, bb23, bb24, bb25, v16, v17, v18, v19, v20, v21, v22, v23, v24, v25, v26, v27, v28, v29, v30, v31, v32, v33, v34, v35, v36, v37, v38, v39, v4, rfl, rfl, hB, hI⟩ hi
    obtain ⟨hf, o, ho, hall⟩ := mem_ready.1 hi
    have hi8 : i < 26 := (Array.getElem?_eq_some_iff.1 ho).1
    unfold RvI at hI
    rcases hI with ⟨rfl, h0, h1, h2, h3, h4, h5, h6, h7, h8, h9, h10, h11, h12, h13, h14, h15, h16, h17, h18, h19, h20, h21, h22, h23, h24⟩ | ⟨rfl, rfl, rfl, rfl, rfl, rfl, rfl, rfl, rfl, rfl, rfl, rfl, rfl, rfl, rfl, rfl, rfl, rfl, rfl, rfl, rfl, rfl, rfl, rfl, rfl, rfl, _⟩
    · obtain rfl | rfl | rfl | rfl | rfl | rfl | rfl | rfl | rfl | rfl | rfl | rfl | rfl | rfl | rfl | rfl | rfl | rfl | rfl | rfl | rfl | rfl | rfl | rfl | rfl | rfl : i = 0 ∨ i = 1 ∨ i = 2 ∨ i = 3 ∨ i = 4 ∨ i = 5 ∨ i = 6 ∨ i = 7 ∨ i = 8 ∨ i = 9 ∨ i = 10 ∨ i = 11 ∨ i = 12 ∨ i = 13 ∨ i = 14 ∨ i = 15 ∨ i = 16 ∨ i = 17 ∨ i = 18 ∨ i = 19 ∨ i = 20 ∨ i = 21 ∨ i = 22 ∨ i = 23 ∨ i = 24 ∨ i = 25 := by omega
      · obtain rfl : bb0 = false := hf
        have HB : Hid _ := hB
        have HH1 : Hid (bb1 = true → v17 = .pointer (some ⟨g1, o1, none⟩)) := h1
        have HH2 : Hid (bb2 = true → v18 = .string X0) := h2
        have HH3 : Hid (bb3 = true → v19 = .slice (some ⟨g1, o1, none⟩) 6 c2) := h3
        have HH4 : Hid (bb4 = true → v20 = .pointer (some ⟨g1, o1 + 1, none⟩)) := h4
        have HH5 : Hid (bb5 = true → v21 = .string X1) := h5
        have HH6 : Hid (bb6 = true → v22 = .int .i64 N0) := h6
        have HH7 : Hid (bb7 = true → v23 = .slice (some ⟨g1, o1, none⟩) 6 c2) := h7
        have HH8 : Hid (bb8 = true → v24 = .pointer (some ⟨g1, o1 + 2, none⟩)) := h8
        have HH9 : Hid (bb9 = true → v25 = .string X2) := h9
        have HH10 : Hid (bb10 = true → v26 = .int .i64 N1) := h10
        have HH11 : Hid (bb11 = true → v27 = .slice (some ⟨g1, o1, none⟩) 6 c2) := h11
        have HH12 : Hid (bb12 = true → v28 = .pointer (some ⟨g1, o1 + 3, none⟩)) := h12
        have HH13 : Hid (bb13 = true → v29 = .string X3) := h13
        have HH14 : Hid (bb14 = true → v30 = .int .i64 N2) := h14
        have HH15 : Hid (bb15 = true → v31 = .slice (some ⟨g1, o1, none⟩) 6 c2) := h15
        have HH16 : Hid (bb16 = true → v32 = .pointer (some ⟨g1, o1 + 4, none⟩)) := h16
        have HH17 : Hid (bb17 = true → v33 = .string X4) := h17
        have HH18 : Hid (bb18 = true → v34 = .int .i64 N3) := h18
        have HH19 : Hid (bb19 = true → v35 = .slice (some ⟨g1, o1, none⟩) 6 c2) := h19
        have HH20 : Hid (bb20 = true → v36 = .pointer (some ⟨g1, o1 + 5, none⟩)) := h20
        have HH21 : Hid (bb21 = true → v37 = .string X5) := h21
        have HH22 : Hid (bb22 = true → v38 = .int .i64 N4) := h22
        have HH23 : Hid (bb23 = true → v39 = .agg #[.string X0, .int .i64 N0, .int .i64 N1, .int .i64 N2, .int .i64 N3, .int .i64 N4, .string ⟨#[]⟩, .int .i64 0]) := h23
        have HH24 : Hid (bb24 = true → KB u2 u #[.string ⟨#[]⟩, .int .i64 0, .int .i64 0, .int .i64 0, .int .i64 0, .int .i64 0, .string ⟨#[]⟩, .int .i64 0] 23 v4) := h24
        clear hB hall hi h0 h1 h2 h3 h4 h5 h6 h7 h8 h9 h10 h11 h12 h13 h14 h15 h16 h17 h18 h19 h20 h21 h22 h23 h24
        refine wpOp_step rfl (fun K hK => ?_)
        go_simp
        exact hK _ _ ⟨true, bb1, bb2, bb3, bb4, bb5, bb6, bb7, bb8, bb9, bb10, bb11, bb12, bb13, bb14, bb15, bb16, bb17, bb18, bb19, bb20, bb21, bb22, bb23, bb24, false, _, v17, v18, v19, v20, v21, v22, v23, v24, v25, v26, v27, v28, v29, v30, v31, v32, v33, v34, v35, v36, v37, v38, v39, v4, rfl, rfl, HB.out, Or.inl ⟨rfl, fun _ => rfl, HH1.out, HH2.out, HH3.out, HH4.out, HH5.out, HH6.out, HH7.out, HH8.out, HH9.out, HH10.out, HH11.out, HH12.out, HH13.out, HH14.out, HH15.out, HH16.out, HH17.out, HH18.out, HH19.out, HH20.out, HH21.out, HH22.out, HH23.out, HH24.out⟩⟩
      · obtain rfl : bb1 = false := hf
        cases ho
        have hb0 : bb0 = true := hall { on := 0, ground := .data } (by simp) rfl
        have e0 := h0 hb0
        subst e0
        have HB : Hid _ := hB
        have HH2 : Hid (bb2 = true → v18 = .string X0) := h2
        have HH3 : Hid (bb3 = true → v19 = .slice (some ⟨g1, o1, none⟩) 6 c2) := h3
        have HH4 : Hid (bb4 = true → v20 = .pointer (some ⟨g1, o1 + 1, none⟩)) := h4
        have HH5 : Hid (bb5 = true → v21 = .string X1) := h5
        have HH6 : Hid (bb6 = true → v22 = .int .i64 N0) := h6
        have HH7 : Hid (bb7 = true → v23 = .slice (some ⟨g1, o1, none⟩) 6 c2) := h7
        have HH8 : Hid (bb8 = true → v24 = .pointer (some ⟨g1, o1 + 2, none⟩)) := h8
        have HH9 : Hid (bb9 = true → v25 = .string X2) := h9
        have HH10 : Hid (bb10 = true → v26 = .int .i64 N1) := h10
        have HH11 : Hid (bb11 = true → v27 = .slice (some ⟨g1, o1, none⟩) 6 c2) := h11
        have HH12 : Hid (bb12 = true → v28 = .pointer (some ⟨g1, o1 + 3, none⟩)) := h12
        have HH13 : Hid (bb13 = true → v29 = .string X3) := h13
        have HH14 : Hid (bb14 = true → v30 = .int .i64 N2) := h14
        have HH15 : Hid (bb15 = true → v31 = .slice (some ⟨g1, o1, none⟩) 6 c2) := h15
        have HH16 : Hid (bb16 = true → v32 = .pointer (some ⟨g1, o1 + 4, none⟩)) := h16
        have HH17 : Hid (bb17 = true → v33 = .string X4) := h17
        have HH18 : Hid (bb18 = true → v34 = .int .i64 N3) := h18
        have HH19 : Hid (bb19 = true → v35 = .slice (some ⟨g1, o1, none⟩) 6 c2) := h19
        have HH20 : Hid (bb20 = true → v36 = .pointer (some ⟨g1, o1 + 5, none⟩)) := h20
        have HH21 : Hid (bb21 = true → v37 = .string X5) := h21
        have HH22 : Hid (bb22 = true → v38 = .int .i64 N4) := h22
        have HH23 : Hid (bb23 = true → v39 = .agg #[.string X0, .int .i64 N0, .int .i64 N1, .int .i64 N2, .int .i64 N3, .int .i64 N4, .string ⟨#[]⟩, .int .i64 0]) := h23
        have HH24 : Hid (bb24 = true → KB u2 u #[.string ⟨#[]⟩, .int .i64 0, .int .i64 0, .int .i64 0, .int .i64 0, .int .i64 0, .string ⟨#[]⟩, .int .i64 0] 23 v4) := h24
        have HH0 : Hid _ := h0
        clear hB hall hi h0 h1 h2 h3 h4 h5 h6 h7 h8 h9 h10 h11 h12 h13 h14 h15 h16 h17 h18 h19 h20 h21 h22 h23 h24
        refine wpOp_step rfl (fun K hK => ?_)
        go_simp
        exact hK _ _ ⟨bb0, true, bb2, bb3, bb4, bb5, bb6, bb7, bb8, bb9, bb10, bb11, bb12, bb13, bb14, bb15, bb16, bb17, bb18, bb19, bb20, bb21, bb22, bb23, bb24, false, _, _, v18, v19, v20, v21, v22, v23, v24, v25, v26, v27, v28, v29, v30, v31, v32, v33, v34, v35, v36, v37, v38, v39, v4, rfl, rfl, HB.out, Or.inl ⟨rfl, HH0.out, fun _ => rfl, HH2.out, HH3.out, HH4.out, HH5.out, HH6.out, HH7.out, HH8.out, HH9.out, HH10.out, HH11.out, HH12.out, HH13.out, HH14.out, HH15.out, HH16.out, HH17.out, HH18.out, HH19.out, HH20.out, HH21.out, HH22.out, HH23.out, HH24.out⟩⟩
      · obtain rfl : bb2 = false := hf
        cases ho
        have hb1 : bb1 = true := hall { on := 1, ground := .data } (by simp) rfl
        have e1 := h1 hb1
        subst e1
        have c0 : u.cell? ⟨g1, o1, none⟩ = some (.string X0) := HWD.out u hB 0 (by omega)
        have cl : g1 < u.heap.size := HLW.out u hB
        have HB : Hid _ := hB
        have HH0 : Hid (bb0 = true → v16 = .slice (some ⟨g1, o1, none⟩) 6 c2) := h0
        have HH3 : Hid (bb3 = true → v19 = .slice (some ⟨g1, o1, none⟩) 6 c2) := h3
        have HH4 : Hid (bb4 = true → v20 = .pointer (some ⟨g1, o1 + 1, none⟩)) := h4
        have HH5 : Hid (bb5 = true → v21 = .string X1) := h5
        have HH6 : Hid (bb6 = true → v22 = .int .i64 N0) := h6
        have HH7 : Hid (bb7 = true → v23 = .slice (some ⟨g1, o1, none⟩) 6 c2) := h7
        have HH8 : Hid (bb8 = true → v24 = .pointer (some ⟨g1, o1 + 2, none⟩)) := h8
        have HH9 : Hid (bb9 = true → v25 = .string X2) := h9
        have HH10 : Hid (bb10 = true → v26 = .int .i64 N1) := h10
        have HH11 : Hid (bb11 = true → v27 = .slice (some ⟨g1, o1, none⟩) 6 c2) := h11
        have HH12 : Hid (bb12 = true → v28 = .pointer (some ⟨g1, o1 + 3, none⟩)) := h12
        have HH13 : Hid (bb13 = true → v29 = .string X3) := h13
        have HH14 : Hid (bb14 = true → v30 = .int .i64 N2) := h14
        have HH15 : Hid (bb15 = true → v31 = .slice (some ⟨g1, o1, none⟩) 6 c2) := h15
        have HH16 : Hid (bb16 = true → v32 = .pointer (some ⟨g1, o1 + 4, none⟩)) := h16
        have HH17 : Hid (bb17 = true → v33 = .string X4) := h17
        have HH18 : Hid (bb18 = true → v34 = .int .i64 N3) := h18
        have HH19 : Hid (bb19 = true → v35 = .slice (some ⟨g1, o1, none⟩) 6 c2) := h19
        have HH20 : Hid (bb20 = true → v36 = .pointer (some ⟨g1, o1 + 5, none⟩)) := h20
        have HH21 : Hid (bb21 = true → v37 = .string X5) := h21
        have HH22 : Hid (bb22 = true → v38 = .int .i64 N4) := h22
        have HH23 : Hid (bb23 = true → v39 = .agg #[.string X0, .int .i64 N0, .int .i64 N1, .int .i64 N2, .int .i64 N3, .int .i64 N4, .string ⟨#[]⟩, .int .i64 0]) := h23
        have HH24 : Hid (bb24 = true → KB u2 u #[.string ⟨#[]⟩, .int .i64 0, .int .i64 0, .int .i64 0, .int .i64 0, .int .i64 0, .string ⟨#[]⟩, .int .i64 0] 23 v4) := h24
        have HH1 : Hid _ := h1
        clear hB hall hi h0 h1 h2 h3 h4 h5 h6 h7 h8 h9 h10 h11 h12 h13 h14 h15 h16 h17 h18 h19 h20 h21 h22 h23 h24
        refine wpOp_step rfl (fun K hK => ?_)
        go_simp
        exact hK _ _ ⟨bb0, bb1, true, bb3, bb4, bb5, bb6, bb7, bb8, bb9, bb10, bb11, bb12, bb13, bb14, bb15, bb16, bb17, bb18, bb19, bb20, bb21, bb22, bb23, bb24, false, v16, _, _, v19, v20, v21, v22, v23, v24, v25, v26, v27, v28, v29, v30, v31, v32, v33, v34, v35, v36, v37, v38, v39, v4, rfl, rfl, HB.out, Or.inl ⟨rfl, HH0.out, HH1.out, fun _ => rfl, HH3.out, HH4.out, HH5.out, HH6.out, HH7.out, HH8.out, HH9.out, HH10.out, HH11.out, HH12.out, HH13.out, HH14.out, HH15.out, HH16.out, HH17.out, HH18.out, HH19.out, HH20.out, HH21.out, HH22.out, HH23.out, HH24.out⟩⟩
      · obtain rfl : bb3 = false := hf
        have HB : Hid _ := hB
        have HH0 : Hid (bb0 = true → v16 = .slice (some ⟨g1, o1, none⟩) 6 c2) := h0
        have HH1 : Hid (bb1 = true → v17 = .pointer (some ⟨g1, o1, none⟩)) := h1
        have HH2 : Hid (bb2 = true → v18 = .string X0) := h2
        have HH4 : Hid (bb4 = true → v20 = .pointer (some ⟨g1, o1 + 1, none⟩)) := h4
        have HH5 : Hid (bb5 = true → v21 = .string X1) := h5
        have HH6 : Hid (bb6 = true → v22 = .int .i64 N0) := h6
        have HH7 : Hid (bb7 = true → v23 = .slice (some ⟨g1, o1, none⟩) 6 c2) := h7
        have HH8 : Hid (bb8 = true → v24 = .pointer (some ⟨g1, o1 + 2, none⟩)) := h8
        have HH9 : Hid (bb9 = true → v25 = .string X2) := h9
        have HH10 : Hid (bb10 = true → v26 = .int .i64 N1) := h10
        have HH11 : Hid (bb11 = true → v27 = .slice (some ⟨g1, o1, none⟩) 6 c2) := h11
        have HH12 : Hid (bb12 = true → v28 = .pointer (some ⟨g1, o1 + 3, none⟩)) := h12
        have HH13 : Hid (bb13 = true → v29 = .string X3) := h13
        have HH14 : Hid (bb14 = true → v30 = .int .i64 N2) := h14
        have HH15 : Hid (bb15 = true → v31 = .slice (some ⟨g1, o1, none⟩) 6 c2) := h15
        have HH16 : Hid (bb16 = true → v32 = .pointer (some ⟨g1, o1 + 4, none⟩)) := h16
        have HH17 : Hid (bb17 = true → v33 = .string X4) := h17
        have HH18 : Hid (bb18 = true → v34 = .int .i64 N3) := h18
        have HH19 : Hid (bb19 = true → v35 = .slice (some ⟨g1, o1, none⟩) 6 c2) := h19
        have HH20 : Hid (bb20 = true → v36 = .pointer (some ⟨g1, o1 + 5, none⟩)) := h20
        have HH21 : Hid (bb21 = true → v37 = .string X5) := h21
        have HH22 : Hid (bb22 = true → v38 = .int .i64 N4) := h22
        have HH23 : Hid (bb23 = true → v39 = .agg #[.string X0, .int .i64 N0, .int .i64 N1, .int .i64 N2, .int .i64 N3, .int .i64 N4, .string ⟨#[]⟩, .int .i64 0]) := h23
        have HH24 : Hid (bb24 = true → KB u2 u #[.string ⟨#[]⟩, .int .i64 0, .int .i64 0, .int .i64 0, .int .i64 0, .int .i64 0, .string ⟨#[]⟩, .int .i64 0] 23 v4) := h24
        clear hB hall hi h0 h1 h2 h3 h4 h5 h6 h7 h8 h9 h10 h11 h12 h13 h14 h15 h16 h17 h18 h19 h20 h21 h22 h23 h24
        refine wpOp_step rfl (fun K hK => ?_)
        go_simp
        exact hK _ _ ⟨bb0, bb1, bb2, true, bb4, bb5, bb6, bb7, bb8, bb9, bb10, bb11, bb12, bb13, bb14, bb15, bb16, bb17, bb18, bb19, bb20, bb21, bb22, bb23, bb24, false, v16, v17, v18, _, v20, v21, v22, v23, v24, v25, v26, v27, v28, v29, v30, v31, v32, v33, v34, v35, v36, v37, v38, v39, v4, rfl, rfl, HB.out, Or.inl ⟨rfl, HH0.out, HH1.out, HH2.out, fun _ => rfl, HH4.out, HH5.out, HH6.out, HH7.out, HH8.out, HH9.out, HH10.out, HH11.out, HH12.out, HH13.out, HH14.out, HH15.out, HH16.out, HH17.out, HH18.out, HH19.out, HH20.out, HH21.out, HH22.out, HH23.out, HH24.out⟩⟩
      · obtain rfl : bb4 = false := hf
        cases ho
        have hb3 : bb3 = true := hall { on := 3, ground := .data } (by simp) rfl
        have e3 := h3 hb3
        subst e3
        have HB : Hid _ := hB
        have HH0 : Hid (bb0 = true → v16 = .slice (some ⟨g1, o1, none⟩) 6 c2) := h0
        have HH1 : Hid (bb1 = true → v17 = .pointer (some ⟨g1, o1, none⟩)) := h1
        have HH2 : Hid (bb2 = true → v18 = .string X0) := h2
        have HH5 : Hid (bb5 = true → v21 = .string X1) := h5
        have HH6 : Hid (bb6 = true → v22 = .int .i64 N0) := h6
        have HH7 : Hid (bb7 = true → v23 = .slice (some ⟨g1, o1, none⟩) 6 c2) := h7
        have HH8 : Hid (bb8 = true → v24 = .pointer (some ⟨g1, o1 + 2, none⟩)) := h8
        have HH9 : Hid (bb9 = true → v25 = .string X2) := h9
        have HH10 : Hid (bb10 = true → v26 = .int .i64 N1) := h10
        have HH11 : Hid (bb11 = true → v27 = .slice (some ⟨g1, o1, none⟩) 6 c2) := h11
        have HH12 : Hid (bb12 = true → v28 = .pointer (some ⟨g1, o1 + 3, none⟩)) := h12
        have HH13 : Hid (bb13 = true → v29 = .string X3) := h13
        have HH14 : Hid (bb14 = true → v30 = .int .i64 N2) := h14
        have HH15 : Hid (bb15 = true → v31 = .slice (some ⟨g1, o1, none⟩) 6 c2) := h15
        have HH16 : Hid (bb16 = true → v32 = .pointer (some ⟨g1, o1 + 4, none⟩)) := h16
        have HH17 : Hid (bb17 = true → v33 = .string X4) := h17
        have HH18 : Hid (bb18 = true → v34 = .int .i64 N3) := h18
        have HH19 : Hid (bb19 = true → v35 = .slice (some ⟨g1, o1, none⟩) 6 c2) := h19
        have HH20 : Hid (bb20 = true → v36 = .pointer (some ⟨g1, o1 + 5, none⟩)) := h20
        have HH21 : Hid (bb21 = true → v37 = .string X5) := h21
        have HH22 : Hid (bb22 = true → v38 = .int .i64 N4) := h22
        have HH23 : Hid (bb23 = true → v39 = .agg #[.string X0, .int .i64 N0, .int .i64 N1, .int .i64 N2, .int .i64 N3, .int .i64 N4, .string ⟨#[]⟩, .int .i64 0]) := h23
        have HH24 : Hid (bb24 = true → KB u2 u #[.string ⟨#[]⟩, .int .i64 0, .int .i64 0, .int .i64 0, .int .i64 0, .int .i64 0, .string ⟨#[]⟩, .int .i64 0] 23 v4) := h24
        have HH3 : Hid _ := h3
        clear hB hall hi h0 h1 h2 h3 h4 h5 h6 h7 h8 h9 h10 h11 h12 h13 h14 h15 h16 h17 h18 h19 h20 h21 h22 h23 h24
        refine wpOp_step rfl (fun K hK => ?_)
        go_simp
        exact hK _ _ ⟨bb0, bb1, bb2, bb3, true, bb5, bb6, bb7, bb8, bb9, bb10, bb11, bb12, bb13, bb14, bb15, bb16, bb17, bb18, bb19, bb20, bb21, bb22, bb23, bb24, false, v16, v17, v18, _, _, v21, v22, v23, v24, v25, v26, v27, v28, v29, v30, v31, v32, v33, v34, v35, v36, v37, v38, v39, v4, rfl, rfl, HB.out, Or.inl ⟨rfl, HH0.out, HH1.out, HH2.out, HH3.out, fun _ => rfl, HH5.out, HH6.out, HH7.out, HH8.out, HH9.out, HH10.out, HH11.out, HH12.out, HH13.out, HH14.out, HH15.out, HH16.out, HH17.out, HH18.out, HH19.out, HH20.out, HH21.out, HH22.out, HH23.out, HH24.out⟩⟩
      · obtain rfl : bb5 = false := hf
        cases ho
        have hb4 : bb4 = true := hall { on := 4, ground := .data } (by simp) rfl
        have e4 := h4 hb4
        subst e4
        have c0 : u.cell? ⟨g1, o1 + 1, none⟩ = some (.string X1) := HWD.out u hB 1 (by omega)
        have cl : g1 < u.heap.size := HLW.out u hB
        have HB : Hid _ := hB
        have HH0 : Hid (bb0 = true → v16 = .slice (some ⟨g1, o1, none⟩) 6 c2) := h0
        have HH1 : Hid (bb1 = true → v17 = .pointer (some ⟨g1, o1, none⟩)) := h1
        have HH2 : Hid (bb2 = true → v18 = .string X0) := h2
        have HH3 : Hid (bb3 = true → v19 = .slice (some ⟨g1, o1, none⟩) 6 c2) := h3
        have HH6 : Hid (bb6 = true → v22 = .int .i64 N0) := h6
        have HH7 : Hid (bb7 = true → v23 = .slice (some ⟨g1, o1, none⟩) 6 c2) := h7
        have HH8 : Hid (bb8 = true → v24 = .pointer (some ⟨g1, o1 + 2, none⟩)) := h8
        have HH9 : Hid (bb9 = true → v25 = .string X2) := h9
        have HH10 : Hid (bb10 = true → v26 = .int .i64 N1) := h10
        have HH11 : Hid (bb11 = true → v27 = .slice (some ⟨g1, o1, none⟩) 6 c2) := h11
        have HH12 : Hid (bb12 = true → v28 = .pointer (some ⟨g1, o1 + 3, none⟩)) := h12
        have HH13 : Hid (bb13 = true → v29 = .string X3) := h13
        have HH14 : Hid (bb14 = true → v30 = .int .i64 N2) := h14
        have HH15 : Hid (bb15 = true → v31 = .slice (some ⟨g1, o1, none⟩) 6 c2) := h15
        have HH16 : Hid (bb16 = true → v32 = .pointer (some ⟨g1, o1 + 4, none⟩)) := h16
        have HH17 : Hid (bb17 = true → v33 = .string X4) := h17
        have HH18 : Hid (bb18 = true → v34 = .int .i64 N3) := h18
        have HH19 : Hid (bb19 = true → v35 = .slice (some ⟨g1, o1, none⟩) 6 c2) := h19
        have HH20 : Hid (bb20 = true → v36 = .pointer (some ⟨g1, o1 + 5, none⟩)) := h20
        have HH21 : Hid (bb21 = true → v37 = .string X5) := h21
        have HH22 : Hid (bb22 = true → v38 = .int .i64 N4) := h22
        have HH23 : Hid (bb23 = true → v39 = .agg #[.string X0, .int .i64 N0, .int .i64 N1, .int .i64 N2, .int .i64 N3, .int .i64 N4, .string ⟨#[]⟩, .int .i64 0]) := h23
        have HH24 : Hid (bb24 = true → KB u2 u #[.string ⟨#[]⟩, .int .i64 0, .int .i64 0, .int .i64 0, .int .i64 0, .int .i64 0, .string ⟨#[]⟩, .int .i64 0] 23 v4) := h24
        have HH4 : Hid _ := h4
        clear hB hall hi h0 h1 h2 h3 h4 h5 h6 h7 h8 h9 h10 h11 h12 h13 h14 h15 h16 h17 h18 h19 h20 h21 h22 h23 h24
        refine wpOp_step rfl (fun K hK => ?_)
        go_simp
        exact hK _ _ ⟨bb0, bb1, bb2, bb3, bb4, true, bb6, bb7, bb8, bb9, bb10, bb11, bb12, bb13, bb14, bb15, bb16, bb17, bb18, bb19, bb20, bb21, bb22, bb23, bb24, false, v16, v17, v18, v19, _, _, v22, v23, v24, v25, v26, v27, v28, v29, v30, v31, v32, v33, v34, v35, v36, v37, v38, v39, v4, rfl, rfl, HB.out, Or.inl ⟨rfl, HH0.out, HH1.out, HH2.out, HH3.out, HH4.out, fun _ => rfl, HH6.out, HH7.out, HH8.out, HH9.out, HH10.out, HH11.out, HH12.out, HH13.out, HH14.out, HH15.out, HH16.out, HH17.out, HH18.out, HH19.out, HH20.out, HH21.out, HH22.out, HH23.out, HH24.out⟩⟩
      · obtain rfl : bb6 = false := hf
        cases ho
        have hb5 : bb5 = true := hall { on := 5, ground := .data } (by simp) rfl
        have e5 := h5 hb5
        subst e5
        have HC9 : Hid _ := HV0.out u
        have HB : Hid _ := hB
        have HH0 : Hid (bb0 = true → v16 = .slice (some ⟨g1, o1, none⟩) 6 c2) := h0
        have HH1 : Hid (bb1 = true → v17 = .pointer (some ⟨g1, o1, none⟩)) := h1
        have HH2 : Hid (bb2 = true → v18 = .string X0) := h2
        have HH3 : Hid (bb3 = true → v19 = .slice (some ⟨g1, o1, none⟩) 6 c2) := h3
        have HH4 : Hid (bb4 = true → v20 = .pointer (some ⟨g1, o1 + 1, none⟩)) := h4
        have HH7 : Hid (bb7 = true → v23 = .slice (some ⟨g1, o1, none⟩) 6 c2) := h7
        have HH8 : Hid (bb8 = true → v24 = .pointer (some ⟨g1, o1 + 2, none⟩)) := h8
        have HH9 : Hid (bb9 = true → v25 = .string X2) := h9
        have HH10 : Hid (bb10 = true → v26 = .int .i64 N1) := h10
        have HH11 : Hid (bb11 = true → v27 = .slice (some ⟨g1, o1, none⟩) 6 c2) := h11
        have HH12 : Hid (bb12 = true → v28 = .pointer (some ⟨g1, o1 + 3, none⟩)) := h12
        have HH13 : Hid (bb13 = true → v29 = .string X3) := h13
        have HH14 : Hid (bb14 = true → v30 = .int .i64 N2) := h14
        have HH15 : Hid (bb15 = true → v31 = .slice (some ⟨g1, o1, none⟩) 6 c2) := h15
        have HH16 : Hid (bb16 = true → v32 = .pointer (some ⟨g1, o1 + 4, none⟩)) := h16
        have HH17 : Hid (bb17 = true → v33 = .string X4) := h17
        have HH18 : Hid (bb18 = true → v34 = .int .i64 N3) := h18
        have HH19 : Hid (bb19 = true → v35 = .slice (some ⟨g1, o1, none⟩) 6 c2) := h19
        have HH20 : Hid (bb20 = true → v36 = .pointer (some ⟨g1, o1 + 5, none⟩)) := h20
        have HH21 : Hid (bb21 = true → v37 = .string X5) := h21
        have HH22 : Hid (bb22 = true → v38 = .int .i64 N4) := h22
        have HH23 : Hid (bb23 = true → v39 = .agg #[.string X0, .int .i64 N0, .int .i64 N1, .int .i64 N2, .int .i64 N3, .int .i64 N4, .string ⟨#[]⟩, .int .i64 0]) := h23
        have HH24 : Hid (bb24 = true → KB u2 u #[.string ⟨#[]⟩, .int .i64 0, .int .i64 0, .int .i64 0, .int .i64 0, .int .i64 0, .string ⟨#[]⟩, .int .i64 0] 23 v4) := h24
        have HH5 : Hid _ := h5
        clear hB hall hi h0 h1 h2 h3 h4 h5 h6 h7 h8 h9 h10 h11 h12 h13 h14 h15 h16 h17 h18 h19 h20 h21 h22 h23 h24
        refine wpOp_step rfl (fun K hK => ?_)
        go_simp
        refine Calls.mono HC9.out ?_
        rintro e9 u5 ⟨rfl, hb5⟩
        exact hK _ _ ⟨bb0, bb1, bb2, bb3, bb4, bb5, true, bb7, bb8, bb9, bb10, bb11, bb12, bb13, bb14, bb15, bb16, bb17, bb18, bb19, bb20, bb21, bb22, bb23, bb24, false, v16, v17, v18, v19, v20, _, _, v23, v24, v25, v26, v27, v28, v29, v30, v31, v32, v33, v34, v35, v36, v37, v38, v39, v4, rfl, rfl, Below.ups HB.out hb5, Or.inl ⟨rfl, HH0.out, HH1.out, HH2.out, HH3.out, HH4.out, HH5.out, fun _ => rfl, HH7.out, HH8.out, HH9.out, HH10.out, HH11.out, HH12.out, HH13.out, HH14.out, HH15.out, HH16.out, HH17.out, HH18.out, HH19.out, HH20.out, HH21.out, HH22.out, HH23.out, fun e => (HH24.out e).below hb5⟩⟩
      · obtain rfl : bb7 = false := hf
        have HB : Hid _ := hB
        have HH0 : Hid (bb0 = true → v16 = .slice (some ⟨g1, o1, none⟩) 6 c2) := h0
        have HH1 : Hid (bb1 = true → v17 = .pointer (some ⟨g1, o1, none⟩)) := h1
        have HH2 : Hid (bb2 = true → v18 = .string X0) := h2
        have HH3 : Hid (bb3 = true → v19 = .slice (some ⟨g1, o1, none⟩) 6 c2) := h3
        have HH4 : Hid (bb4 = true → v20 = .pointer (some ⟨g1, o1 + 1, none⟩)) := h4
        have HH5 : Hid (bb5 = true → v21 = .string X1) := h5
        have HH6 : Hid (bb6 = true → v22 = .int .i64 N0) := h6
        have HH8 : Hid (bb8 = true → v24 = .pointer (some ⟨g1, o1 + 2, none⟩)) := h8
        have HH9 : Hid (bb9 = true → v25 = .string X2) := h9
        have HH10 : Hid (bb10 = true → v26 = .int .i64 N1) := h10
        have HH11 : Hid (bb11 = true → v27 = .slice (some ⟨g1, o1, none⟩) 6 c2) := h11
        have HH12 : Hid (bb12 = true → v28 = .pointer (some ⟨g1, o1 + 3, none⟩)) := h12
        have HH13 : Hid (bb13 = true → v29 = .string X3) := h13
        have HH14 : Hid (bb14 = true → v30 = .int .i64 N2) := h14
        have HH15 : Hid (bb15 = true → v31 = .slice (some ⟨g1, o1, none⟩) 6 c2) := h15
        have HH16 : Hid (bb16 = true → v32 = .pointer (some ⟨g1, o1 + 4, none⟩)) := h16
        have HH17 : Hid (bb17 = true → v33 = .string X4) := h17
        have HH18 : Hid (bb18 = true → v34 = .int .i64 N3) := h18
        have HH19 : Hid (bb19 = true → v35 = .slice (some ⟨g1, o1, none⟩) 6 c2) := h19
        have HH20 : Hid (bb20 = true → v36 = .pointer (some ⟨g1, o1 + 5, none⟩)) := h20
        have HH21 : Hid (bb21 = true → v37 = .string X5) := h21
        have HH22 : Hid (bb22 = true → v38 = .int .i64 N4) := h22
        have HH23 : Hid (bb23 = true → v39 = .agg #[.string X0, .int .i64 N0, .int .i64 N1, .int .i64 N2, .int .i64 N3, .int .i64 N4, .string ⟨#[]⟩, .int .i64 0]) := h23
        have HH24 : Hid (bb24 = true → KB u2 u #[.string ⟨#[]⟩, .int .i64 0, .int .i64 0, .int .i64 0, .int .i64 0, .int .i64 0, .string ⟨#[]⟩, .int .i64 0] 23 v4) := h24
        clear hB hall hi h0 h1 h2 h3 h4 h5 h6 h7 h8 h9 h10 h11 h12 h13 h14 h15 h16 h17 h18 h19 h20 h21 h22 h23 h24
        refine wpOp_step rfl (fun K hK => ?_)
        go_simp
        exact hK _ _ ⟨bb0, bb1, bb2, bb3, bb4, bb5, bb6, true, bb8, bb9, bb10, bb11, bb12, bb13, bb14, bb15, bb16, bb17, bb18, bb19, bb20, bb21, bb22, bb23, bb24, false, v16, v17, v18, v19, v20, v21, v22, _, v24, v25, v26, v27, v28, v29, v30, v31, v32, v33, v34, v35, v36, v37, v38, v39, v4, rfl, rfl, HB.out, Or.inl ⟨rfl, HH0.out, HH1.out, HH2.out, HH3.out, HH4.out, HH5.out, HH6.out, fun _ => rfl, HH8.out, HH9.out, HH10.out, HH11.out, HH12.out, HH13.out, HH14.out, HH15.out, HH16.out, HH17.out, HH18.out, HH19.out, HH20.out, HH21.out, HH22.out, HH23.out, HH24.out⟩⟩
      · obtain rfl : bb8 = false := hf
        cases ho
        have hb7 : bb7 = true := hall { on := 7, ground := .data } (by simp) rfl
        have e7 := h7 hb7
        subst e7
        have HB : Hid _ := hB
        have HH0 : Hid (bb0 = true → v16 = .slice (some ⟨g1, o1, none⟩) 6 c2) := h0
        have HH1 : Hid (bb1 = true → v17 = .pointer (some ⟨g1, o1, none⟩)) := h1
        have HH2 : Hid (bb2 = true → v18 = .string X0) := h2
        have HH3 : Hid (bb3 = true → v19 = .slice (some ⟨g1, o1, none⟩) 6 c2) := h3
        have HH4 : Hid (bb4 = true → v20 = .pointer (some ⟨g1, o1 + 1, none⟩)) := h4
        have HH5 : Hid (bb5 = true → v21 = .string X1) := h5
        have HH6 : Hid (bb6 = true → v22 = .int .i64 N0) := h6
        have HH9 : Hid (bb9 = true → v25 = .string X2) := h9
        have HH10 : Hid (bb10 = true → v26 = .int .i64 N1) := h10
        have HH11 : Hid (bb11 = true → v27 = .slice (some ⟨g1, o1, none⟩) 6 c2) := h11
        have HH12 : Hid (bb12 = true → v28 = .pointer (some ⟨g1, o1 + 3, none⟩)) := h12
        have HH13 : Hid (bb13 = true → v29 = .string X3) := h13
        have HH14 : Hid (bb14 = true → v30 = .int .i64 N2) := h14
        have HH15 : Hid (bb15 = true → v31 = .slice (some ⟨g1, o1, none⟩) 6 c2) := h15
        have HH16 : Hid (bb16 = true → v32 = .pointer (some ⟨g1, o1 + 4, none⟩)) := h16
        have HH17 : Hid (bb17 = true → v33 = .string X4) := h17
        have HH18 : Hid (bb18 = true → v34 = .int .i64 N3) := h18
        have HH19 : Hid (bb19 = true → v35 = .slice (some ⟨g1, o1, none⟩) 6 c2) := h19
        have HH20 : Hid (bb20 = true → v36 = .pointer (some ⟨g1, o1 + 5, none⟩)) := h20
        have HH21 : Hid (bb21 = true → v37 = .string X5) := h21
        have HH22 : Hid (bb22 = true → v38 = .int .i64 N4) := h22
        have HH23 : Hid (bb23 = true → v39 = .agg #[.string X0, .int .i64 N0, .int .i64 N1, .int .i64 N2, .int .i64 N3, .int .i64 N4, .string ⟨#[]⟩, .int .i64 0]) := h23
        have HH24 : Hid (bb24 = true → KB u2 u #[.string ⟨#[]⟩, .int .i64 0, .int .i64 0, .int .i64 0, .int .i64 0, .int .i64 0, .string ⟨#[]⟩, .int .i64 0] 23 v4) := h24
        have HH7 : Hid _ := h7
        clear hB hall hi h0 h1 h2 h3 h4 h5 h6 h7 h8 h9 h10 h11 h12 h13 h14 h15 h16 h17 h18 h19 h20 h21 h22 h23 h24
        refine wpOp_step rfl (fun K hK => ?_)
        go_simp
        exact hK _ _ ⟨bb0, bb1, bb2, bb3, bb4, bb5, bb6, bb7, true, bb9, bb10, bb11, bb12, bb13, bb14, bb15, bb16, bb17, bb18, bb19, bb20, bb21, bb22, bb23, bb24, false, v16, v17, v18, v19, v20, v21, v22, _, _, v25, v26, v27, v28, v29, v30, v31, v32, v33, v34, v35, v36, v37, v38, v39, v4, rfl, rfl, HB.out, Or.inl ⟨rfl, HH0.out, HH1.out, HH2.out, HH3.out, HH4.out, HH5.out, HH6.out, HH7.out, fun _ => rfl, HH9.out, HH10.out, HH11.out, HH12.out, HH13.out, HH14.out, HH15.out, HH16.out, HH17.out, HH18.out, HH19.out, HH20.out, HH21.out, HH22.out, HH23.out, HH24.out⟩⟩
      · obtain rfl : bb9 = false := hf
        cases ho
        have hb8 : bb8 = true := hall { on := 8, ground := .data } (by simp) rfl
        have e8 := h8 hb8
        subst e8
        have c0 : u.cell? ⟨g1, o1 + 2, none⟩ = some (.string X2) := HWD.out u hB 2 (by omega)
        have cl : g1 < u.heap.size := HLW.out u hB
        have HB : Hid _ := hB
        have HH0 : Hid (bb0 = true → v16 = .slice (some ⟨g1, o1, none⟩) 6 c2) := h0
        have HH1 : Hid (bb1 = true → v17 = .pointer (some ⟨g1, o1, none⟩)) := h1
        have HH2 : Hid (bb2 = true → v18 = .string X0) := h2
        have HH3 : Hid (bb3 = true → v19 = .slice (some ⟨g1, o1, none⟩) 6 c2) := h3
        have HH4 : Hid (bb4 = true → v20 = .pointer (some ⟨g1, o1 + 1, none⟩)) := h4
        have HH5 : Hid (bb5 = true → v21 = .string X1) := h5
        have HH6 : Hid (bb6 = true → v22 = .int .i64 N0) := h6
        have HH7 : Hid (bb7 = true → v23 = .slice (some ⟨g1, o1, none⟩) 6 c2) := h7
        have HH10 : Hid (bb10 = true → v26 = .int .i64 N1) := h10
        have HH11 : Hid (bb11 = true → v27 = .slice (some ⟨g1, o1, none⟩) 6 c2) := h11
        have HH12 : Hid (bb12 = true → v28 = .pointer (some ⟨g1, o1 + 3, none⟩)) := h12
        have HH13 : Hid (bb13 = true → v29 = .string X3) := h13
        have HH14 : Hid (bb14 = true → v30 = .int .i64 N2) := h14
        have HH15 : Hid (bb15 = true → v31 = .slice (some ⟨g1, o1, none⟩) 6 c2) := h15
        have HH16 : Hid (bb16 = true → v32 = .pointer (some ⟨g1, o1 + 4, none⟩)) := h16
        have HH17 : Hid (bb17 = true → v33 = .string X4) := h17
        have HH18 : Hid (bb18 = true → v34 = .int .i64 N3) := h18
        have HH19 : Hid (bb19 = true → v35 = .slice (some ⟨g1, o1, none⟩) 6 c2) := h19
        have HH20 : Hid (bb20 = true → v36 = .pointer (some ⟨g1, o1 + 5, none⟩)) := h20
        have HH21 : Hid (bb21 = true → v37 = .string X5) := h21
        have HH22 : Hid (bb22 = true → v38 = .int .i64 N4) := h22
        have HH23 : Hid (bb23 = true → v39 = .agg #[.string X0, .int .i64 N0, .int .i64 N1, .int .i64 N2, .int .i64 N3, .int .i64 N4, .string ⟨#[]⟩, .int .i64 0]) := h23
        have HH24 : Hid (bb24 = true → KB u2 u #[.string ⟨#[]⟩, .int .i64 0, .int .i64 0, .int .i64 0, .int .i64 0, .int .i64 0, .string ⟨#[]⟩, .int .i64 0] 23 v4) := h24
        have HH8 : Hid _ := h8
        clear hB hall hi h0 h1 h2 h3 h4 h5 h6 h7 h8 h9 h10 h11 h12 h13 h14 h15 h16 h17 h18 h19 h20 h21 h22 h23 h24
        refine wpOp_step rfl (fun K hK => ?_)
        go_simp
        exact hK _ _ ⟨bb0, bb1, bb2, bb3, bb4, bb5, bb6, bb7, bb8, true, bb10, bb11, bb12, bb13, bb14, bb15, bb16, bb17, bb18, bb19, bb20, bb21, bb22, bb23, bb24, false, v16, v17, v18, v19, v20, v21, v22, v23, _, _, v26, v27, v28, v29, v30, v31, v32, v33, v34, v35, v36, v37, v38, v39, v4, rfl, rfl, HB.out, Or.inl ⟨rfl, HH0.out, HH1.out, HH2.out, HH3.out, HH4.out, HH5.out, HH6.out, HH7.out, HH8.out, fun _ => rfl, HH10.out, HH11.out, HH12.out, HH13.out, HH14.out, HH15.out, HH16.out, HH17.out, HH18.out, HH19.out, HH20.out, HH21.out, HH22.out, HH23.out, HH24.out⟩⟩
      · obtain rfl : bb10 = false := hf
        cases ho
        have hb9 : bb9 = true := hall { on := 9, ground := .data } (by simp) rfl
        have e9 := h9 hb9
        subst e9
        have HC9 : Hid _ := HV1.out u
        have HB : Hid _ := hB
        have HH0 : Hid (bb0 = true → v16 = .slice (some ⟨g1, o1, none⟩) 6 c2) := h0
        have HH1 : Hid (bb1 = true → v17 = .pointer (some ⟨g1, o1, none⟩)) := h1
        have HH2 : Hid (bb2 = true → v18 = .string X0) := h2
        have HH3 : Hid (bb3 = true → v19 = .slice (some ⟨g1, o1, none⟩) 6 c2) := h3
        have HH4 : Hid (bb4 = true → v20 = .pointer (some ⟨g1, o1 + 1, none⟩)) := h4
        have HH5 : Hid (bb5 = true → v21 = .string X1) := h5
        have HH6 : Hid (bb6 = true → v22 = .int .i64 N0) := h6
        have HH7 : Hid (bb7 = true → v23 = .slice (some ⟨g1, o1, none⟩) 6 c2) := h7
        have HH8 : Hid (bb8 = true → v24 = .pointer (some ⟨g1, o1 + 2, none⟩)) := h8
        have HH11 : Hid (bb11 = true → v27 = .slice (some ⟨g1, o1, none⟩) 6 c2) := h11
        have HH12 : Hid (bb12 = true → v28 = .pointer (some ⟨g1, o1 + 3, none⟩)) := h12
        have HH13 : Hid (bb13 = true → v29 = .string X3) := h13
        have HH14 : Hid (bb14 = true → v30 = .int .i64 N2) := h14
        have HH15 : Hid (bb15 = true → v31 = .slice (some ⟨g1, o1, none⟩) 6 c2) := h15
        have HH16 : Hid (bb16 = true → v32 = .pointer (some ⟨g1, o1 + 4, none⟩)) := h16
        have HH17 : Hid (bb17 = true → v33 = .string X4) := h17
        have HH18 : Hid (bb18 = true → v34 = .int .i64 N3) := h18
        have HH19 : Hid (bb19 = true → v35 = .slice (some ⟨g1, o1, none⟩) 6 c2) := h19
        have HH20 : Hid (bb20 = true → v36 = .pointer (some ⟨g1, o1 + 5, none⟩)) := h20
        have HH21 : Hid (bb21 = true → v37 = .string X5) := h21
        have HH22 : Hid (bb22 = true → v38 = .int .i64 N4) := h22
        have HH23 : Hid (bb23 = true → v39 = .agg #[.string X0, .int .i64 N0, .int .i64 N1, .int .i64 N2, .int .i64 N3, .int .i64 N4, .string ⟨#[]⟩, .int .i64 0]) := h23
        have HH24 : Hid (bb24 = true → KB u2 u #[.string ⟨#[]⟩, .int .i64 0, .int .i64 0, .int .i64 0, .int .i64 0, .int .i64 0, .string ⟨#[]⟩, .int .i64 0] 23 v4) := h24
        have HH9 : Hid _ := h9
        clear hB hall hi h0 h1 h2 h3 h4 h5 h6 h7 h8 h9 h10 h11 h12 h13 h14 h15 h16 h17 h18 h19 h20 h21 h22 h23 h24
        refine wpOp_step rfl (fun K hK => ?_)
        go_simp
        refine Calls.mono HC9.out ?_
        rintro e9 u5 ⟨rfl, hb5⟩
        exact hK _ _ ⟨bb0, bb1, bb2, bb3, bb4, bb5, bb6, bb7, bb8, bb9, true, bb11, bb12, bb13, bb14, bb15, bb16, bb17, bb18, bb19, bb20, bb21, bb22, bb23, bb24, false, v16, v17, v18, v19, v20, v21, v22, v23, v24, _, _, v27, v28, v29, v30, v31, v32, v33, v34, v35, v36, v37, v38, v39, v4, rfl, rfl, Below.ups HB.out hb5, Or.inl ⟨rfl, HH0.out, HH1.out, HH2.out, HH3.out, HH4.out, HH5.out, HH6.out, HH7.out, HH8.out, HH9.out, fun _ => rfl, HH11.out, HH12.out, HH13.out, HH14.out, HH15.out, HH16.out, HH17.out, HH18.out, HH19.out, HH20.out, HH21.out, HH22.out, HH23.out, fun e => (HH24.out e).below hb5⟩⟩
      · obtain rfl : bb11 = false := hf
        have HB : Hid _ := hB
        have HH0 : Hid (bb0 = true → v16 = .slice (some ⟨g1, o1, none⟩) 6 c2) := h0
        have HH1 : Hid (bb1 = true → v17 = .pointer (some ⟨g1, o1, none⟩)) := h1
        have HH2 : Hid (bb2 = true → v18 = .string X0) := h2
        have HH3 : Hid (bb3 = true → v19 = .slice (some ⟨g1, o1, none⟩) 6 c2) := h3
        have HH4 : Hid (bb4 = true → v20 = .pointer (some ⟨g1, o1 + 1, none⟩)) := h4
        have HH5 : Hid (bb5 = true → v21 = .string X1) := h5
        have HH6 : Hid (bb6 = true → v22 = .int .i64 N0) := h6
        have HH7 : Hid (bb7 = true → v23 = .slice (some ⟨g1, o1, none⟩) 6 c2) := h7
        have HH8 : Hid (bb8 = true → v24 = .pointer (some ⟨g1, o1 + 2, none⟩)) := h8
        have HH9 : Hid (bb9 = true → v25 = .string X2) := h9
        have HH10 : Hid (bb10 = true → v26 = .int .i64 N1) := h10
        have HH12 : Hid (bb12 = true → v28 = .pointer (some ⟨g1, o1 + 3, none⟩)) := h12
        have HH13 : Hid (bb13 = true → v29 = .string X3) := h13
        have HH14 : Hid (bb14 = true → v30 = .int .i64 N2) := h14
        have HH15 : Hid (bb15 = true → v31 = .slice (some ⟨g1, o1, none⟩) 6 c2) := h15
        have HH16 : Hid (bb16 = true → v32 = .pointer (some ⟨g1, o1 + 4, none⟩)) := h16
        have HH17 : Hid (bb17 = true → v33 = .string X4) := h17
        have HH18 : Hid (bb18 = true → v34 = .int .i64 N3) := h18
        have HH19 : Hid (bb19 = true → v35 = .slice (some ⟨g1, o1, none⟩) 6 c2) := h19
        have HH20 : Hid (bb20 = true → v36 = .pointer (some ⟨g1, o1 + 5, none⟩)) := h20
        have HH21 : Hid (bb21 = true → v37 = .string X5) := h21
        have HH22 : Hid (bb22 = true → v38 = .int .i64 N4) := h22
        have HH23 : Hid (bb23 = true → v39 = .agg #[.string X0, .int .i64 N0, .int .i64 N1, .int .i64 N2, .int .i64 N3, .int .i64 N4, .string ⟨#[]⟩, .int .i64 0]) := h23
        have HH24 : Hid (bb24 = true → KB u2 u #[.string ⟨#[]⟩, .int .i64 0, .int .i64 0, .int .i64 0, .int .i64 0, .int .i64 0, .string ⟨#[]⟩, .int .i64 0] 23 v4) := h24
        clear hB hall hi h0 h1 h2 h3 h4 h5 h6 h7 h8 h9 h10 h11 h12 h13 h14 h15 h16 h17 h18 h19 h20 h21 h22 h23 h24
        refine wpOp_step rfl (fun K hK => ?_)
        go_simp
        exact hK _ _ ⟨bb0, bb1, bb2, bb3, bb4, bb5, bb6, bb7, bb8, bb9, bb10, true, bb12, bb13, bb14, bb15, bb16, bb17, bb18, bb19, bb20, bb21, bb22, bb23, bb24, false, v16, v17, v18, v19, v20, v21, v22, v23, v24, v25, v26, _, v28, v29, v30, v31, v32, v33, v34, v35, v36, v37, v38, v39, v4, rfl, rfl, HB.out, Or.inl ⟨rfl, HH0.out, HH1.out, HH2.out, HH3.out, HH4.out, HH5.out, HH6.out, HH7.out, HH8.out, HH9.out, HH10.out, fun _ => rfl, HH12.out, HH13.out, HH14.out, HH15.out, HH16.out, HH17.out, HH18.out, HH19.out, HH20.out, HH21.out, HH22.out, HH23.out, HH24.out⟩⟩
      · obtain rfl : bb12 = false := hf
        cases ho
        have hb11 : bb11 = true := hall { on := 11, ground := .data } (by simp) rfl
        have e11 := h11 hb11
        subst e11
        have HB : Hid _ := hB
        have HH0 : Hid (bb0 = true → v16 = .slice (some ⟨g1, o1, none⟩) 6 c2) := h0
        have HH1 : Hid (bb1 = true → v17 = .pointer (some ⟨g1, o1, none⟩)) := h1
        have HH2 : Hid (bb2 = true → v18 = .string X0) := h2
        have HH3 : Hid (bb3 = true → v19 = .slice (some ⟨g1, o1, none⟩) 6 c2) := h3
        have HH4 : Hid (bb4 = true → v20 = .pointer (some ⟨g1, o1 + 1, none⟩)) := h4
        have HH5 : Hid (bb5 = true → v21 = .string X1) := h5
        have HH6 : Hid (bb6 = true → v22 = .int .i64 N0) := h6
        have HH7 : Hid (bb7 = true → v23 = .slice (some ⟨g1, o1, none⟩) 6 c2) := h7
        have HH8 : Hid (bb8 = true → v24 = .pointer (some ⟨g1, o1 + 2, none⟩)) := h8
        have HH9 : Hid (bb9 = true → v25 = .string X2) := h9
        have HH10 : Hid (bb10 = true → v26 = .int .i64 N1) := h10
        have HH13 : Hid (bb13 = true → v29 = .string X3) := h13
        have HH14 : Hid (bb14 = true → v30 = .int .i64 N2) := h14
        have HH15 : Hid (bb15 = true → v31 = .slice (some ⟨g1, o1, none⟩) 6 c2) := h15
        have HH16 : Hid (bb16 = true → v32 = .pointer (some ⟨g1, o1 + 4, none⟩)) := h16
        have HH17 : Hid (bb17 = true → v33 = .string X4) := h17
        have HH18 : Hid (bb18 = true → v34 = .int .i64 N3) := h18
        have HH19 : Hid (bb19 = true → v35 = .slice (some ⟨g1, o1, none⟩) 6 c2) := h19
        have HH20 : Hid (bb20 = true → v36 = .pointer (some ⟨g1, o1 + 5, none⟩)) := h20
        have HH21 : Hid (bb21 = true → v37 = .string X5) := h21
        have HH22 : Hid (bb22 = true → v38 = .int .i64 N4) := h22
        have HH23 : Hid (bb23 = true → v39 = .agg #[.string X0, .int .i64 N0, .int .i64 N1, .int .i64 N2, .int .i64 N3, .int .i64 N4, .string ⟨#[]⟩, .int .i64 0]) := h23
        have HH24 : Hid (bb24 = true → KB u2 u #[.string ⟨#[]⟩, .int .i64 0, .int .i64 0, .int .i64 0, .int .i64 0, .int .i64 0, .string ⟨#[]⟩, .int .i64 0] 23 v4) := h24
        have HH11 : Hid _ := h11
        clear hB hall hi h0 h1 h2 h3 h4 h5 h6 h7 h8 h9 h10 h11 h12 h13 h14 h15 h16 h17 h18 h19 h20 h21 h22 h23 h24
        refine wpOp_step rfl (fun K hK => ?_)
        go_simp
        exact hK _ _ ⟨bb0, bb1, bb2, bb3, bb4, bb5, bb6, bb7, bb8, bb9, bb10, bb11, true, bb13, bb14, bb15, bb16, bb17, bb18, bb19, bb20, bb21, bb22, bb23, bb24, false, v16, v17, v18, v19, v20, v21, v22, v23, v24, v25, v26, _, _, v29, v30, v31, v32, v33, v34, v35, v36, v37, v38, v39, v4, rfl, rfl, HB.out, Or.inl ⟨rfl, HH0.out, HH1.out, HH2.out, HH3.out, HH4.out, HH5.out, HH6.out, HH7.out, HH8.out, HH9.out, HH10.out, HH11.out, fun _ => rfl, HH13.out, HH14.out, HH15.out, HH16.out, HH17.out, HH18.out, HH19.out, HH20.out, HH21.out, HH22.out, HH23.out, HH24.out⟩⟩
      · obtain rfl : bb13 = false := hf
        cases ho
        have hb12 : bb12 = true := hall { on := 12, ground := .data } (by simp) rfl
        have e12 := h12 hb12
        subst e12
        have c0 : u.cell? ⟨g1, o1 + 3, none⟩ = some (.string X3) := HWD.out u hB 3 (by omega)
        have cl : g1 < u.heap.size := HLW.out u hB
        have HB : Hid _ := hB
        have HH0 : Hid (bb0 = true → v16 = .slice (some ⟨g1, o1, none⟩) 6 c2) := h0
        have HH1 : Hid (bb1 = true → v17 = .pointer (some ⟨g1, o1, none⟩)) := h1
        have HH2 : Hid (bb2 = true → v18 = .string X0) := h2
        have HH3 : Hid (bb3 = true → v19 = .slice (some ⟨g1, o1, none⟩) 6 c2) := h3
        have HH4 : Hid (bb4 = true → v20 = .pointer (some ⟨g1, o1 + 1, none⟩)) := h4
        have HH5 : Hid (bb5 = true → v21 = .string X1) := h5
        have HH6 : Hid (bb6 = true → v22 = .int .i64 N0) := h6
        have HH7 : Hid (bb7 = true → v23 = .slice (some ⟨g1, o1, none⟩) 6 c2) := h7
        have HH8 : Hid (bb8 = true → v24 = .pointer (some ⟨g1, o1 + 2, none⟩)) := h8
        have HH9 : Hid (bb9 = true → v25 = .string X2) := h9
        have HH10 : Hid (bb10 = true → v26 = .int .i64 N1) := h10
        have HH11 : Hid (bb11 = true → v27 = .slice (some ⟨g1, o1, none⟩) 6 c2) := h11
        have HH14 : Hid (bb14 = true → v30 = .int .i64 N2) := h14
        have HH15 : Hid (bb15 = true → v31 = .slice (some ⟨g1, o1, none⟩) 6 c2) := h15
        have HH16 : Hid (bb16 = true → v32 = .pointer (some ⟨g1, o1 + 4, none⟩)) := h16
        have HH17 : Hid (bb17 = true → v33 = .string X4) := h17
        have HH18 : Hid (bb18 = true → v34 = .int .i64 N3) := h18
        have HH19 : Hid (bb19 = true → v35 = .slice (some ⟨g1, o1, none⟩) 6 c2) := h19
        have HH20 : Hid (bb20 = true → v36 = .pointer (some ⟨g1, o1 + 5, none⟩)) := h20
        have HH21 : Hid (bb21 = true → v37 = .string X5) := h21
        have HH22 : Hid (bb22 = true → v38 = .int .i64 N4) := h22
        have HH23 : Hid (bb23 = true → v39 = .agg #[.string X0, .int .i64 N0, .int .i64 N1, .int .i64 N2, .int .i64 N3, .int .i64 N4, .string ⟨#[]⟩, .int .i64 0]) := h23
        have HH24 : Hid (bb24 = true → KB u2 u #[.string ⟨#[]⟩, .int .i64 0, .int .i64 0, .int .i64 0, .int .i64 0, .int .i64 0, .string ⟨#[]⟩, .int .i64 0] 23 v4) := h24
        have HH12 : Hid _ := h12
        clear hB hall hi h0 h1 h2 h3 h4 h5 h6 h7 h8 h9 h10 h11 h12 h13 h14 h15 h16 h17 h18 h19 h20 h21 h22 h23 h24
        refine wpOp_step rfl (fun K hK => ?_)
        go_simp
        exact hK _ _ ⟨bb0, bb1, bb2, bb3, bb4, bb5, bb6, bb7, bb8, bb9, bb10, bb11, bb12, true, bb14, bb15, bb16, bb17, bb18, bb19, bb20, bb21, bb22, bb23, bb24, false, v16, v17, v18, v19, v20, v21, v22, v23, v24, v25, v26, v27, _, _, v30, v31, v32, v33, v34, v35, v36, v37, v38, v39, v4, rfl, rfl, HB.out, Or.inl ⟨rfl, HH0.out, HH1.out, HH2.out, HH3.out, HH4.out, HH5.out, HH6.out, HH7.out, HH8.out, HH9.out, HH10.out, HH11.out, HH12.out, fun _ => rfl, HH14.out, HH15.out, HH16.out, HH17.out, HH18.out, HH19.out, HH20.out, HH21.out, HH22.out, HH23.out, HH24.out⟩⟩
      · obtain rfl : bb14 = false := hf
        cases ho
        have hb13 : bb13 = true := hall { on := 13, ground := .data } (by simp) rfl
        have e13 := h13 hb13
        subst e13
        have HC9 : Hid _ := HV2.out u
        have HB : Hid _ := hB
        have HH0 : Hid (bb0 = true → v16 = .slice (some ⟨g1, o1, none⟩) 6 c2) := h0
        have HH1 : Hid (bb1 = true → v17 = .pointer (some ⟨g1, o1, none⟩)) := h1
        have HH2 : Hid (bb2 = true → v18 = .string X0) := h2
        have HH3 : Hid (bb3 = true → v19 = .slice (some ⟨g1, o1, none⟩) 6 c2) := h3
        have HH4 : Hid (bb4 = true → v20 = .pointer (some ⟨g1, o1 + 1, none⟩)) := h4
        have HH5 : Hid (bb5 = true → v21 = .string X1) := h5
        have HH6 : Hid (bb6 = true → v22 = .int .i64 N0) := h6
        have HH7 : Hid (bb7 = true → v23 = .slice (some ⟨g1, o1, none⟩) 6 c2) := h7
        have HH8 : Hid (bb8 = true → v24 = .pointer (some ⟨g1, o1 + 2, none⟩)) := h8
        have HH9 : Hid (bb9 = true → v25 = .string X2) := h9
        have HH10 : Hid (bb10 = true → v26 = .int .i64 N1) := h10
        have HH11 : Hid (bb11 = true → v27 = .slice (some ⟨g1, o1, none⟩) 6 c2) := h11
        have HH12 : Hid (bb12 = true → v28 = .pointer (some ⟨g1, o1 + 3, none⟩)) := h12
        have HH15 : Hid (bb15 = true → v31 = .slice (some ⟨g1, o1, none⟩) 6 c2) := h15
        have HH16 : Hid (bb16 = true → v32 = .pointer (some ⟨g1, o1 + 4, none⟩)) := h16
        have HH17 : Hid (bb17 = true → v33 = .string X4) := h17
        have HH18 : Hid (bb18 = true → v34 = .int .i64 N3) := h18
        have HH19 : Hid (bb19 = true → v35 = .slice (some ⟨g1, o1, none⟩) 6 c2) := h19
        have HH20 : Hid (bb20 = true → v36 = .pointer (some ⟨g1, o1 + 5, none⟩)) := h20
        have HH21 : Hid (bb21 = true → v37 = .string X5) := h21
        have HH22 : Hid (bb22 = true → v38 = .int .i64 N4) := h22
        have HH23 : Hid (bb23 = true → v39 = .agg #[.string X0, .int .i64 N0, .int .i64 N1, .int .i64 N2, .int .i64 N3, .int .i64 N4, .string ⟨#[]⟩, .int .i64 0]) := h23
        have HH24 : Hid (bb24 = true → KB u2 u #[.string ⟨#[]⟩, .int .i64 0, .int .i64 0, .int .i64 0, .int .i64 0, .int .i64 0, .string ⟨#[]⟩, .int .i64 0] 23 v4) := h24
        have HH13 : Hid _ := h13
        clear hB hall hi h0 h1 h2 h3 h4 h5 h6 h7 h8 h9 h10 h11 h12 h13 h14 h15 h16 h17 h18 h19 h20 h21 h22 h23 h24
        refine wpOp_step rfl (fun K hK => ?_)
        go_simp
        refine Calls.mono HC9.out ?_
        rintro e9 u5 ⟨rfl, hb5⟩
        exact hK _ _ ⟨bb0, bb1, bb2, bb3, bb4, bb5, bb6, bb7, bb8, bb9, bb10, bb11, bb12, bb13, true, bb15, bb16, bb17, bb18, bb19, bb20, bb21, bb22, bb23, bb24, false, v16, v17, v18, v19, v20, v21, v22, v23, v24, v25, v26, v27, v28, _, _, v31, v32, v33, v34, v35, v36, v37, v38, v39, v4, rfl, rfl, Below.ups HB.out hb5, Or.inl ⟨rfl, HH0.out, HH1.out, HH2.out, HH3.out, HH4.out, HH5.out, HH6.out, HH7.out, HH8.out, HH9.out, HH10.out, HH11.out, HH12.out, HH13.out, fun _ => rfl, HH15.out, HH16.out, HH17.out, HH18.out, HH19.out, HH20.out, HH21.out, HH22.out, HH23.out, fun e => (HH24.out e).below hb5⟩⟩
      · obtain rfl : bb15 = false := hf
        have HB : Hid _ := hB
        have HH0 : Hid (bb0 = true → v16 = .slice (some ⟨g1, o1, none⟩) 6 c2) := h0
        have HH1 : Hid (bb1 = true → v17 = .pointer (some ⟨g1, o1, none⟩)) := h1
        have HH2 : Hid (bb2 = true → v18 = .string X0) := h2
        have HH3 : Hid (bb3 = true → v19 = .slice (some ⟨g1, o1, none⟩) 6 c2) := h3
        have HH4 : Hid (bb4 = true → v20 = .pointer (some ⟨g1, o1 + 1, none⟩)) := h4
        have HH5 : Hid (bb5 = true → v21 = .string X1) := h5
        have HH6 : Hid (bb6 = true → v22 = .int .i64 N0) := h6
        have HH7 : Hid (bb7 = true → v23 = .slice (some ⟨g1, o1, none⟩) 6 c2) := h7
        have HH8 : Hid (bb8 = true → v24 = .pointer (some ⟨g1, o1 + 2, none⟩)) := h8
        have HH9 : Hid (bb9 = true → v25 = .string X2) := h9
        have HH10 : Hid (bb10 = true → v26 = .int .i64 N1) := h10
        have HH11 : Hid (bb11 = true → v27 = .slice (some ⟨g1, o1, none⟩) 6 c2) := h11
        have HH12 : Hid (bb12 = true → v28 = .pointer (some ⟨g1, o1 + 3, none⟩)) := h12
        have HH13 : Hid (bb13 = true → v29 = .string X3) := h13
        have HH14 : Hid (bb14 = true → v30 = .int .i64 N2) := h14
        have HH16 : Hid (bb16 = true → v32 = .pointer (some ⟨g1, o1 + 4, none⟩)) := h16
        have HH17 : Hid (bb17 = true → v33 = .string X4) := h17
        have HH18 : Hid (bb18 = true → v34 = .int .i64 N3) := h18
        have HH19 : Hid (bb19 = true → v35 = .slice (some ⟨g1, o1, none⟩) 6 c2) := h19
        have HH20 : Hid (bb20 = true → v36 = .pointer (some ⟨g1, o1 + 5, none⟩)) := h20
        have HH21 : Hid (bb21 = true → v37 = .string X5) := h21
        have HH22 : Hid (bb22 = true → v38 = .int .i64 N4) := h22
        have HH23 : Hid (bb23 = true → v39 = .agg #[.string X0, .int .i64 N0, .int .i64 N1, .int .i64 N2, .int .i64 N3, .int .i64 N4, .string ⟨#[]⟩, .int .i64 0]) := h23
        have HH24 : Hid (bb24 = true → KB u2 u #[.string ⟨#[]⟩, .int .i64 0, .int .i64 0, .int .i64 0, .int .i64 0, .int .i64 0, .string ⟨#[]⟩, .int .i64 0] 23 v4) := h24
        clear hB hall hi h0 h1 h2 h3 h4 h5 h6 h7 h8 h9 h10 h11 h12 h13 h14 h15 h16 h17 h18 h19 h20 h21 h22 h23 h24
        refine wpOp_step rfl (fun K hK => ?_)
        go_simp
        exact hK _ _ ⟨bb0, bb1, bb2, bb3, bb4, bb5, bb6, bb7, bb8, bb9, bb10, bb11, bb12, bb13, bb14, true, bb16, bb17, bb18, bb19, bb20, bb21, bb22, bb23, bb24, false, v16, v17, v18, v19, v20, v21, v22, v23, v24, v25, v26, v27, v28, v29, v30, _, v32, v33, v34, v35, v36, v37, v38, v39, v4, rfl, rfl, HB.out, Or.inl ⟨rfl, HH0.out, HH1.out, HH2.out, HH3.out, HH4.out, HH5.out, HH6.out, HH7.out, HH8.out, HH9.out, HH10.out, HH11.out, HH12.out, HH13.out, HH14.out, fun _ => rfl, HH16.out, HH17.out, HH18.out, HH19.out, HH20.out, HH21.out, HH22.out, HH23.out, HH24.out⟩⟩
      · obtain rfl : bb16 = false := hf
        cases ho
        have hb15 : bb15 = true := hall { on := 15, ground := .data } (by simp) rfl
        have e15 := h15 hb15
        subst e15
        have HB : Hid _ := hB
        have HH0 : Hid (bb0 = true → v16 = .slice (some ⟨g1, o1, none⟩) 6 c2) := h0
        have HH1 : Hid (bb1 = true → v17 = .pointer (some ⟨g1, o1, none⟩)) := h1
        have HH2 : Hid (bb2 = true → v18 = .string X0) := h2
        have HH3 : Hid (bb3 = true → v19 = .slice (some ⟨g1, o1, none⟩) 6 c2) := h3
        have HH4 : Hid (bb4 = true → v20 = .pointer (some ⟨g1, o1 + 1, none⟩)) := h4
        have HH5 : Hid (bb5 = true → v21 = .string X1) := h5
        have HH6 : Hid (bb6 = true → v22 = .int .i64 N0) := h6
        have HH7 : Hid (bb7 = true → v23 = .slice (some ⟨g1, o1, none⟩) 6 c2) := h7
        have HH8 : Hid (bb8 = true → v24 = .pointer (some ⟨g1, o1 + 2, none⟩)) := h8
        have HH9 : Hid (bb9 = true → v25 = .string X2) := h9
        have HH10 : Hid (bb10 = true → v26 = .int .i64 N1) := h10
        have HH11 : Hid (bb11 = true → v27 = .slice (some ⟨g1, o1, none⟩) 6 c2) := h11
        have HH12 : Hid (bb12 = true → v28 = .pointer (some ⟨g1, o1 + 3, none⟩)) := h12
        have HH13 : Hid (bb13 = true → v29 = .string X3) := h13
        have HH14 : Hid (bb14 = true → v30 = .int .i64 N2) := h14
        have HH17 : Hid (bb17 = true → v33 = .string X4) := h17
        have HH18 : Hid (bb18 = true → v34 = .int .i64 N3) := h18
        have HH19 : Hid (bb19 = true → v35 = .slice (some ⟨g1, o1, none⟩) 6 c2) := h19
        have HH20 : Hid (bb20 = true → v36 = .pointer (some ⟨g1, o1 + 5, none⟩)) := h20
        have HH21 : Hid (bb21 = true → v37 = .string X5) := h21
        have HH22 : Hid (bb22 = true → v38 = .int .i64 N4) := h22
        have HH23 : Hid (bb23 = true → v39 = .agg #[.string X0, .int .i64 N0, .int .i64 N1, .int .i64 N2, .int .i64 N3, .int .i64 N4, .string ⟨#[]⟩, .int .i64 0]) := h23
        have HH24 : Hid (bb24 = true → KB u2 u #[.string ⟨#[]⟩, .int .i64 0, .int .i64 0, .int .i64 0, .int .i64 0, .int .i64 0, .string ⟨#[]⟩, .int .i64 0] 23 v4) := h24
        have HH15 : Hid _ := h15
        clear hB hall hi h0 h1 h2 h3 h4 h5 h6 h7 h8 h9 h10 h11 h12 h13 h14 h15 h16 h17 h18 h19 h20 h21 h22 h23 h24
        refine wpOp_step rfl (fun K hK => ?_)
        go_simp
        exact hK _ _ ⟨bb0, bb1, bb2, bb3, bb4, bb5, bb6, bb7, bb8, bb9, bb10, bb11, bb12, bb13, bb14, bb15, true, bb17, bb18, bb19, bb20, bb21, bb22, bb23, bb24, false, v16, v17, v18, v19, v20, v21, v22, v23, v24, v25, v26, v27, v28, v29, v30, _, _, v33, v34, v35, v36, v37, v38, v39, v4, rfl, rfl, HB.out, Or.inl ⟨rfl, HH0.out, HH1.out, HH2.out, HH3.out, HH4.out, HH5.out, HH6.out, HH7.out, HH8.out, HH9.out, HH10.out, HH11.out, HH12.out, HH13.out, HH14.out, HH15.out, fun _ => rfl, HH17.out, HH18.out, HH19.out, HH20.out, HH21.out, HH22.out, HH23.out, HH24.out⟩⟩
      · obtain rfl : bb17 = false := hf
        cases ho
        have hb16 : bb16 = true := hall { on := 16, ground := .data } (by simp) rfl
        have e16 := h16 hb16
        subst e16
        have c0 : u.cell? ⟨g1, o1 + 4, none⟩ = some (.string X4) := HWD.out u hB 4 (by omega)
        have cl : g1 < u.heap.size := HLW.out u hB
        have HB : Hid _ := hB
        have HH0 : Hid (bb0 = true → v16 = .slice (some ⟨g1, o1, none⟩) 6 c2) := h0
        have HH1 : Hid (bb1 = true → v17 = .pointer (some ⟨g1, o1, none⟩)) := h1
        have HH2 : Hid (bb2 = true → v18 = .string X0) := h2
        have HH3 : Hid (bb3 = true → v19 = .slice (some ⟨g1, o1, none⟩) 6 c2) := h3
        have HH4 : Hid (bb4 = true → v20 = .pointer (some ⟨g1, o1 + 1, none⟩)) := h4
        have HH5 : Hid (bb5 = true → v21 = .string X1) := h5
        have HH6 : Hid (bb6 = true → v22 = .int .i64 N0) := h6
        have HH7 : Hid (bb7 = true → v23 = .slice (some ⟨g1, o1, none⟩) 6 c2) := h7
        have HH8 : Hid (bb8 = true → v24 = .pointer (some ⟨g1, o1 + 2, none⟩)) := h8
        have HH9 : Hid (bb9 = true → v25 = .string X2) := h9
        have HH10 : Hid (bb10 = true → v26 = .int .i64 N1) := h10
        have HH11 : Hid (bb11 = true → v27 = .slice (some ⟨g1, o1, none⟩) 6 c2) := h11
        have HH12 : Hid (bb12 = true → v28 = .pointer (some ⟨g1, o1 + 3, none⟩)) := h12
        have HH13 : Hid (bb13 = true → v29 = .string X3) := h13
        have HH14 : Hid (bb14 = true → v30 = .int .i64 N2) := h14
        have HH15 : Hid (bb15 = true → v31 = .slice (some ⟨g1, o1, none⟩) 6 c2) := h15
        have HH18 : Hid (bb18 = true → v34 = .int .i64 N3) := h18
        have HH19 : Hid (bb19 = true → v35 = .slice (some ⟨g1, o1, none⟩) 6 c2) := h19
        have HH20 : Hid (bb20 = true → v36 = .pointer (some ⟨g1, o1 + 5, none⟩)) := h20
        have HH21 : Hid (bb21 = true → v37 = .string X5) := h21
        have HH22 : Hid (bb22 = true → v38 = .int .i64 N4) := h22
        have HH23 : Hid (bb23 = true → v39 = .agg #[.string X0, .int .i64 N0, .int .i64 N1, .int .i64 N2, .int .i64 N3, .int .i64 N4, .string ⟨#[]⟩, .int .i64 0]) := h23
        have HH24 : Hid (bb24 = true → KB u2 u #[.string ⟨#[]⟩, .int .i64 0, .int .i64 0, .int .i64 0, .int .i64 0, .int .i64 0, .string ⟨#[]⟩, .int .i64 0] 23 v4) := h24
        have HH16 : Hid _ := h16
        clear hB hall hi h0 h1 h2 h3 h4 h5 h6 h7 h8 h9 h10 h11 h12 h13 h14 h15 h16 h17 h18 h19 h20 h21 h22 h23 h24
        refine wpOp_step rfl (fun K hK => ?_)
        go_simp
        exact hK _ _ ⟨bb0, bb1, bb2, bb3, bb4, bb5, bb6, bb7, bb8, bb9, bb10, bb11, bb12, bb13, bb14, bb15, bb16, true, bb18, bb19, bb20, bb21, bb22, bb23, bb24, false, v16, v17, v18, v19, v20, v21, v22, v23, v24, v25, v26, v27, v28, v29, v30, v31, _, _, v34, v35, v36, v37, v38, v39, v4, rfl, rfl, HB.out, Or.inl ⟨rfl, HH0.out, HH1.out, HH2.out, HH3.out, HH4.out, HH5.out, HH6.out, HH7.out, HH8.out, HH9.out, HH10.out, HH11.out, HH12.out, HH13.out, HH14.out, HH15.out, HH16.out, fun _ => rfl, HH18.out, HH19.out, HH20.out, HH21.out, HH22.out, HH23.out, HH24.out⟩⟩
      · obtain rfl : bb18 = false := hf
        cases ho
        have hb17 : bb17 = true := hall { on := 17, ground := .data } (by simp) rfl
        have e17 := h17 hb17
        subst e17
        have HC9 : Hid _ := HV3.out u
        have HB : Hid _ := hB
        have HH0 : Hid (bb0 = true → v16 = .slice (some ⟨g1, o1, none⟩) 6 c2) := h0
        have HH1 : Hid (bb1 = true → v17 = .pointer (some ⟨g1, o1, none⟩)) := h1
        have HH2 : Hid (bb2 = true → v18 = .string X0) := h2
        have HH3 : Hid (bb3 = true → v19 = .slice (some ⟨g1, o1, none⟩) 6 c2) := h3
        have HH4 : Hid (bb4 = true → v20 = .pointer (some ⟨g1, o1 + 1, none⟩)) := h4
        have HH5 : Hid (bb5 = true → v21 = .string X1) := h5
        have HH6 : Hid (bb6 = true → v22 = .int .i64 N0) := h6
        have HH7 : Hid (bb7 = true → v23 = .slice (some ⟨g1, o1, none⟩) 6 c2) := h7
        have HH8 : Hid (bb8 = true → v24 = .pointer (some ⟨g1, o1 + 2, none⟩)) := h8
        have HH9 : Hid (bb9 = true → v25 = .string X2) := h9
        have HH10 : Hid (bb10 = true → v26 = .int .i64 N1) := h10
        have HH11 : Hid (bb11 = true → v27 = .slice (some ⟨g1, o1, none⟩) 6 c2) := h11
        have HH12 : Hid (bb12 = true → v28 = .pointer (some ⟨g1, o1 + 3, none⟩)) := h12
        have HH13 : Hid (bb13 = true → v29 = .string X3) := h13
        have HH14 : Hid (bb14 = true → v30 = .int .i64 N2) := h14
        have HH15 : Hid (bb15 = true → v31 = .slice (some ⟨g1, o1, none⟩) 6 c2) := h15
        have HH16 : Hid (bb16 = true → v32 = .pointer (some ⟨g1, o1 + 4, none⟩)) := h16
        have HH19 : Hid (bb19 = true → v35 = .slice (some ⟨g1, o1, none⟩) 6 c2) := h19
        have HH20 : Hid (bb20 = true → v36 = .pointer (some ⟨g1, o1 + 5, none⟩)) := h20
        have HH21 : Hid (bb21 = true → v37 = .string X5) := h21
        have HH22 : Hid (bb22 = true → v38 = .int .i64 N4) := h22
        have HH23 : Hid (bb23 = true → v39 = .agg #[.string X0, .int .i64 N0, .int .i64 N1, .int .i64 N2, .int .i64 N3, .int .i64 N4, .string ⟨#[]⟩, .int .i64 0]) := h23
        have HH24 : Hid (bb24 = true → KB u2 u #[.string ⟨#[]⟩, .int .i64 0, .int .i64 0, .int .i64 0, .int .i64 0, .int .i64 0, .string ⟨#[]⟩, .int .i64 0] 23 v4) := h24
        have HH17 : Hid _ := h17
        clear hB hall hi h0 h1 h2 h3 h4 h5 h6 h7 h8 h9 h10 h11 h12 h13 h14 h15 h16 h17 h18 h19 h20 h21 h22 h23 h24
        refine wpOp_step rfl (fun K hK => ?_)
        go_simp
        refine Calls.mono HC9.out ?_
        rintro e9 u5 ⟨rfl, hb5⟩
        exact hK _ _ ⟨bb0, bb1, bb2, bb3, bb4, bb5, bb6, bb7, bb8, bb9, bb10, bb11, bb12, bb13, bb14, bb15, bb16, bb17, true, bb19, bb20, bb21, bb22, bb23, bb24, false, v16, v17, v18, v19, v20, v21, v22, v23, v24, v25, v26, v27, v28, v29, v30, v31, v32, _, _, v35, v36, v37, v38, v39, v4, rfl, rfl, Below.ups HB.out hb5, Or.inl ⟨rfl, HH0.out, HH1.out, HH2.out, HH3.out, HH4.out, HH5.out, HH6.out, HH7.out, HH8.out, HH9.out, HH10.out, HH11.out, HH12.out, HH13.out, HH14.out, HH15.out, HH16.out, HH17.out, fun _ => rfl, HH19.out, HH20.out, HH21.out, HH22.out, HH23.out, fun e => (HH24.out e).below hb5⟩⟩
      · obtain rfl : bb19 = false := hf
        have HB : Hid _ := hB
        have HH0 : Hid (bb0 = true → v16 = .slice (some ⟨g1, o1, none⟩) 6 c2) := h0
        have HH1 : Hid (bb1 = true → v17 = .pointer (some ⟨g1, o1, none⟩)) := h1
        have HH2 : Hid (bb2 = true → v18 = .string X0) := h2
        have HH3 : Hid (bb3 = true → v19 = .slice (some ⟨g1, o1, none⟩) 6 c2) := h3
        have HH4 : Hid (bb4 = true → v20 = .pointer (some ⟨g1, o1 + 1, none⟩)) := h4
        have HH5 : Hid (bb5 = true → v21 = .string X1) := h5
        have HH6 : Hid (bb6 = true → v22 = .int .i64 N0) := h6
        have HH7 : Hid (bb7 = true → v23 = .slice (some ⟨g1, o1, none⟩) 6 c2) := h7
        have HH8 : Hid (bb8 = true → v24 = .pointer (some ⟨g1, o1 + 2, none⟩)) := h8
        have HH9 : Hid (bb9 = true → v25 = .string X2) := h9
        have HH10 : Hid (bb10 = true → v26 = .int .i64 N1) := h10
        have HH11 : Hid (bb11 = true → v27 = .slice (some ⟨g1, o1, none⟩) 6 c2) := h11
        have HH12 : Hid (bb12 = true → v28 = .pointer (some ⟨g1, o1 + 3, none⟩)) := h12
        have HH13 : Hid (bb13 = true → v29 = .string X3) := h13
        have HH14 : Hid (bb14 = true → v30 = .int .i64 N2) := h14
        have HH15 : Hid (bb15 = true → v31 = .slice (some ⟨g1, o1, none⟩) 6 c2) := h15
        have HH16 : Hid (bb16 = true → v32 = .pointer (some ⟨g1, o1 + 4, none⟩)) := h16
        have HH17 : Hid (bb17 = true → v33 = .string X4) := h17
        have HH18 : Hid (bb18 = true → v34 = .int .i64 N3) := h18
        have HH20 : Hid (bb20 = true → v36 = .pointer (some ⟨g1, o1 + 5, none⟩)) := h20
        have HH21 : Hid (bb21 = true → v37 = .string X5) := h21
        have HH22 : Hid (bb22 = true → v38 = .int .i64 N4) := h22
        have HH23 : Hid (bb23 = true → v39 = .agg #[.string X0, .int .i64 N0, .int .i64 N1, .int .i64 N2, .int .i64 N3, .int .i64 N4, .string ⟨#[]⟩, .int .i64 0]) := h23
        have HH24 : Hid (bb24 = true → KB u2 u #[.string ⟨#[]⟩, .int .i64 0, .int .i64 0, .int .i64 0, .int .i64 0, .int .i64 0, .string ⟨#[]⟩, .int .i64 0] 23 v4) := h24
        clear hB hall hi h0 h1 h2 h3 h4 h5 h6 h7 h8 h9 h10 h11 h12 h13 h14 h15 h16 h17 h18 h19 h20 h21 h22 h23 h24
        refine wpOp_step rfl (fun K hK => ?_)
        go_simp
        exact hK _ _ ⟨bb0, bb1, bb2, bb3, bb4, bb5, bb6, bb7, bb8, bb9, bb10, bb11, bb12, bb13, bb14, bb15, bb16, bb17, bb18, true, bb20, bb21, bb22, bb23, bb24, false, v16, v17, v18, v19, v20, v21, v22, v23, v24, v25, v26, v27, v28, v29, v30, v31, v32, v33, v34, _, v36, v37, v38, v39, v4, rfl, rfl, HB.out, Or.inl ⟨rfl, HH0.out, HH1.out, HH2.out, HH3.out, HH4.out, HH5.out, HH6.out, HH7.out, HH8.out, HH9.out, HH10.out, HH11.out, HH12.out, HH13.out, HH14.out, HH15.out, HH16.out, HH17.out, HH18.out, fun _ => rfl, HH20.out, HH21.out, HH22.out, HH23.out, HH24.out⟩⟩
      · obtain rfl : bb20 = false := hf
        cases ho
        have hb19 : bb19 = true := hall { on := 19, ground := .data } (by simp) rfl
        have e19 := h19 hb19
        subst e19
        have HB : Hid _ := hB
        have HH0 : Hid (bb0 = true → v16 = .slice (some ⟨g1, o1, none⟩) 6 c2) := h0
        have HH1 : Hid (bb1 = true → v17 = .pointer (some ⟨g1, o1, none⟩)) := h1
        have HH2 : Hid (bb2 = true → v18 = .string X0) := h2
        have HH3 : Hid (bb3 = true → v19 = .slice (some ⟨g1, o1, none⟩) 6 c2) := h3
        have HH4 : Hid (bb4 = true → v20 = .pointer (some ⟨g1, o1 + 1, none⟩)) := h4
        have HH5 : Hid (bb5 = true → v21 = .string X1) := h5
        have HH6 : Hid (bb6 = true → v22 = .int .i64 N0) := h6
        have HH7 : Hid (bb7 = true → v23 = .slice (some ⟨g1, o1, none⟩) 6 c2) := h7
        have HH8 : Hid (bb8 = true → v24 = .pointer (some ⟨g1, o1 + 2, none⟩)) := h8
        have HH9 : Hid (bb9 = true → v25 = .string X2) := h9
        have HH10 : Hid (bb10 = true → v26 = .int .i64 N1) := h10
        have HH11 : Hid (bb11 = true → v27 = .slice (some ⟨g1, o1, none⟩) 6 c2) := h11
        have HH12 : Hid (bb12 = true → v28 = .pointer (some ⟨g1, o1 + 3, none⟩)) := h12
        have HH13 : Hid (bb13 = true → v29 = .string X3) := h13
        have HH14 : Hid (bb14 = true → v30 = .int .i64 N2) := h14
        have HH15 : Hid (bb15 = true → v31 = .slice (some ⟨g1, o1, none⟩) 6 c2) := h15
        have HH16 : Hid (bb16 = true → v32 = .pointer (some ⟨g1, o1 + 4, none⟩)) := h16
        have HH17 : Hid (bb17 = true → v33 = .string X4) := h17
        have HH18 : Hid (bb18 = true → v34 = .int .i64 N3) := h18
        have HH21 : Hid (bb21 = true → v37 = .string X5) := h21
        have HH22 : Hid (bb22 = true → v38 = .int .i64 N4) := h22
        have HH23 : Hid (bb23 = true → v39 = .agg #[.string X0, .int .i64 N0, .int .i64 N1, .int .i64 N2, .int .i64 N3, .int .i64 N4, .string ⟨#[]⟩, .int .i64 0]) := h23
        have HH24 : Hid (bb24 = true → KB u2 u #[.string ⟨#[]⟩, .int .i64 0, .int .i64 0, .int .i64 0, .int .i64 0, .int .i64 0, .string ⟨#[]⟩, .int .i64 0] 23 v4) := h24
        have HH19 : Hid _ := h19
        clear hB hall hi h0 h1 h2 h3 h4 h5 h6 h7 h8 h9 h10 h11 h12 h13 h14 h15 h16 h17 h18 h19 h20 h21 h22 h23 h24
        refine wpOp_step rfl (fun K hK => ?_)
        go_simp
        exact hK _ _ ⟨bb0, bb1, bb2, bb3, bb4, bb5, bb6, bb7, bb8, bb9, bb10, bb11, bb12, bb13, bb14, bb15, bb16, bb17, bb18, bb19, true, bb21, bb22, bb23, bb24, false, v16, v17, v18, v19, v20, v21, v22, v23, v24, v25, v26, v27, v28, v29, v30, v31, v32, v33, v34, _, _, v37, v38, v39, v4, rfl, rfl, HB.out, Or.inl ⟨rfl, HH0.out, HH1.out, HH2.out, HH3.out, HH4.out, HH5.out, HH6.out, HH7.out, HH8.out, HH9.out, HH10.out, HH11.out, HH12.out, HH13.out, HH14.out, HH15.out, HH16.out, HH17.out, HH18.out, HH19.out, fun _ => rfl, HH21.out, HH22.out, HH23.out, HH24.out⟩⟩
      · obtain rfl : bb21 = false := hf
        cases ho
        have hb20 : bb20 = true := hall { on := 20, ground := .data } (by simp) rfl
        have e20 := h20 hb20
        subst e20
        have c0 : u.cell? ⟨g1, o1 + 5, none⟩ = some (.string X5) := HWD.out u hB 5 (by omega)
        have cl : g1 < u.heap.size := HLW.out u hB
        have HB : Hid _ := hB
        have HH0 : Hid (bb0 = true → v16 = .slice (some ⟨g1, o1, none⟩) 6 c2) := h0
        have HH1 : Hid (bb1 = true → v17 = .pointer (some ⟨g1, o1, none⟩)) := h1
        have HH2 : Hid (bb2 = true → v18 = .string X0) := h2
        have HH3 : Hid (bb3 = true → v19 = .slice (some ⟨g1, o1, none⟩) 6 c2) := h3
        have HH4 : Hid (bb4 = true → v20 = .pointer (some ⟨g1, o1 + 1, none⟩)) := h4
        have HH5 : Hid (bb5 = true → v21 = .string X1) := h5
        have HH6 : Hid (bb6 = true → v22 = .int .i64 N0) := h6
        have HH7 : Hid (bb7 = true → v23 = .slice (some ⟨g1, o1, none⟩) 6 c2) := h7
        have HH8 : Hid (bb8 = true → v24 = .pointer (some ⟨g1, o1 + 2, none⟩)) := h8
        have HH9 : Hid (bb9 = true → v25 = .string X2) := h9
        have HH10 : Hid (bb10 = true → v26 = .int .i64 N1) := h10
        have HH11 : Hid (bb11 = true → v27 = .slice (some ⟨g1, o1, none⟩) 6 c2) := h11
        have HH12 : Hid (bb12 = true → v28 = .pointer (some ⟨g1, o1 + 3, none⟩)) := h12
        have HH13 : Hid (bb13 = true → v29 = .string X3) := h13
        have HH14 : Hid (bb14 = true → v30 = .int .i64 N2) := h14
        have HH15 : Hid (bb15 = true → v31 = .slice (some ⟨g1, o1, none⟩) 6 c2) := h15
        have HH16 : Hid (bb16 = true → v32 = .pointer (some ⟨g1, o1 + 4, none⟩)) := h16
        have HH17 : Hid (bb17 = true → v33 = .string X4) := h17
        have HH18 : Hid (bb18 = true → v34 = .int .i64 N3) := h18
        have HH19 : Hid (bb19 = true → v35 = .slice (some ⟨g1, o1, none⟩) 6 c2) := h19
        have HH22 : Hid (bb22 = true → v38 = .int .i64 N4) := h22
        have HH23 : Hid (bb23 = true → v39 = .agg #[.string X0, .int .i64 N0, .int .i64 N1, .int .i64 N2, .int .i64 N3, .int .i64 N4, .string ⟨#[]⟩, .int .i64 0]) := h23
        have HH24 : Hid (bb24 = true → KB u2 u #[.string ⟨#[]⟩, .int .i64 0, .int .i64 0, .int .i64 0, .int .i64 0, .int .i64 0, .string ⟨#[]⟩, .int .i64 0] 23 v4) := h24
        have HH20 : Hid _ := h20
        clear hB hall hi h0 h1 h2 h3 h4 h5 h6 h7 h8 h9 h10 h11 h12 h13 h14 h15 h16 h17 h18 h19 h20 h21 h22 h23 h24
        refine wpOp_step rfl (fun K hK => ?_)
        go_simp
        exact hK _ _ ⟨bb0, bb1, bb2, bb3, bb4, bb5, bb6, bb7, bb8, bb9, bb10, bb11, bb12, bb13, bb14, bb15, bb16, bb17, bb18, bb19, bb20, true, bb22, bb23, bb24, false, v16, v17, v18, v19, v20, v21, v22, v23, v24, v25, v26, v27, v28, v29, v30, v31, v32, v33, v34, v35, _, _, v38, v39, v4, rfl, rfl, HB.out, Or.inl ⟨rfl, HH0.out, HH1.out, HH2.out, HH3.out, HH4.out, HH5.out, HH6.out, HH7.out, HH8.out, HH9.out, HH10.out, HH11.out, HH12.out, HH13.out, HH14.out, HH15.out, HH16.out, HH17.out, HH18.out, HH19.out, HH20.out, fun _ => rfl, HH22.out, HH23.out, HH24.out⟩⟩
      · obtain rfl : bb22 = false := hf
        cases ho
        have hb21 : bb21 = true := hall { on := 21, ground := .data } (by simp) rfl
        have e21 := h21 hb21
        subst e21
        have HC9 : Hid _ := HV4.out u
        have HB : Hid _ := hB
        have HH0 : Hid (bb0 = true → v16 = .slice (some ⟨g1, o1, none⟩) 6 c2) := h0
        have HH1 : Hid (bb1 = true → v17 = .pointer (some ⟨g1, o1, none⟩)) := h1
        have HH2 : Hid (bb2 = true → v18 = .string X0) := h2
        have HH3 : Hid (bb3 = true → v19 = .slice (some ⟨g1, o1, none⟩) 6 c2) := h3
        have HH4 : Hid (bb4 = true → v20 = .pointer (some ⟨g1, o1 + 1, none⟩)) := h4
        have HH5 : Hid (bb5 = true → v21 = .string X1) := h5
        have HH6 : Hid (bb6 = true → v22 = .int .i64 N0) := h6
        have HH7 : Hid (bb7 = true → v23 = .slice (some ⟨g1, o1, none⟩) 6 c2) := h7
        have HH8 : Hid (bb8 = true → v24 = .pointer (some ⟨g1, o1 + 2, none⟩)) := h8
        have HH9 : Hid (bb9 = true → v25 = .string X2) := h9
        have HH10 : Hid (bb10 = true → v26 = .int .i64 N1) := h10
        have HH11 : Hid (bb11 = true → v27 = .slice (some ⟨g1, o1, none⟩) 6 c2) := h11
        have HH12 : Hid (bb12 = true → v28 = .pointer (some ⟨g1, o1 + 3, none⟩)) := h12
        have HH13 : Hid (bb13 = true → v29 = .string X3) := h13
        have HH14 : Hid (bb14 = true → v30 = .int .i64 N2) := h14
        have HH15 : Hid (bb15 = true → v31 = .slice (some ⟨g1, o1, none⟩) 6 c2) := h15
        have HH16 : Hid (bb16 = true → v32 = .pointer (some ⟨g1, o1 + 4, none⟩)) := h16
        have HH17 : Hid (bb17 = true → v33 = .string X4) := h17
        have HH18 : Hid (bb18 = true → v34 = .int .i64 N3) := h18
        have HH19 : Hid (bb19 = true → v35 = .slice (some ⟨g1, o1, none⟩) 6 c2) := h19
        have HH20 : Hid (bb20 = true → v36 = .pointer (some ⟨g1, o1 + 5, none⟩)) := h20
        have HH23 : Hid (bb23 = true → v39 = .agg #[.string X0, .int .i64 N0, .int .i64 N1, .int .i64 N2, .int .i64 N3, .int .i64 N4, .string ⟨#[]⟩, .int .i64 0]) := h23
        have HH24 : Hid (bb24 = true → KB u2 u #[.string ⟨#[]⟩, .int .i64 0, .int .i64 0, .int .i64 0, .int .i64 0, .int .i64 0, .string ⟨#[]⟩, .int .i64 0] 23 v4) := h24
        have HH21 : Hid _ := h21
        clear hB hall hi h0 h1 h2 h3 h4 h5 h6 h7 h8 h9 h10 h11 h12 h13 h14 h15 h16 h17 h18 h19 h20 h21 h22 h23 h24
        refine wpOp_step rfl (fun K hK => ?_)
        go_simp
        refine Calls.mono HC9.out ?_
        rintro e9 u5 ⟨rfl, hb5⟩
        exact hK _ _ ⟨bb0, bb1, bb2, bb3, bb4, bb5, bb6, bb7, bb8, bb9, bb10, bb11, bb12, bb13, bb14, bb15, bb16, bb17, bb18, bb19, bb20, bb21, true, bb23, bb24, false, v16, v17, v18, v19, v20, v21, v22, v23, v24, v25, v26, v27, v28, v29, v30, v31, v32, v33, v34, v35, v36, _, _, v39, v4, rfl, rfl, Below.ups HB.out hb5, Or.inl ⟨rfl, HH0.out, HH1.out, HH2.out, HH3.out, HH4.out, HH5.out, HH6.out, HH7.out, HH8.out, HH9.out, HH10.out, HH11.out, HH12.out, HH13.out, HH14.out, HH15.out, HH16.out, HH17.out, HH18.out, HH19.out, HH20.out, HH21.out, fun _ => rfl, HH23.out, fun e => (HH24.out e).below hb5⟩⟩
      · obtain rfl : bb23 = false := hf
        cases ho
        have hb2 : bb2 = true := hall { on := 2, ground := .data } (by simp) rfl
        have e2 := h2 hb2
        subst e2
        have hb6 : bb6 = true := hall { on := 6, ground := .data } (by simp) rfl
        have e6 := h6 hb6
        subst e6
        have hb10 : bb10 = true := hall { on := 10, ground := .data } (by simp) rfl
        have e10 := h10 hb10
        subst e10
        have hb14 : bb14 = true := hall { on := 14, ground := .data } (by simp) rfl
        have e14 := h14 hb14
        subst e14
        have hb18 : bb18 = true := hall { on := 18, ground := .data } (by simp) rfl
        have e18 := h18 hb18
        subst e18
        have hb22 : bb22 = true := hall { on := 22, ground := .data } (by simp) rfl
        have e22 := h22 hb22
        subst e22
        have HB : Hid _ := hB
        have HH0 : Hid (bb0 = true → v16 = .slice (some ⟨g1, o1, none⟩) 6 c2) := h0
        have HH1 : Hid (bb1 = true → v17 = .pointer (some ⟨g1, o1, none⟩)) := h1
        have HH3 : Hid (bb3 = true → v19 = .slice (some ⟨g1, o1, none⟩) 6 c2) := h3
        have HH4 : Hid (bb4 = true → v20 = .pointer (some ⟨g1, o1 + 1, none⟩)) := h4
        have HH5 : Hid (bb5 = true → v21 = .string X1) := h5
        have HH7 : Hid (bb7 = true → v23 = .slice (some ⟨g1, o1, none⟩) 6 c2) := h7
        have HH8 : Hid (bb8 = true → v24 = .pointer (some ⟨g1, o1 + 2, none⟩)) := h8
        have HH9 : Hid (bb9 = true → v25 = .string X2) := h9
        have HH11 : Hid (bb11 = true → v27 = .slice (some ⟨g1, o1, none⟩) 6 c2) := h11
        have HH12 : Hid (bb12 = true → v28 = .pointer (some ⟨g1, o1 + 3, none⟩)) := h12
        have HH13 : Hid (bb13 = true → v29 = .string X3) := h13
        have HH15 : Hid (bb15 = true → v31 = .slice (some ⟨g1, o1, none⟩) 6 c2) := h15
        have HH16 : Hid (bb16 = true → v32 = .pointer (some ⟨g1, o1 + 4, none⟩)) := h16
        have HH17 : Hid (bb17 = true → v33 = .string X4) := h17
        have HH19 : Hid (bb19 = true → v35 = .slice (some ⟨g1, o1, none⟩) 6 c2) := h19
        have HH20 : Hid (bb20 = true → v36 = .pointer (some ⟨g1, o1 + 5, none⟩)) := h20
        have HH21 : Hid (bb21 = true → v37 = .string X5) := h21
        have HH24 : Hid (bb24 = true → KB u2 u #[.string ⟨#[]⟩, .int .i64 0, .int .i64 0, .int .i64 0, .int .i64 0, .int .i64 0, .string ⟨#[]⟩, .int .i64 0] 23 v4) := h24
        have HH2 : Hid _ := h2
        have HH6 : Hid _ := h6
        have HH10 : Hid _ := h10
        have HH14 : Hid _ := h14
        have HH18 : Hid _ := h18
        have HH22 : Hid _ := h22
        clear hB hall hi h0 h1 h2 h3 h4 h5 h6 h7 h8 h9 h10 h11 h12 h13 h14 h15 h16 h17 h18 h19 h20 h21 h22 h23 h24
        refine wpOp_step rfl (fun K hK => ?_)
        go_simp
        exact hK _ _ ⟨bb0, bb1, bb2, bb3, bb4, bb5, bb6, bb7, bb8, bb9, bb10, bb11, bb12, bb13, bb14, bb15, bb16, bb17, bb18, bb19, bb20, bb21, bb22, true, bb24, false, v16, v17, _, v19, v20, v21, _, v23, v24, v25, _, v27, v28, v29, _, v31, v32, v33, _, v35, v36, v37, _, _, v4, rfl, rfl, HB.out, Or.inl ⟨rfl, HH0.out, HH1.out, HH2.out, HH3.out, HH4.out, HH5.out, HH6.out, HH7.out, HH8.out, HH9.out, HH10.out, HH11.out, HH12.out, HH13.out, HH14.out, HH15.out, HH16.out, HH17.out, HH18.out, HH19.out, HH20.out, HH21.out, HH22.out, fun _ => rfl, HH24.out⟩⟩
      · obtain rfl : bb24 = false := hf
        have HB : Hid _ := hB
        have HH0 : Hid (bb0 = true → v16 = .slice (some ⟨g1, o1, none⟩) 6 c2) := h0
        have HH1 : Hid (bb1 = true → v17 = .pointer (some ⟨g1, o1, none⟩)) := h1
        have HH2 : Hid (bb2 = true → v18 = .string X0) := h2
        have HH3 : Hid (bb3 = true → v19 = .slice (some ⟨g1, o1, none⟩) 6 c2) := h3
        have HH4 : Hid (bb4 = true → v20 = .pointer (some ⟨g1, o1 + 1, none⟩)) := h4
        have HH5 : Hid (bb5 = true → v21 = .string X1) := h5
        have HH6 : Hid (bb6 = true → v22 = .int .i64 N0) := h6
        have HH7 : Hid (bb7 = true → v23 = .slice (some ⟨g1, o1, none⟩) 6 c2) := h7
        have HH8 : Hid (bb8 = true → v24 = .pointer (some ⟨g1, o1 + 2, none⟩)) := h8
        have HH9 : Hid (bb9 = true → v25 = .string X2) := h9
        have HH10 : Hid (bb10 = true → v26 = .int .i64 N1) := h10
        have HH11 : Hid (bb11 = true → v27 = .slice (some ⟨g1, o1, none⟩) 6 c2) := h11
        have HH12 : Hid (bb12 = true → v28 = .pointer (some ⟨g1, o1 + 3, none⟩)) := h12
        have HH13 : Hid (bb13 = true → v29 = .string X3) := h13
        have HH14 : Hid (bb14 = true → v30 = .int .i64 N2) := h14
        have HH15 : Hid (bb15 = true → v31 = .slice (some ⟨g1, o1, none⟩) 6 c2) := h15
        have HH16 : Hid (bb16 = true → v32 = .pointer (some ⟨g1, o1 + 4, none⟩)) := h16
        have HH17 : Hid (bb17 = true → v33 = .string X4) := h17
        have HH18 : Hid (bb18 = true → v34 = .int .i64 N3) := h18
        have HH19 : Hid (bb19 = true → v35 = .slice (some ⟨g1, o1, none⟩) 6 c2) := h19
        have HH20 : Hid (bb20 = true → v36 = .pointer (some ⟨g1, o1 + 5, none⟩)) := h20
        have HH21 : Hid (bb21 = true → v37 = .string X5) := h21
        have HH22 : Hid (bb22 = true → v38 = .int .i64 N4) := h22
        have HH23 : Hid (bb23 = true → v39 = .agg #[.string X0, .int .i64 N0, .int .i64 N1, .int .i64 N2, .int .i64 N3, .int .i64 N4, .string ⟨#[]⟩, .int .i64 0]) := h23
        clear hB hall hi h0 h1 h2 h3 h4 h5 h6 h7 h8 h9 h10 h11 h12 h13 h14 h15 h16 h17 h18 h19 h20 h21 h22 h23 h24
        refine wpOp_step rfl (fun K hK => ?_)
        go_simp
        exact hK _ _ ⟨bb0, bb1, bb2, bb3, bb4, bb5, bb6, bb7, bb8, bb9, bb10, bb11, bb12, bb13, bb14, bb15, bb16, bb17, bb18, bb19, bb20, bb21, bb22, bb23, true, false, v16, v17, v18, v19, v20, v21, v22, v23, v24, v25, v26, v27, v28, v29, v30, v31, v32, v33, v34, v35, v36, v37, v38, v39, _, rfl, rfl, Below.ups HB.out (bx1 _ _), Or.inl ⟨rfl, HH0.out, HH1.out, HH2.out, HH3.out, HH4.out, HH5.out, HH6.out, HH7.out, HH8.out, HH9.out, HH10.out, HH11.out, HH12.out, HH13.out, HH14.out, HH15.out, HH16.out, HH17.out, HH18.out, HH19.out, HH20.out, HH21.out, HH22.out, HH23.out, fun _ => KB.new _ _ HB.out.size⟩⟩
      · cases ho
        obtain rfl : bb0 = true := hall { on := 0, ground := .phase } (by simp) rfl
        obtain rfl : bb1 = true := hall { on := 1, ground := .phase } (by simp) rfl
        obtain rfl : bb2 = true := hall { on := 2, ground := .phase } (by simp) rfl
        obtain rfl : bb3 = true := hall { on := 3, ground := .phase } (by simp) rfl
        obtain rfl : bb4 = true := hall { on := 4, ground := .phase } (by simp) rfl
        obtain rfl : bb5 = true := hall { on := 5, ground := .phase } (by simp) rfl
        obtain rfl : bb6 = true := hall { on := 6, ground := .phase } (by simp) rfl
        obtain rfl : bb7 = true := hall { on := 7, ground := .phase } (by simp) rfl
        obtain rfl : bb8 = true := hall { on := 8, ground := .phase } (by simp) rfl
        obtain rfl : bb9 = true := hall { on := 9, ground := .phase } (by simp) rfl
        obtain rfl : bb10 = true := hall { on := 10, ground := .phase } (by simp) rfl
        obtain rfl : bb11 = true := hall { on := 11, ground := .phase } (by simp) rfl
        obtain rfl : bb12 = true := hall { on := 12, ground := .phase } (by simp) rfl
        obtain rfl : bb13 = true := hall { on := 13, ground := .phase } (by simp) rfl
        obtain rfl : bb14 = true := hall { on := 14, ground := .phase } (by simp) rfl
        obtain rfl : bb15 = true := hall { on := 15, ground := .phase } (by simp) rfl
        obtain rfl : bb16 = true := hall { on := 16, ground := .phase } (by simp) rfl
        obtain rfl : bb17 = true := hall { on := 17, ground := .phase } (by simp) rfl
        obtain rfl : bb18 = true := hall { on := 18, ground := .phase } (by simp) rfl
        obtain rfl : bb19 = true := hall { on := 19, ground := .phase } (by simp) rfl
        obtain rfl : bb20 = true := hall { on := 20, ground := .phase } (by simp) rfl
        obtain rfl : bb21 = true := hall { on := 21, ground := .phase } (by simp) rfl
        obtain rfl : bb22 = true := hall { on := 22, ground := .phase } (by simp) rfl
        obtain rfl : bb23 = true := hall { on := 23, ground := .phase } (by simp) rfl
        obtain rfl : bb24 = true := hall { on := 24, ground := .phase } (by simp) rfl
        have e24 := h24 rfl
        obtain ⟨p24, rfl, p24b, p24c⟩ := (e24).ex
        have e23 := h23 rfl
        subst e23
        have z0 := put_cel p24c 0 _ rfl
        have y0 := put_frz p24c 0
        have z1 := put_cel p24c 1 _ rfl
        have y1 := put_frz p24c 1
        have z2 := put_cel p24c 2 _ rfl
        have y2 := put_frz p24c 2
        have z3 := put_cel p24c 3 _ rfl
        have y3 := put_frz p24c 3
        have z4 := put_cel p24c 4 _ rfl
        have y4 := put_frz p24c 4
        have z5 := put_cel p24c 5 _ rfl
        have y5 := put_frz p24c 5
        have z6 := put_cel p24c 6 _ rfl
        have y6 := put_frz p24c 6
        have z7 := put_cel p24c 7 _ rfl
        have y7 := put_frz p24c 7
        have plt : p24 < u.heap.size := (Array.getElem?_eq_some_iff.1 p24c).1
        have HB : Hid _ := hB
        have HH0 : Hid (v16 = .slice (some ⟨g1, o1, none⟩) 6 c2) := h0 rfl
        have HH1 : Hid (v17 = .pointer (some ⟨g1, o1, none⟩)) := h1 rfl
        have HH2 : Hid (v18 = .string X0) := h2 rfl
        have HH3 : Hid (v19 = .slice (some ⟨g1, o1, none⟩) 6 c2) := h3 rfl
        have HH4 : Hid (v20 = .pointer (some ⟨g1, o1 + 1, none⟩)) := h4 rfl
        have HH5 : Hid (v21 = .string X1) := h5 rfl
        have HH6 : Hid (v22 = .int .i64 N0) := h6 rfl
        have HH7 : Hid (v23 = .slice (some ⟨g1, o1, none⟩) 6 c2) := h7 rfl
        have HH8 : Hid (v24 = .pointer (some ⟨g1, o1 + 2, none⟩)) := h8 rfl
        have HH9 : Hid (v25 = .string X2) := h9 rfl
        have HH10 : Hid (v26 = .int .i64 N1) := h10 rfl
        have HH11 : Hid (v27 = .slice (some ⟨g1, o1, none⟩) 6 c2) := h11 rfl
        have HH12 : Hid (v28 = .pointer (some ⟨g1, o1 + 3, none⟩)) := h12 rfl
        have HH13 : Hid (v29 = .string X3) := h13 rfl
        have HH14 : Hid (v30 = .int .i64 N2) := h14 rfl
        have HH15 : Hid (v31 = .slice (some ⟨g1, o1, none⟩) 6 c2) := h15 rfl
        have HH16 : Hid (v32 = .pointer (some ⟨g1, o1 + 4, none⟩)) := h16 rfl
        have HH17 : Hid (v33 = .string X4) := h17 rfl
        have HH18 : Hid (v34 = .int .i64 N3) := h18 rfl
        have HH19 : Hid (v35 = .slice (some ⟨g1, o1, none⟩) 6 c2) := h19 rfl
        have HH20 : Hid (v36 = .pointer (some ⟨g1, o1 + 5, none⟩)) := h20 rfl
        have HH21 : Hid (v37 = .string X5) := h21 rfl
        have HH22 : Hid (v38 = .int .i64 N4) := h22 rfl
        have HPC : Hid _ := p24c
        have HPB : Hid _ := p24b
        clear hB hall hi p24c p24b h0 h1 h2 h3 h4 h5 h6 h7 h8 h9 h10 h11 h12 h13 h14 h15 h16 h17 h18 h19 h20 h21 h22 h23 h24
        refine wpOp_step rfl (fun K hK => ?_)
        go_simp
        exact hK _ _ ⟨true, true, true, true, true, true, true, true, true, true, true, true, true, true, true, true, true, true, true, true, true, true, true, true, true, true, v16, v17, v18, v19, v20, v21, v22, v23, v24, v25, v26, v27, v28, v29, v30, v31, v32, v33, v34, v35, v36, v37, v38, _, _, rfl, rfl, ((((((((HB.out.setCell HPB.out _).setCell HPB.out _).setCell HPB.out _).setCell HPB.out _).setCell HPB.out _).setCell HPB.out _).setCell HPB.out _).setCell HPB.out _), Or.inr ⟨rfl, rfl, rfl, rfl, rfl, rfl, rfl, rfl, rfl, rfl, rfl, rfl, rfl, rfl, rfl, rfl, rfl, rfl, rfl, rfl, rfl, rfl, rfl, rfl, rfl, rfl, HH0.out, HH1.out, HH2.out, HH3.out, HH4.out, HH5.out, HH6.out, HH7.out, HH8.out, HH9.out, HH10.out, HH11.out, HH12.out, HH13.out, HH14.out, HH15.out, HH16.out, HH17.out, HH18.out, HH19.out, HH20.out, HH21.out, HH22.out, rfl, ⟨p24, rfl, HPB.out, (heap_put (heap_put (heap_put (heap_put (heap_put (heap_put (heap_put (heap_put HPC.out))))))))⟩⟩⟩
    · exfalso
      obtain rfl | rfl | rfl | rfl | rfl | rfl | rfl | rfl | rfl | rfl | rfl | rfl | rfl | rfl | rfl | rfl | rfl | rfl | rfl | rfl | rfl | rfl | rfl | rfl | rfl | rfl : i = 0 ∨ i = 1 ∨ i = 2 ∨ i = 3 ∨ i = 4 ∨ i = 5 ∨ i = 6 ∨ i = 7 ∨ i = 8 ∨ i = 9 ∨ i = 10 ∨ i = 11 ∨ i = 12 ∨ i = 13 ∨ i = 14 ∨ i = 15 ∨ i = 16 ∨ i = 17 ∨ i = 18 ∨ i = 19 ∨ i = 20 ∨ i = 21 ∨ i = 22 ∨ i = 23 ∨ i = 24 ∨ i = 25 := by omega
      all_goals exact absurd hf (by decide)
  case hd =>
    rintro LL a9 u ⟨bb0, bb1, bb2, bb3, bb4, bb5, bb6, bb7, bb8, bb9, bb10, bb11, bb12, bb13, bb14, bb15, bb16, bb17, bb18, bb19, bb20, bb21, bb22, bb23, bb24, bb25, v16, v17, v18, v19, v20, v21, v22, v23, v24, v25, v26, v27, v28, v29, v30, v31, v32, v33, v34, v35, v36, v37, v38, v39, v4, rfl, rfl, hB, hI⟩ hr
    have hall2 := (fun he hL => all_up (md := _) he hL hr) (by kernel_rfl) rfl
    unfold RvI at hI
    rcases hI with ⟨rfl, _⟩ | ⟨rfl, rfl, rfl, rfl, rfl, rfl, rfl, rfl, rfl, rfl, rfl, rfl, rfl, rfl, rfl, rfl, rfl, rfl, rfl, rfl, rfl, rfl, rfl, rfl, rfl, rfl, g16, g17, g18, g19, g20, g21, g22, g23, g24, g25, g26, g27, g28, g29, g30, g31, g32, g33, g34, g35, g36, g37, g38, g39, g4⟩
    · exact Bool.noConfusion (show false = true from hall2 25 (by decide))
    clear hr hall2
    obtain ⟨b8, rfl, hge8, hc8⟩ := g4.ex
    have HA : Hid (LG w u b0 #[.string ⟨#[]⟩, .int .i64 0, .int .i64 0, .int .i64 0, .int .i64 0, .int .i64 0, .string ⟨#[]⟩, .int .i64 0] 23) := HL2.out.step hB
    have HW : Hid (LG w u b8 #[.string X0, .int .i64 N0, .int .i64 N1, .int .i64 N2, .int .i64 N3, .int .i64 N4, .string ⟨#[]⟩, .int .i64 0] 23) := ⟨HA.out.bel, hc8, Nat.le_trans HL2.out.bel.size hge8⟩
    clear g4 hc8 hB HL2 hge8 HWD HLW HV0 HV1 HV2 HV3 HV4
    have n0 := HW.out.cel 0 _ rfl
    have n1 := HW.out.cel 1 _ rfl
    have n2 := HW.out.cel 2 _ rfl
    have n3 := HW.out.cel 3 _ rfl
    have n4 := HW.out.cel 4 _ rfl
    have n5 := HW.out.cel 5 _ rfl
    have n6 := HW.out.cel 6 _ rfl
    have n7 := HW.out.cel 7 _ rfl
    have nl := HW.out.lt
    by_cases hy : Y = t
    · have E : Hid (rvS t = ⟨X0, N0, N1, N2, N3, N4, ⟨#[]⟩, 0⟩) := (show _ = _ by rw [HE2.out, if_pos hy])
      clear HE2
      subst hy
      go_upto_region 7 with (go_at_call 10; refine Calls.mono (HVT.out _) ?_; rintro e u9 ⟨rfl, hb⟩; have HA9 : Hid (LG w u9 b0 #[.string ⟨#[]⟩, .int .i64 0, .int .i64 0, .int .i64 0, .int .i64 0, .int .i64 0, .string ⟨#[]⟩, .int .i64 0] 23) := HA.out.step hb; have HW9 : Hid (LG w u9 b8 #[.string X0, .int .i64 N0, .int .i64 N1, .int .i64 N2, .int .i64 N3, .int .i64 N4, .string ⟨#[]⟩, .int .i64 0] 23) := HW.out.step hb; clear hb)
      clear n0 n1 n2 n3 n4 n5 n6 n7 nl HW HA
      have n0 := HW9.out.cel 0 _ rfl
      have n1 := HW9.out.cel 1 _ rfl
      have n2 := HW9.out.cel 2 _ rfl
      have n3 := HW9.out.cel 3 _ rfl
      have n4 := HW9.out.cel 4 _ rfl
      have n5 := HW9.out.cel 5 _ rfl
      have n6 := HW9.out.cel 6 _ rfl
      have n7 := HW9.out.cel 7 _ rfl
      have nl := HW9.out.lt
      have k0 := HA9.out.cel 0 _ rfl
      have k1 := HA9.out.cel 1 _ rfl
      have k2 := HA9.out.cel 2 _ rfl
      have k3 := HA9.out.cel 3 _ rfl
      have k4 := HA9.out.cel 4 _ rfl
      have k5 := HA9.out.cel 5 _ rfl
      have k6 := HA9.out.cel 6 _ rfl
      have k7 := HA9.out.cel 7 _ rfl
      have kl := HA9.out.lt
      have kf := HA9.out.frz
      go_wp2
      refine bodyPost_ret (v := .agg #[.string X0, .int .i64 N0, .int .i64 N1, .int .i64 N2, .int .i64 N3, .int .i64 N4, .string ⟨#[]⟩, .int .i64 0]) ?_ rfl ⟨by rw [E.out], ?_⟩
      · simp only [results, Tryd.results5, go_sem]
        simp [go_sem, k0, k1, k2, k3, k4, k5, k6, k7]
      · have hb9 := HA9.out.bel
        rw [HB9.out] at hb9
        first | rw [HB9.out] | skip
        repeat refine Below.setCell ?_ (by simp only; omega) _
        exact hb9
    · have E : Hid (rvS t = vmc0) := (show _ = _ by rw [HE2.out, if_neg hy])
      have hyl : (Y.toList == t.toList) = false := by
        rw [beq_eq_false_iff_ne]
        intro h
        rw [ByteArray.toList_eq, ByteArray.toList_eq] at h
        exact hy (ext_list h)
      clear HE2 hy
      go_upto_region 6 with (go_at_call 10; refine Calls.mono (HVT.out _) ?_; rintro e u9 ⟨rfl, hb⟩; have HA9 : Hid (LG w u9 b0 #[.string ⟨#[]⟩, .int .i64 0, .int .i64 0, .int .i64 0, .int .i64 0, .int .i64 0, .string ⟨#[]⟩, .int .i64 0] 23) := HA.out.step hb; have HW9 : Hid (LG w u9 b8 #[.string X0, .int .i64 N0, .int .i64 N1, .int .i64 N2, .int .i64 N3, .int .i64 N4, .string ⟨#[]⟩, .int .i64 0] 23) := HW.out.step hb; clear hb)
      clear n0 n1 n2 n3 n4 n5 n6 n7 nl HW HA
      have n0 := HW9.out.cel 0 _ rfl
      have n1 := HW9.out.cel 1 _ rfl
      have n2 := HW9.out.cel 2 _ rfl
      have n3 := HW9.out.cel 3 _ rfl
      have n4 := HW9.out.cel 4 _ rfl
      have n5 := HW9.out.cel 5 _ rfl
      have n6 := HW9.out.cel 6 _ rfl
      have n7 := HW9.out.cel 7 _ rfl
      have nl := HW9.out.lt
      have k0 := HA9.out.cel 0 _ rfl
      have k1 := HA9.out.cel 1 _ rfl
      have k2 := HA9.out.cel 2 _ rfl
      have k3 := HA9.out.cel 3 _ rfl
      have k4 := HA9.out.cel 4 _ rfl
      have k5 := HA9.out.cel 5 _ rfl
      have k6 := HA9.out.cel 6 _ rfl
      have k7 := HA9.out.cel 7 _ rfl
      have kl := HA9.out.lt
      have kf := HA9.out.frz
      go_wp2
      refine bodyPost_ret (v := .agg #[.string ⟨#[]⟩, .int .i64 0, .int .i64 0, .int .i64 0, .int .i64 0, .int .i64 0, .string ⟨#[]⟩, .int .i64 0]) ?_ rfl ⟨by rw [E.out]; rfl, ?_⟩
      · simp only [results, Tryd.results5, go_sem]
        simp [go_sem, k0, k1, k2, k3, k4, k5, k6, k7]
      · have hb9 := HA9.out.bel
        rw [HB9.out] at hb9
        first | rw [HB9.out] | skip
        repeat refine Below.setCell ?_ (by simp only; omega) _
        exact hb9
end Go.Proofs.YtkicaihfknfgkaaDoor
