import Derived.Test.YtcglpigmellfcabSg5
namespace Go.Proofs.Ytcglpigmellfcab
open Go.ChangeShapes Go.WideShapes Go.ChangeAt Go.RowKit

theorem szC_yes {root : ByteArray} {zs : List Int} {d : ByteArray} (h1 : szC root zs d = true) : decide (4032 < (root.size : Int)) = true ∨ decide (4032 < (root.size : Int)) = false ∧ decide (4096 < (d.size : Int)) = true ∨ decide (4032 < (root.size : Int)) = false ∧ decide (4096 < (d.size : Int)) = false ∧ decide (1000 < (zs.length : Int)) = true := by
  simp only [szC, ovB] at h1
  revert h1
  cases decide (4032 < (root.size : Int)) <;> cases decide (4096 < (d.size : Int)) <;> cases decide (1000 < (zs.length : Int)) <;> simp
set_option maxRecDepth 100000 in
set_option maxHeartbeats 4000000 in
theorem specUnseal_any {w : World} {v : Value} {zs : List Int} (h : Irow w v zs) (hl : zs.length ≤ 1048576) (root : ByteArray) (x : SE) :
    Calls Try.prog 36 #[.string root, v, seA x] w fun e w' => e = .returned (opA (unV root zs x)) ∧ Below w.heap.size w w' := by
  have HM : Hid (∀ u, Aft w u → Calls Try.prog 77 #[v, .int .i64 x.mask] u fun e w' => e = .returned (.bool (mkB zs x.mask)) ∧ Below u.heap.size u w') := fun u hu => l15Mask_any (h.below hu.out) hl x.mask
  have HR : Hid (Irow w v zs) := h
  obtain ⟨ao, cap, rfl⟩ := h.sl
  clear h
  by_cases hu : unC root zs x = 0
  · obtain ⟨hc, hx⟩ := unC_ok hu
    obtain ⟨p1, p2, p3, -, -, -, -, p8, p9⟩ := scC_ok hc
    obtain ⟨q1, q2, q3⟩ := szC_no p9
    have q4 : decide (4096 < (x.data.size : Int)) = false := q3
    have E : Hid (unV root zs x = (if (tagV (kyK root zs x.mask zs.length) x.data).toList == x.tag.toList then ⟨0, crV (kyK root zs x.mask zs.length) 1 x.data⟩ else ⟨7, ⟨#[]⟩⟩)) := if_pos hu
    have hks := kyK_size root zs x.mask zs.length
    rw [p8] at HM
    have HKO : Hid (∀ u, Aft w u → Calls Try.prog 78 #[.string root, .slice ao zs.length cap, .int .i64 x.mask] u fun e w' => e = .returned (.string (kyK root zs x.mask zs.length)) ∧ Below u.heap.size u w') := fun u hu => l15Key_any (HR.out.below hu.out) p2 root x.mask (by omega)
    have HX : Hid (cryV (kyK root zs x.mask zs.length) 1 x.data = crV (kyK root zs x.mask zs.length) 1 x.data) := (show cryV _ 1 x.data = _ by unfold cryV; rw [if_neg]; simp [ovB]; omega)
    have HT : Hid (tgoV (kyK root zs x.mask zs.length) x.data = tagV (kyK root zs x.mask zs.length) x.data) := (show tgoV _ _ = _ by unfold tgoV; rw [if_neg]; simp [ovB]; omega)
    generalize kyK root zs x.mask zs.length = S at *
    clear hc hu q3 p8 p9
    generalize unV root zs x = R at *
    obtain ⟨code, m, d, tg⟩ := x
    simp only at hx p3 E HM HKO HX HT q4
    subst hx
    unfold seA
    simp only
    have HT0 : Hid (TB w _ _ _ #[.int .i64 0, .int .i64 m, .string d, .string tg] 74 #[.int .i64 0, .string ⟨#[]⟩] 77) := TB.new w _ _ _ _
    have HTG : Hid (∀ u, Calls Try.prog 80 #[.string S, .string d] u fun e w' => e = .returned (.string (tagV S d)) ∧ Below u.heap.size u w') := fun u => by rw [← HT.out]; exact specTagOf_any S d u
    have HCR : Hid (∀ u, Calls Try.prog 79 #[.string S, .int .i64 1, .string d] u fun e w' => e = .returned (.string (crV S 1 d)) ∧ Below u.heap.size u w') := fun u => by rw [← HX.out]; exact specCrypt_any S 1 d u
    generalize tagV S d = T at *
    go_enter Try.func36, Try.ntmps36
    go_upto_region 1 with fail
    generalize ((w.alloc (.cells #[.int .i64 0, .int .i64 m, .string d, .string tg] 74)).alloc (.cells #[.int .i64 0, .string ⟨#[]⟩] 77)) = u0 at *
    generalize w.heap.size + 1 = b2 at *
    generalize w.heap.size = b1 at *
    have k0 := HT0.out.c1 0 _ rfl
    have k1 := HT0.out.c1 1 _ rfl
    have k2 := HT0.out.c1 2 _ rfl
    have l1 := HT0.out.lt1
    go_wp2_with fail
    refine Calls.mono (HM.out _ HT0.out.aft) ?_
    rintro e u1 ⟨rfl, hb1⟩
    have HT1 : Hid (TB w u1 b1 b2 _ _ _ _) := HT0.out.step hb1
    clear hb1 HT0 k0 k1 k2 l1
    have k1 := HT1.out.c1 1 _ rfl
    have l1 := HT1.out.lt1
    go_wp2_with fail
    refine Calls.mono (HKO.out _ HT1.out.aft) ?_
    rintro e u2 ⟨rfl, hb2⟩
    have HT2 : Hid (TB w u2 b1 b2 #[.int .i64 0, .int .i64 m, .string d, .string tg] 74 #[.int .i64 0, .string ⟨#[]⟩] 77) := HT1.out.step hb2
    clear hb2 HT1 k1 l1
    go_wp2_with fail
    cases hq : (T.toList == tg.toList)
    · rw [hq] at E
      have E2 : Hid (R = ⟨7, ⟨#[]⟩⟩) := E.out
      clear E
      have E := E2
      refine wp_region_held (S := fun w9 => TB w w9 b1 b2 #[.int .i64 0, .int .i64 m, .string d, .string tg] 74 #[.int .i64 0, .string ⟨#[]⟩] 77) (by kernel_rfl) ?_
      change wpAnyH _ _ _ _ _ _ _ _ (World.drew _)
      refine wpAnyH_take (i := 0) (v := .string S) rfl (by kernel_rfl) (by kernel_rfl) (by kernel_rfl) (fun _ _ _ h => h) (Or.inl ⟨by kernel_rfl, fun w9 h9 => ?_⟩) HT2.out.drew ?_
      · go_simp
      refine wpAnyH_take (i := 1) (v := .pointer (some ⟨b1, 2, none⟩)) rfl (by kernel_rfl) (by kernel_rfl) (by kernel_rfl) (fun _ _ _ h => h) (Or.inl ⟨by kernel_rfl, fun w9 h9 => ?_⟩) HT2.out.drew ?_
      · go_simp
      refine wpAnyH_take (i := 2) (v := .string d) rfl (by kernel_rfl) (by kernel_rfl) (by kernel_rfl) (fun _ _ _ h => h) (Or.inl ⟨by kernel_rfl, fun w9 h9 => ?_⟩) HT2.out.drew ?_
      · have x2 := h9.c1 2 _ rfl; have x3 := h9.c1 3 _ rfl; have xl := h9.lt1; go_simp
      refine wpAnyH_take (i := 4) (v := .pointer (some ⟨b1, 3, none⟩)) rfl (by kernel_rfl) (by kernel_rfl) (by kernel_rfl) (fun _ _ _ h => h) (Or.inl ⟨by kernel_rfl, fun w9 h9 => ?_⟩) HT2.out.drew ?_
      · go_simp
      refine wpAnyH_take (i := 5) (v := .string tg) rfl (by kernel_rfl) (by kernel_rfl) (by kernel_rfl) (fun _ _ _ h => h) (Or.inl ⟨by kernel_rfl, fun w9 h9 => ?_⟩) HT2.out.drew ?_
      · have x2 := h9.c1 2 _ rfl; have x3 := h9.c1 3 _ rfl; have xl := h9.lt1; go_simp
      refine held_one 3 (by kernel_rfl) rfl (by kernel_rfl) fun K hK => ?_
      go_simp
      go_wp2_with (go_at_call 80; refine Calls.mono (HTG.out _) ?_; rintro e v1 ⟨rfl, hu⟩; have HT3 : Hid (TB w v1 b1 b2 #[.int .i64 0, .int .i64 m, .string d, .string tg] 74 #[.int .i64 0, .string ⟨#[]⟩] 77) := (HT2.out.drew).step hu; clear hu)
      refine hK _ _ HT3.out ?_
      clear hK K
      refine wpAnyH_take (i := 6) (v := .bool true) rfl (by kernel_rfl) (by kernel_rfl) (by kernel_rfl) (fun _ _ _ h => h) (Or.inl ⟨by kernel_rfl, fun w9 h9 => ?_⟩) HT3.out ?_
      · go_simp
      refine wpAnyH_done (by kernel_rfl) ?_ _
      go_simp
      have q0 := HT3.out.c2 0 _ rfl
      have q1 := HT3.out.c2 1 _ rfl
      have qf0 := HT3.out.f2 0
      have qf1 := HT3.out.f2 1
      have ql := HT3.out.lt2
      go_wp2
      refine bodyPost_ret (v := opA ⟨7, ⟨#[]⟩⟩) ?_ rfl ⟨by rw [E.out], (HT3.out.bel.setCell HT3.out.ge2 _).setCell HT3.out.ge2 _⟩
      simp [results, Try.results36, go_sem, opA, q0, q1]
    · rw [hq] at E
      have E2 : Hid (R = ⟨0, crV S 1 d⟩) := E.out
      clear E
      have E := E2
      refine wp_region_held (S := fun w9 => TB w w9 b1 b2 #[.int .i64 0, .int .i64 m, .string d, .string tg] 74 #[.int .i64 0, .string ⟨#[]⟩] 77) (by kernel_rfl) ?_
      change wpAnyH _ _ _ _ _ _ _ _ (World.drew _)
      refine wpAnyH_take (i := 0) (v := .string S) rfl (by kernel_rfl) (by kernel_rfl) (by kernel_rfl) (fun _ _ _ h => h) (Or.inl ⟨by kernel_rfl, fun w9 h9 => ?_⟩) HT2.out.drew ?_
      · go_simp
      refine wpAnyH_take (i := 1) (v := .pointer (some ⟨b1, 2, none⟩)) rfl (by kernel_rfl) (by kernel_rfl) (by kernel_rfl) (fun _ _ _ h => h) (Or.inl ⟨by kernel_rfl, fun w9 h9 => ?_⟩) HT2.out.drew ?_
      · go_simp
      refine wpAnyH_take (i := 2) (v := .string d) rfl (by kernel_rfl) (by kernel_rfl) (by kernel_rfl) (fun _ _ _ h => h) (Or.inl ⟨by kernel_rfl, fun w9 h9 => ?_⟩) HT2.out.drew ?_
      · have x2 := h9.c1 2 _ rfl; have x3 := h9.c1 3 _ rfl; have xl := h9.lt1; go_simp
      refine wpAnyH_take (i := 4) (v := .pointer (some ⟨b1, 3, none⟩)) rfl (by kernel_rfl) (by kernel_rfl) (by kernel_rfl) (fun _ _ _ h => h) (Or.inl ⟨by kernel_rfl, fun w9 h9 => ?_⟩) HT2.out.drew ?_
      · go_simp
      refine wpAnyH_take (i := 5) (v := .string tg) rfl (by kernel_rfl) (by kernel_rfl) (by kernel_rfl) (fun _ _ _ h => h) (Or.inl ⟨by kernel_rfl, fun w9 h9 => ?_⟩) HT2.out.drew ?_
      · have x2 := h9.c1 2 _ rfl; have x3 := h9.c1 3 _ rfl; have xl := h9.lt1; go_simp
      refine held_one 3 (by kernel_rfl) rfl (by kernel_rfl) fun K hK => ?_
      go_simp
      go_wp2_with (go_at_call 80; refine Calls.mono (HTG.out _) ?_; rintro e v1 ⟨rfl, hu⟩; have HT3 : Hid (TB w v1 b1 b2 #[.int .i64 0, .int .i64 m, .string d, .string tg] 74 #[.int .i64 0, .string ⟨#[]⟩] 77) := (HT2.out.drew).step hu; clear hu)
      refine hK _ _ HT3.out ?_
      clear hK K
      refine wpAnyH_take (i := 6) (v := .bool false) rfl (by kernel_rfl) (by kernel_rfl) (by kernel_rfl) (fun _ _ _ h => h) (Or.inl ⟨by kernel_rfl, fun w9 h9 => ?_⟩) HT3.out ?_
      · go_simp
      refine wpAnyH_done (by kernel_rfl) ?_ _
      go_simp
      have k2 := HT3.out.c1 2 _ rfl
      have l1 := HT3.out.lt1
      go_wp2_with fail
      refine Calls.mono (HCR.out _) ?_
      rintro e u4 ⟨rfl, hb4⟩
      have HT4 : Hid (TB w u4 b1 b2 _ _ _ _) := HT3.out.step hb4
      clear hb4 k2 l1
      have q0 := HT4.out.c2 0 _ rfl
      have q1 := HT4.out.c2 1 _ rfl
      have qf0 := HT4.out.f2 0
      have qf1 := HT4.out.f2 1
      have ql := HT4.out.lt2
      go_wp2
      refine bodyPost_ret (v := opA ⟨0, crV S 1 d⟩) ?_ rfl ⟨by rw [E.out], (HT4.out.bel.setCell HT4.out.ge2 _).setCell HT4.out.ge2 _⟩
      simp [results, Try.results36, go_sem, opA, q0, q1]
  · have E : Hid (unV root zs x = ⟨unC root zs x, ⟨#[]⟩⟩) := if_neg hu
    generalize unV root zs x = R at *
    have HU : Hid (unC root zs x = if scC root zs x.mask x.data = 0 ∧ x.code ≠ 0 then 1 else scC root zs x.mask x.data) := rfl
    obtain ⟨code, m, d, tg⟩ := x
    unfold seA
    simp only at HM HU ⊢
    generalize unC root zs ⟨code, m, d, tg⟩ = U at *
    have HT0 : Hid (TB w _ _ _ #[.int .i64 code, .int .i64 m, .string d, .string tg] 74 #[.int .i64 0, .string ⟨#[]⟩] 77) := TB.new w _ _ _ _
    cases hs : szC root zs d
    · obtain ⟨q1, q2, q3⟩ := szC_no hs
      have q4 : decide (4096 < (d.size : Int)) = false := q3
      have hU1 : Hid (U = 1) := (show U = 1 by
        have hh := HU.out
        unfold scC at hh
        rw [hs] at hh
        simp only [Bool.false_eq_true, if_false] at hh
        cases hm : mkB zs m
        · rw [hm] at hh
          simpa using hh
        · rw [hm] at hh
          simp only [if_true, true_and] at hh
          by_cases hz : code = 0
          · rw [if_neg (fun hx => hx hz)] at hh
            exact absurd hh hu
          · rw [if_pos hz] at hh
            exact hh)
      rw [hU1.out] at E
      by_cases hz : code = 0
      · have hm : mkB zs m = false := by
          cases hm : mkB zs m
          · rfl
          · exact absurd (by rw [HU.out]; simp [scC, hs, hm, hz]) hu
        rw [hm] at HM
        subst hz
        clear hu HU hU1 hs hm q3
        go_enter Try.func36, Try.ntmps36
        go_upto_region 1 with fail
        generalize ((w.alloc (.cells #[.int .i64 0, .int .i64 m, .string d, .string tg] 74)).alloc (.cells #[.int .i64 0, .string ⟨#[]⟩] 77)) = u0 at *
        generalize w.heap.size + 1 = b2 at *
        generalize w.heap.size = b1 at *
        have k0 := HT0.out.c1 0 _ rfl
        have k1 := HT0.out.c1 1 _ rfl
        have k2 := HT0.out.c1 2 _ rfl
        have l1 := HT0.out.lt1
        go_wp2_with fail
        refine Calls.mono (HM.out _ HT0.out.aft) ?_
        rintro e u1 ⟨rfl, hb1⟩
        have HT1 : Hid (TB w u1 b1 b2 _ _ _ _) := HT0.out.step hb1
        clear hb1 HT0 k0 k1 k2 l1
        have q0 := HT1.out.c2 0 _ rfl
        have q1 := HT1.out.c2 1 _ rfl
        have qf0 := HT1.out.f2 0
        have qf1 := HT1.out.f2 1
        have ql := HT1.out.lt2
        go_wp2
        refine bodyPost_ret (v := opA ⟨1, ⟨#[]⟩⟩) ?_ rfl ⟨by rw [E.out], (HT1.out.bel.setCell HT1.out.ge2 _).setCell HT1.out.ge2 _⟩
        simp [results, Try.results36, go_sem, opA, q0, q1]
      · have hz2 : (code != 0) = true := by simp [hz]
        clear hu HU hU1 hs q3 hz
        go_enter Try.func36, Try.ntmps36
        go_upto_region 1 with fail
        generalize ((w.alloc (.cells #[.int .i64 code, .int .i64 m, .string d, .string tg] 74)).alloc (.cells #[.int .i64 0, .string ⟨#[]⟩] 77)) = u0 at *
        generalize w.heap.size + 1 = b2 at *
        generalize w.heap.size = b1 at *
        have k0 := HT0.out.c1 0 _ rfl
        have k1 := HT0.out.c1 1 _ rfl
        have k2 := HT0.out.c1 2 _ rfl
        have l1 := HT0.out.lt1
        have q0 := HT0.out.c2 0 _ rfl
        have q1 := HT0.out.c2 1 _ rfl
        have qf0 := HT0.out.f2 0
        have qf1 := HT0.out.f2 1
        have ql := HT0.out.lt2
        go_wp2
        refine bodyPost_ret (v := opA ⟨1, ⟨#[]⟩⟩) ?_ rfl ⟨by rw [E.out], (HT0.out.bel.setCell HT0.out.ge2 _).setCell HT0.out.ge2 _⟩
        simp [results, Try.results36, go_sem, opA, q0, q1]
    · have hU1 : Hid (U = 2) := (show U = 2 by
        rw [HU.out]
        simp [scC, hs])
      rw [hU1.out] at E
      have HQ : Hid _ := szC_yes hs
      clear hu HU hU1 hs
      rcases HQ.out with q1 | ⟨q1, q2⟩ | ⟨q1, q2, q3⟩
      · go_enter Try.func36, Try.ntmps36
        go_upto_region 1 with fail
        generalize ((w.alloc (.cells #[.int .i64 code, .int .i64 m, .string d, .string tg] 74)).alloc (.cells #[.int .i64 0, .string ⟨#[]⟩] 77)) = u0 at *
        generalize w.heap.size + 1 = b2 at *
        generalize w.heap.size = b1 at *
        have k0 := HT0.out.c1 0 _ rfl
        have k1 := HT0.out.c1 1 _ rfl
        have k2 := HT0.out.c1 2 _ rfl
        have l1 := HT0.out.lt1
        have q0 := HT0.out.c2 0 _ rfl
        have q1 := HT0.out.c2 1 _ rfl
        have qf0 := HT0.out.f2 0
        have qf1 := HT0.out.f2 1
        have ql := HT0.out.lt2
        go_wp2
        refine bodyPost_ret (v := opA ⟨2, ⟨#[]⟩⟩) ?_ rfl ⟨by rw [E.out], (HT0.out.bel.setCell HT0.out.ge2 _).setCell HT0.out.ge2 _⟩
        simp [results, Try.results36, go_sem, opA, q0, q1]
      · go_enter Try.func36, Try.ntmps36
        go_upto_region 1 with fail
        generalize ((w.alloc (.cells #[.int .i64 code, .int .i64 m, .string d, .string tg] 74)).alloc (.cells #[.int .i64 0, .string ⟨#[]⟩] 77)) = u0 at *
        generalize w.heap.size + 1 = b2 at *
        generalize w.heap.size = b1 at *
        have k0 := HT0.out.c1 0 _ rfl
        have k1 := HT0.out.c1 1 _ rfl
        have k2 := HT0.out.c1 2 _ rfl
        have l1 := HT0.out.lt1
        have q0 := HT0.out.c2 0 _ rfl
        have q1 := HT0.out.c2 1 _ rfl
        have qf0 := HT0.out.f2 0
        have qf1 := HT0.out.f2 1
        have ql := HT0.out.lt2
        go_wp2
        refine bodyPost_ret (v := opA ⟨2, ⟨#[]⟩⟩) ?_ rfl ⟨by rw [E.out], (HT0.out.bel.setCell HT0.out.ge2 _).setCell HT0.out.ge2 _⟩
        simp [results, Try.results36, go_sem, opA, q0, q1]
      · go_enter Try.func36, Try.ntmps36
        go_upto_region 1 with fail
        generalize ((w.alloc (.cells #[.int .i64 code, .int .i64 m, .string d, .string tg] 74)).alloc (.cells #[.int .i64 0, .string ⟨#[]⟩] 77)) = u0 at *
        generalize w.heap.size + 1 = b2 at *
        generalize w.heap.size = b1 at *
        have k0 := HT0.out.c1 0 _ rfl
        have k1 := HT0.out.c1 1 _ rfl
        have k2 := HT0.out.c1 2 _ rfl
        have l1 := HT0.out.lt1
        have q0 := HT0.out.c2 0 _ rfl
        have q1 := HT0.out.c2 1 _ rfl
        have qf0 := HT0.out.f2 0
        have qf1 := HT0.out.f2 1
        have ql := HT0.out.lt2
        go_wp2
        refine bodyPost_ret (v := opA ⟨2, ⟨#[]⟩⟩) ?_ rfl ⟨by rw [E.out], (HT0.out.bel.setCell HT0.out.ge2 _).setCell HT0.out.ge2 _⟩
        simp [results, Try.results36, go_sem, opA, q0, q1]
end Go.Proofs.Ytcglpigmellfcab
