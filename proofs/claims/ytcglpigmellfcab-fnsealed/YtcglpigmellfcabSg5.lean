import Derived.Test.YtcglpigmellfcabSg3
import Derived.Test.YtcglpigmellfcabTB
namespace Go.Proofs.Ytcglpigmellfcab
open Go.ChangeShapes Go.WideShapes Go.ChangeAt Go.RowKit

/-- What is opened: a code, the data. -/
structure OPn where
  code : Int
  data : ByteArray
def opA (x : OPn) : Value := .agg #[.int .i64 x.code, .string x.data]
def unC (root : ByteArray) (zs : List Int) (x : SE) : Int := if scC root zs x.mask x.data = 0 ∧ x.code ≠ 0 then 1 else scC root zs x.mask x.data
def unV (root : ByteArray) (zs : List Int) (x : SE) : OPn :=
  if unC root zs x = 0 then (if (tagV (kyK root zs x.mask zs.length) x.data).toList == x.tag.toList then ⟨0, crV (kyK root zs x.mask zs.length) 1 x.data⟩ else ⟨7, ⟨#[]⟩⟩) else ⟨unC root zs x, ⟨#[]⟩⟩
theorem unC_ok {root : ByteArray} {zs : List Int} {x : SE} (h : unC root zs x = 0) : scC root zs x.mask x.data = 0 ∧ x.code = 0 := by
  unfold unC at h
  split at h
  · cases h
  · rename_i hn
    exact ⟨h, Classical.byContradiction fun hc => hn ⟨h, hc⟩⟩
set_option maxRecDepth 100000 in
set_option maxHeartbeats 4000000 in
theorem implUnseal_any {w : World} {v : Value} {zs : List Int} (h : Irow w v zs) (hl : zs.length ≤ 1048576) (root : ByteArray) (x : SE) :
    Calls Try.prog 34 #[.string root, v, seA x] w fun e w' => e = .returned (opA (unV root zs x)) ∧ Below w.heap.size w w' := by
  have HC : Hid (∀ u, Aft w u → Calls Try.prog 73 #[.string root, v, .int .i64 x.mask, .string x.data] u fun e w' => e = .returned (.int .i64 (scC root zs x.mask x.data)) ∧ Below u.heap.size u w') := fun u hu => sealCode_any (h.below hu.out) hl root x.mask x.data
  have HR : Hid (Irow w v zs) := h
  obtain ⟨ao, cap, rfl⟩ := h.sl
  clear h
  by_cases hu : unC root zs x = 0
  · obtain ⟨hc, hx⟩ := unC_ok hu
    obtain ⟨p1, p2, p3, -, -, -, -, -, -⟩ := scC_ok hc
    have E : Hid (unV root zs x = (if (tagV (kyK root zs x.mask zs.length) x.data).toList == x.tag.toList then ⟨0, crV (kyK root zs x.mask zs.length) 1 x.data⟩ else ⟨7, ⟨#[]⟩⟩)) := if_pos hu
    rw [hc] at HC
    have hks := kyK_size root zs x.mask zs.length
    have HKO : Hid (∀ u, Aft w u → Calls Try.prog 74 #[.string root, .slice ao zs.length cap, .int .i64 x.mask] u fun e w' => ∃ r, e = .returned r ∧ KY w' r (kyK root zs x.mask zs.length) ∧ Below u.heap.size u w') := fun u hu => keyOf_any (HR.out.below hu.out) p2 root x.mask (by omega)
    generalize kyK root zs x.mask zs.length = S at *
    clear hc hu
    have HV : Hid (∃ R, unV root zs x = R) := ⟨_, rfl⟩
    generalize unV root zs x = R at *
    obtain ⟨code, m, d, tg⟩ := x
    simp only at hx p3 E HC HKO
    subst hx
    unfold seA
    simp only
    have HT0 : Hid (TB w _ _ _ #[.int .i64 0, .int .i64 m, .string d, .string tg] 74 #[.int .i64 0, .string ⟨#[]⟩] 77) := TB.new w _ _ _ _
    have HTG : Hid (∀ u r, KY u r S → Calls Try.prog 76 #[r, .string d] u fun e w' => e = .returned (.string (tagV S d)) ∧ Below u.heap.size u w') := fun u r hk => tag_any hk d (by omega) (by omega)
    have HCR : Hid (∀ u r, KY u r S → Calls Try.prog 75 #[r, .int .i64 1, .string d] u fun e w' => e = .returned (.string (crV S 1 d)) ∧ Below u.heap.size u w') := fun u r hk => crypt_any hk 1 d (by omega) (by omega)
    generalize tagV S d = T at *
    go_enter Try.func34, Try.ntmps34
    go_wp2_with fail
    generalize ((w.alloc (.cells #[.int .i64 0, .int .i64 m, .string d, .string tg] 74)).alloc (.cells #[.int .i64 0, .string ⟨#[]⟩] 77)) = u0 at *
    generalize w.heap.size + 1 = b2 at *
    generalize w.heap.size = b1 at *
    refine Calls.mono (HC.out _ HT0.out.aft) ?_
    rintro e u1 ⟨rfl, hb1⟩
    have HT1 : Hid (TB w u1 b1 b2 _ _ _ _) := HT0.out.step hb1
    clear hb1 HT0
    have k0 := HT1.out.c1 0 _ rfl
    have k1 := HT1.out.c1 1 _ rfl
    have l1 := HT1.out.lt1
    go_wp2_with fail
    refine Calls.mono (HKO.out _ HT1.out.aft) ?_
    rintro e u2 ⟨r, rfl, hk2, hb2⟩
    have HT2 : Hid (TB w u2 b1 b2 #[.int .i64 0, .int .i64 m, .string d, .string tg] 74 #[.int .i64 0, .string ⟨#[]⟩] 77) := HT1.out.step hb2
    have HK2 : Hid (KY u2 r S) := hk2
    obtain ⟨g2, c2, rfl, _⟩ := hk2.sl
    clear hb2 hk2 HT1 k0 k1 l1
    go_wp2_with fail
    cases hq : (T.toList == tg.toList)
    · rw [hq] at E
      have E2 : Hid (R = ⟨7, ⟨#[]⟩⟩) := E.out
      clear E
      have E := E2
      refine wp_region_held (S := fun w9 => TB w w9 b1 b2 #[.int .i64 0, .int .i64 m, .string d, .string tg] 74 #[.int .i64 0, .string ⟨#[]⟩] 77) (by kernel_rfl) ?_
      change wpAnyH _ _ _ _ _ _ _ _ (World.drew _)
      refine wpAnyH_take (i := 0) (v := .slice (some ⟨g2, 0, none⟩) S.size c2) rfl (by kernel_rfl) (by kernel_rfl) (by kernel_rfl) (fun _ _ _ h => h) (Or.inl ⟨by kernel_rfl, fun w9 h9 => ?_⟩) HT2.out.drew ?_
      · go_simp
      refine wpAnyH_take (i := 1) (v := .pointer (some ⟨b1, 2, none⟩)) rfl (by kernel_rfl) (by kernel_rfl) (by kernel_rfl) (fun _ _ _ h => h) (Or.inl ⟨by kernel_rfl, fun w9 h9 => ?_⟩) HT2.out.drew ?_
      · go_simp
      refine wpAnyH_take (i := 2) (v := .string d) rfl (by kernel_rfl) (by kernel_rfl) (by kernel_rfl) (fun _ _ _ h => h) (Or.inl ⟨by kernel_rfl, fun w9 h9 => ?_⟩) HT2.out.drew ?_
      · have x2 := h9.c1 2 _ rfl; have x3 := h9.c1 3 _ rfl; have xl := h9.lt1; go_simp
      refine wpAnyH_take (i := 4) (v := .pointer (some ⟨b1, 3, none⟩)) rfl (by kernel_rfl) (by kernel_rfl) (by kernel_rfl) (fun _ _ _ h => h) (Or.inl ⟨by kernel_rfl, fun w9 h9 => ?_⟩) HT2.out.drew ?_
      · go_simp
      refine wpAnyH_take (i := 5) (v := .string tg) rfl (by kernel_rfl) (by kernel_rfl) (by kernel_rfl) (fun _ _ _ h => h) (Or.inl ⟨by kernel_rfl, fun w9 h9 => ?_⟩) HT2.out.drew ?_
      · have x2 := h9.c1 2 _ rfl; have x3 := h9.c1 3 _ rfl; have xl := h9.lt1; go_simp
      refine held_one 3 (by kernel_rfl) rfl (by kernel_rfl) fun K hK => ?_
      go_simp
      go_wp2_with (go_at_call 76; refine Calls.mono (HTG.out _ _ (HK2.out.below (Below.refl _ _).drew)) ?_; rintro e v1 ⟨rfl, hu⟩; have HT3 : Hid (TB w v1 b1 b2 #[.int .i64 0, .int .i64 m, .string d, .string tg] 74 #[.int .i64 0, .string ⟨#[]⟩] 77) := (HT2.out.drew).step hu; have HK3 : Hid (KY v1 (.slice (some ⟨g2, 0, none⟩) S.size c2) S) := (HK2.out.below (Below.refl _ _).drew).below hu; clear hu)
      refine hK _ _ HT3.out ?_
      clear hK K
      refine wpAnyH_take (i := 6) (v := .bool true) rfl (by kernel_rfl) (by kernel_rfl) (by kernel_rfl) (fun _ _ _ h => h) (Or.inl ⟨by kernel_rfl, fun w9 h9 => ?_⟩) HT3.out ?_
      · go_simp
      refine wpAnyH_done (by kernel_rfl) ?_ _
      go_simp
      have q0 := HT3.out.c2 0 _ rfl
      have q1 := HT3.out.c2 1 _ rfl
      have qf0 := HT3.out.f2 0
      have qf1 := HT3.out.f2 1
      have ql := HT3.out.lt2
      go_wp2
      refine bodyPost_ret (v := opA ⟨7, ⟨#[]⟩⟩) ?_ rfl ⟨by rw [E.out], (HT3.out.bel.setCell HT3.out.ge2 _).setCell HT3.out.ge2 _⟩
      simp [results, Try.results34, go_sem, opA, q0, q1]
    · rw [hq] at E
      have E2 : Hid (R = ⟨0, crV S 1 d⟩) := E.out
      clear E
      have E := E2
      refine wp_region_held (S := fun w9 => TB w w9 b1 b2 #[.int .i64 0, .int .i64 m, .string d, .string tg] 74 #[.int .i64 0, .string ⟨#[]⟩] 77) (by kernel_rfl) ?_
      change wpAnyH _ _ _ _ _ _ _ _ (World.drew _)
      refine wpAnyH_take (i := 0) (v := .slice (some ⟨g2, 0, none⟩) S.size c2) rfl (by kernel_rfl) (by kernel_rfl) (by kernel_rfl) (fun _ _ _ h => h) (Or.inl ⟨by kernel_rfl, fun w9 h9 => ?_⟩) HT2.out.drew ?_
      · go_simp
      refine wpAnyH_take (i := 1) (v := .pointer (some ⟨b1, 2, none⟩)) rfl (by kernel_rfl) (by kernel_rfl) (by kernel_rfl) (fun _ _ _ h => h) (Or.inl ⟨by kernel_rfl, fun w9 h9 => ?_⟩) HT2.out.drew ?_
      · go_simp
      refine wpAnyH_take (i := 2) (v := .string d) rfl (by kernel_rfl) (by kernel_rfl) (by kernel_rfl) (fun _ _ _ h => h) (Or.inl ⟨by kernel_rfl, fun w9 h9 => ?_⟩) HT2.out.drew ?_
      · have x2 := h9.c1 2 _ rfl; have x3 := h9.c1 3 _ rfl; have xl := h9.lt1; go_simp
      refine wpAnyH_take (i := 4) (v := .pointer (some ⟨b1, 3, none⟩)) rfl (by kernel_rfl) (by kernel_rfl) (by kernel_rfl) (fun _ _ _ h => h) (Or.inl ⟨by kernel_rfl, fun w9 h9 => ?_⟩) HT2.out.drew ?_
      · go_simp
      refine wpAnyH_take (i := 5) (v := .string tg) rfl (by kernel_rfl) (by kernel_rfl) (by kernel_rfl) (fun _ _ _ h => h) (Or.inl ⟨by kernel_rfl, fun w9 h9 => ?_⟩) HT2.out.drew ?_
      · have x2 := h9.c1 2 _ rfl; have x3 := h9.c1 3 _ rfl; have xl := h9.lt1; go_simp
      refine held_one 3 (by kernel_rfl) rfl (by kernel_rfl) fun K hK => ?_
      go_simp
      go_wp2_with (go_at_call 76; refine Calls.mono (HTG.out _ _ (HK2.out.below (Below.refl _ _).drew)) ?_; rintro e v1 ⟨rfl, hu⟩; have HT3 : Hid (TB w v1 b1 b2 #[.int .i64 0, .int .i64 m, .string d, .string tg] 74 #[.int .i64 0, .string ⟨#[]⟩] 77) := (HT2.out.drew).step hu; have HK3 : Hid (KY v1 (.slice (some ⟨g2, 0, none⟩) S.size c2) S) := (HK2.out.below (Below.refl _ _).drew).below hu; clear hu)
      refine hK _ _ HT3.out ?_
      clear hK K
      refine wpAnyH_take (i := 6) (v := .bool false) rfl (by kernel_rfl) (by kernel_rfl) (by kernel_rfl) (fun _ _ _ h => h) (Or.inl ⟨by kernel_rfl, fun w9 h9 => ?_⟩) HT3.out ?_
      · go_simp
      refine wpAnyH_done (by kernel_rfl) ?_ _
      go_simp
      have k2 := HT3.out.c1 2 _ rfl
      have l1 := HT3.out.lt1
      go_wp2_with fail
      refine Calls.mono (HCR.out _ _ HK3.out) ?_
      rintro e u4 ⟨rfl, hb4⟩
      have HT4 : Hid (TB w u4 b1 b2 _ _ _ _) := HT3.out.step hb4
      clear hb4 k2 l1
      have q0 := HT4.out.c2 0 _ rfl
      have q1 := HT4.out.c2 1 _ rfl
      have qf0 := HT4.out.f2 0
      have qf1 := HT4.out.f2 1
      have ql := HT4.out.lt2
      go_wp2
      refine bodyPost_ret (v := opA ⟨0, crV S 1 d⟩) ?_ rfl ⟨by rw [E.out], (HT4.out.bel.setCell HT4.out.ge2 _).setCell HT4.out.ge2 _⟩
      simp [results, Try.results34, go_sem, opA, q0, q1]
  · have E : Hid (unV root zs x = ⟨unC root zs x, ⟨#[]⟩⟩) := if_neg hu
    generalize unV root zs x = R at *
    have HU : Hid (unC root zs x = if scC root zs x.mask x.data = 0 ∧ x.code ≠ 0 then 1 else scC root zs x.mask x.data) := rfl
    obtain ⟨code, m, d, tg⟩ := x
    unfold seA
    simp only at HC HU ⊢
    have hu2 : (unC root zs ⟨code, m, d, tg⟩ != 0) = true := by simp [hu]
    generalize unC root zs ⟨code, m, d, tg⟩ = U at *
    have HT0 : Hid (TB w _ _ _ #[.int .i64 code, .int .i64 m, .string d, .string tg] 74 #[.int .i64 0, .string ⟨#[]⟩] 77) := TB.new w _ _ _ _
    by_cases hc : scC root zs m d = 0
    · have h1 : (code != 0) = true := by
        have := HU.out
        rw [hc] at this
        simp at this
        by_cases hz : code = 0
        · rw [if_pos hz] at this
          exact absurd this hu
        · simp [hz]
      have hU1 : Hid (U = 1) := (show U = 1 by
        rw [HU.out, if_pos ⟨hc, by simpa using h1⟩])
      rw [hU1.out] at E
      rw [hc] at HC
      clear hc hu hu2 HU
      go_enter Try.func34, Try.ntmps34
      go_wp2_with fail
      generalize ((w.alloc (.cells #[.int .i64 code, .int .i64 m, .string d, .string tg] 74)).alloc (.cells #[.int .i64 0, .string ⟨#[]⟩] 77)) = u0 at *
      generalize w.heap.size + 1 = b2 at *
      generalize w.heap.size = b1 at *
      refine Calls.mono (HC.out _ HT0.out.aft) ?_
      rintro e u1 ⟨rfl, hb1⟩
      have HT1 : Hid (TB w u1 b1 b2 _ _ _ _) := HT0.out.step hb1
      clear hb1 HT0
      have k0 := HT1.out.c1 0 _ rfl
      have l1 := HT1.out.lt1
      have q0 := HT1.out.c2 0 _ rfl
      have q1 := HT1.out.c2 1 _ rfl
      have qf0 := HT1.out.f2 0
      have qf1 := HT1.out.f2 1
      have ql := HT1.out.lt2
      go_wp2
      refine bodyPost_ret (v := opA ⟨1, ⟨#[]⟩⟩) ?_ rfl ⟨by rw [E.out], (HT1.out.bel.setCell HT1.out.ge2 _).setCell HT1.out.ge2 _⟩
      simp [results, Try.results34, go_sem, opA, q0, q1]
    · have hU1 : Hid (U = scC root zs m d) := (show U = scC root zs m d by
        rw [HU.out, if_neg (fun hh => hc hh.1)])
      rw [← hU1.out] at HC
      have h1 : (U == 0) = false := by simp [hu]
      clear hc hu HU hU1
      go_enter Try.func34, Try.ntmps34
      go_wp2_with fail
      generalize ((w.alloc (.cells #[.int .i64 code, .int .i64 m, .string d, .string tg] 74)).alloc (.cells #[.int .i64 0, .string ⟨#[]⟩] 77)) = u0 at *
      generalize w.heap.size + 1 = b2 at *
      generalize w.heap.size = b1 at *
      refine Calls.mono (HC.out _ HT0.out.aft) ?_
      rintro e u1 ⟨rfl, hb1⟩
      have HT1 : Hid (TB w u1 b1 b2 _ _ _ _) := HT0.out.step hb1
      clear hb1 HT0
      have k0 := HT1.out.c1 0 _ rfl
      have l1 := HT1.out.lt1
      have q0 := HT1.out.c2 0 _ rfl
      have q1 := HT1.out.c2 1 _ rfl
      have qf0 := HT1.out.f2 0
      have qf1 := HT1.out.f2 1
      have ql := HT1.out.lt2
      go_wp2
      refine bodyPost_ret (v := opA ⟨U, ⟨#[]⟩⟩) ?_ rfl ⟨by rw [E.out], (HT1.out.bel.setCell HT1.out.ge2 _).setCell HT1.out.ge2 _⟩
      simp [results, Try.results34, go_sem, opA, q0, q1]
end Go.Proofs.Ytcglpigmellfcab
