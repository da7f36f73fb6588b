import Derived.Test.YtcglpigmellfcabSg2
import Derived.Test.YtcglpigmellfcabBx
namespace Go.Proofs.Ytcglpigmellfcab
open Go.ChangeShapes Go.WideShapes Go.ChangeAt Go.RowKit

theorem crV_size (s : ByteArray) (tw : Int) (d : ByteArray) : (crV s tw d).size = d.size := by
  show (crK (hdS s tw) d.data.toList d.size).toArray.size = d.size
  rw [List.size_toArray, crK_len]
  simp
def szC (root : ByteArray) (zs : List Int) (d : ByteArray) : Bool := decide (4032 < (root.size : Int)) || decide (1000 < (zs.length : Int)) || ovB d
def scC (root : ByteArray) (zs : List Int) (m : Int) (d : ByteArray) : Int := if szC root zs d = true then 2 else if mkB zs m = true then 0 else 1
theorem szC_no {root : ByteArray} {zs : List Int} {d : ByteArray} (h : szC root zs d = false) : decide (4032 < (root.size : Int)) = false ∧ decide (1000 < (zs.length : Int)) = false ∧ ovB d = false := by
  simpa [szC, and_assoc] using h
theorem mkB_b {zs : List Int} {m : Int} (h : mkB zs m = true) : rgB zs = true ∧ 0 ≤ m ∧ m < 2 ^ zs.length := by
  simpa [mkB, and_assoc] using h
set_option maxRecDepth 100000 in
set_option maxHeartbeats 4000000 in
theorem sealCode_any {w : World} {v : Value} {zs : List Int} (h : Irow w v zs) (hl : zs.length ≤ 1048576) (root : ByteArray) (m : Int) (d : ByteArray) :
    Calls Try.prog 73 #[.string root, v, .int .i64 m, .string d] w fun e w' => e = .returned (.int .i64 (scC root zs m d)) ∧ Below w.heap.size w w' := by
  have HO : Hid _ := fun u => over_one d u
  have HA : Hid (∀ u, Below w.heap.size w u → Calls Try.prog 133 #[v] u fun e w' => e = .returned (.bool (rgB zs)) ∧ Below u.heap.size u w') := fun u hu => areRegs_any (h.below hu) hl
  obtain ⟨ao, cap, rfl⟩ := h.sl
  clear h
  cases q1 : decide (4032 < (root.size : Int))
  · cases q2 : decide (1000 < (zs.length : Int))
    · cases q3 : ovB d
      · have E0 : szC root zs d = false := by simp [szC, q1, q2, q3]
        rw [q3] at HO
        cases q4 : rgB zs
        · have E : Hid (scC root zs m d = 1) := (show scC root zs m d = 1 by simp [scC, E0, mkB, q4])
          rw [q4] at HA
          clear q3 q4 E0
          go_enter Try.func73, Try.ntmps73
          go_wp2_with (first | (go_at_call 132; refine Calls.mono (HO.out _) ?_; rintro e u1 ⟨rfl, hu1⟩; have HB1 : Hid _ := hu1; clear hu1) | (go_at_call 133; refine Calls.mono (HA.out _ HB1.out) ?_; rintro e u2 ⟨rfl, hu2⟩; have HB2 : Hid _ := HB1.out.trans (hu2.mono HB1.out.size); clear hu2))
          go_ret
          exact ⟨ret_int E.out.symm, HB2.out⟩
        · rw [q4] at HA
          obtain ⟨-, r2, -⟩ := rgB_b q4
          have hp := w64pow zs.length r2
          cases q5 : decide (0 ≤ m)
          · have q6 : decide (m < 0) = true := decide_eq_true (by have := of_decide_eq_false q5; omega)
            have E : Hid (scC root zs m d = 1) := (show scC root zs m d = 1 by simp [scC, E0, mkB, q4, q5])
            clear q3 q4 E0 q5
            go_enter Try.func73, Try.ntmps73
            go_wp2_with (first | (go_at_call 132; refine Calls.mono (HO.out _) ?_; rintro e u1 ⟨rfl, hu1⟩; have HB1 : Hid _ := hu1; clear hu1) | (go_at_call 133; refine Calls.mono (HA.out _ HB1.out) ?_; rintro e u2 ⟨rfl, hu2⟩; have HB2 : Hid _ := HB1.out.trans (hu2.mono HB1.out.size); clear hu2))
            go_ret
            exact ⟨ret_int E.out.symm, HB2.out⟩
          · have q6 : decide (m < 0) = false := decide_eq_false (by have := of_decide_eq_true q5; omega)
            cases q7 : decide (m < 2 ^ zs.length)
            · have q8 : decide (2 ^ zs.length ≤ m) = true := decide_eq_true (by have := of_decide_eq_false q7; omega)
              have E : Hid (scC root zs m d = 1) := (show scC root zs m d = 1 by simp [scC, E0, mkB, q4, q5, q7])
              clear q3 q4 E0 q5 q7
              go_enter Try.func73, Try.ntmps73
              go_wp2_with (first | (go_at_call 132; refine Calls.mono (HO.out _) ?_; rintro e u1 ⟨rfl, hu1⟩; have HB1 : Hid _ := hu1; clear hu1) | (go_at_call 133; refine Calls.mono (HA.out _ HB1.out) ?_; rintro e u2 ⟨rfl, hu2⟩; have HB2 : Hid _ := HB1.out.trans (hu2.mono HB1.out.size); clear hu2))
              go_ret
              exact ⟨ret_int E.out.symm, HB2.out⟩
            · have q8 : decide (2 ^ zs.length ≤ m) = false := decide_eq_false (by have := of_decide_eq_true q7; omega)
              have E : Hid (scC root zs m d = 0) := (show scC root zs m d = 0 by simp [scC, E0, mkB, q4, q5, q7])
              clear q3 q4 E0 q5 q7
              go_enter Try.func73, Try.ntmps73
              go_wp2_with (first | (go_at_call 132; refine Calls.mono (HO.out _) ?_; rintro e u1 ⟨rfl, hu1⟩; have HB1 : Hid _ := hu1; clear hu1) | (go_at_call 133; refine Calls.mono (HA.out _ HB1.out) ?_; rintro e u2 ⟨rfl, hu2⟩; have HB2 : Hid _ := HB1.out.trans (hu2.mono HB1.out.size); clear hu2))
              go_ret
              exact ⟨ret_int E.out.symm, HB2.out⟩
      · have E : Hid (scC root zs m d = 2) := (show scC root zs m d = 2 by simp [scC, szC, q3])
        rw [q3] at HO
        clear q3
        go_enter Try.func73, Try.ntmps73
        go_wp2_with (first | (go_at_call 132; refine Calls.mono (HO.out _) ?_; rintro e u1 ⟨rfl, hu1⟩; have HB1 : Hid _ := hu1; clear hu1))
        go_ret
        exact ⟨ret_int E.out.symm, HB1.out⟩
    · have E : Hid (scC root zs m d = 2) := (show scC root zs m d = 2 by simp [scC, szC, q2])
      go_enter Try.func73, Try.ntmps73
      go_wp2
      go_ret
      exact ⟨ret_int E.out.symm, Below.refl _ _⟩
  · have E : Hid (scC root zs m d = 2) := (show scC root zs m d = 2 by simp [scC, szC, q1])
    go_enter Try.func73, Try.ntmps73
    go_wp2
    go_ret
    exact ⟨ret_int E.out.symm, Below.refl _ _⟩
/-- What is sealed: a code, the mask, the data, the tag. -/
structure SE where
  code : Int
  mask : Int
  data : ByteArray
  tag : ByteArray
def seA (x : SE) : Value := .agg #[.int .i64 x.code, .int .i64 x.mask, .string x.data, .string x.tag]
def seV (root : ByteArray) (zs : List Int) (m : Int) (d : ByteArray) : SE :=
  if scC root zs m d = 0 then ⟨0, m, crV (kyK root zs m zs.length) 1 d, tagV (kyK root zs m zs.length) (crV (kyK root zs m zs.length) 1 d)⟩ else ⟨scC root zs m d, 0, ⟨#[]⟩, ⟨#[]⟩⟩
theorem scC_ok {root : ByteArray} {zs : List Int} {m : Int} {d : ByteArray} (h : scC root zs m d = 0) : root.size ≤ 4032 ∧ zs.length ≤ 8 ∧ d.size ≤ 4096 ∧ rgB zs = true ∧ 0 ≤ m ∧ m < 2 ^ zs.length ∧ m < 256 ∧ mkB zs m = true ∧ szC root zs d = false := by
  unfold scC at h
  cases h1 : szC root zs d
  · rw [h1] at h
    cases h2 : mkB zs m
    · rw [h2] at h
      simp at h
    · obtain ⟨a, b, c⟩ := szC_no h1
      obtain ⟨p, q, r⟩ := mkB_b h2
      have a2 := of_decide_eq_false a
      obtain ⟨-, r2, -⟩ := rgB_b p
      have := pow_le8 _ r2
      exact ⟨by omega, r2, ovB_le c, p, q, r, by omega, rfl, rfl⟩
  · rw [h1] at h
    simp at h
theorem scC_is (root : ByteArray) (zs : List Int) (m : Int) (d : ByteArray) : scC root zs m d = 0 ∨ scC root zs m d = 1 ∨ scC root zs m d = 2 := by
  unfold scC
  split
  · exact .inr (.inr rfl)
  · split
    · exact .inl rfl
    · exact .inr (.inl rfl)
set_option maxRecDepth 100000 in
set_option maxHeartbeats 4000000 in
theorem implSeal_any {w : World} {v : Value} {zs : List Int} (h : Irow w v zs) (hl : zs.length ≤ 1048576) (root : ByteArray) (m : Int) (d : ByteArray) :
    Calls Try.prog 32 #[.string root, v, .int .i64 m, .string d] w fun e w' => e = .returned (seA (seV root zs m d)) ∧ Below w.heap.size w w' := by
  have HC : Hid (∀ u, Below w.heap.size w u → Calls Try.prog 73 #[.string root, v, .int .i64 m, .string d] u fun e w' => e = .returned (.int .i64 (scC root zs m d)) ∧ Below u.heap.size u w') := fun u hu => sealCode_any (h.below hu) hl root m d
  have HR : Hid (Irow w v zs) := h
  obtain ⟨ao, cap, rfl⟩ := h.sl
  clear h
  by_cases hc : scC root zs m d = 0
  · obtain ⟨p1, p2, p3, -, p5, -, p7, -, -⟩ := scC_ok hc
    have E : Hid (seV root zs m d = ⟨0, m, crV (kyK root zs m zs.length) 1 d, tagV (kyK root zs m zs.length) (crV (kyK root zs m zs.length) 1 d)⟩) := if_pos hc
    rw [hc] at HC
    have hks := kyK_size root zs m zs.length
    have hcs := crV_size (kyK root zs m zs.length) 1 d
    have HKO : Hid (∀ u, Below w.heap.size w u → Calls Try.prog 74 #[.string root, .slice ao zs.length cap, .int .i64 m] u fun e w' => ∃ r, e = .returned r ∧ KY w' r (kyK root zs m zs.length) ∧ Below u.heap.size u w') := fun u hu => keyOf_any (HR.out.below hu) p2 root m (by omega)
    generalize kyK root zs m zs.length = S at *
    clear hc
    go_enter Try.func32, Try.ntmps32
    go_wp2_with fail
    have HL0 : Hid (LBx w _ w.heap.size #[.int .i64 0, .int .i64 0, .string ⟨#[]⟩, .string ⟨#[]⟩] 74) := LBx.new w _ _
    refine Calls.mono (HC.out _ HL0.out.bel) ?_
    rintro e u1 ⟨rfl, hb1⟩
    have HL1 : Hid (LBx w u1 w.heap.size _ _) := HL0.out.step hb1
    clear hb1 HL0
    go_wp2_with fail
    refine Calls.mono (HKO.out _ HL1.out.bel) ?_
    rintro e u2 ⟨r, rfl, hk2, hb2⟩
    have HL2 : Hid (LBx w u2 w.heap.size _ _) := HL1.out.step hb2
    have HK2 : Hid (KY u2 r S) := hk2
    obtain ⟨g2, c2, rfl, _⟩ := hk2.sl
    clear hb2 HL1 hk2
    go_wp2_with fail
    refine (crypt_any HK2.out 1 d (by omega) (by omega)).mono ?_
    rintro e u3 ⟨rfl, hb3⟩
    have HL3 : Hid (LBx w u3 w.heap.size _ _) := HL2.out.step hb3
    have HK3 : Hid (KY u3 _ S) := HK2.out.below hb3
    clear hb3 HL2 HK2
    go_wp2_with fail
    refine (tag_any HK3.out _ (by omega) (by omega)).mono ?_
    rintro e u4 ⟨rfl, hb4⟩
    have HL4 : Hid (LBx w u4 w.heap.size _ _) := HL3.out.step hb4
    clear hb4 HL3 HK3
    have hlt := HL4.out.lt
    have k0 := HL4.out.cel 0 _ rfl
    have k1 := HL4.out.cel 1 _ rfl
    have k2 := HL4.out.cel 2 _ rfl
    have k3 := HL4.out.cel 3 _ rfl
    have f0 := HL4.out.frz 0
    have f1 := HL4.out.frz 1
    have f2 := HL4.out.frz 2
    have f3 := HL4.out.frz 3
    go_wp2
    refine bodyPost_ret (v := seA ⟨0, m, crV S 1 d, tagV S (crV S 1 d)⟩) ?_ rfl ⟨by rw [E.out], (((HL4.out.bel.setCell (Nat.le_refl _) _).setCell (Nat.le_refl _) _).setCell (Nat.le_refl _) _).setCell (Nat.le_refl _) _⟩
    simp [results, Try.results32, go_sem, seA, k0, k1, k2, k3]
  · have E : Hid (seV root zs m d = ⟨scC root zs m d, 0, ⟨#[]⟩, ⟨#[]⟩⟩) := if_neg hc
    have hc2 : (scC root zs m d != 0) = true := by simp [hc]
    generalize scC root zs m d = C at *
    clear hc
    go_enter Try.func32, Try.ntmps32
    go_wp2_with fail
    have HL0 : Hid (LBx w _ w.heap.size #[.int .i64 0, .int .i64 0, .string ⟨#[]⟩, .string ⟨#[]⟩] 74) := LBx.new w _ _
    refine Calls.mono (HC.out _ HL0.out.bel) ?_
    rintro e u1 ⟨rfl, hb1⟩
    have HL1 : Hid (LBx w u1 w.heap.size _ _) := HL0.out.step hb1
    clear hb1 HL0
    have hlt := HL1.out.lt
    have k0 := HL1.out.cel 0 _ rfl
    have k1 := HL1.out.cel 1 _ rfl
    have k2 := HL1.out.cel 2 _ rfl
    have k3 := HL1.out.cel 3 _ rfl
    have f0 := HL1.out.frz 0
    have f1 := HL1.out.frz 1
    have f2 := HL1.out.frz 2
    have f3 := HL1.out.frz 3
    go_wp2
    refine bodyPost_ret (v := seA ⟨C, 0, ⟨#[]⟩, ⟨#[]⟩⟩) ?_ rfl ⟨by rw [E.out], (((HL1.out.bel.setCell (Nat.le_refl _) _).setCell (Nat.le_refl _) _).setCell (Nat.le_refl _) _).setCell (Nat.le_refl _) _⟩
    simp [results, Try.results32, go_sem, seA, k0, k1, k2, k3]
set_option maxRecDepth 100000 in
set_option maxHeartbeats 4000000 in
theorem specSeal_any {w : World} {v : Value} {zs : List Int} (h : Irow w v zs) (hl : zs.length ≤ 1048576) (root : ByteArray) (m : Int) (d : ByteArray) :
    Calls Try.prog 33 #[.string root, v, .int .i64 m, .string d] w fun e w' => e = .returned (seA (seV root zs m d)) ∧ Below w.heap.size w w' := by
  have HM : Hid (∀ u, Below w.heap.size w u → Calls Try.prog 77 #[v, .int .i64 m] u fun e w' => e = .returned (.bool (mkB zs m)) ∧ Below u.heap.size u w') := fun u hu => l15Mask_any (h.below hu) hl m
  have HR : Hid (Irow w v zs) := h
  obtain ⟨ao, cap, rfl⟩ := h.sl
  clear h
  have HL0 : Hid (LBx w (w.alloc (.cells #[.int .i64 0, .int .i64 0, .string ⟨#[]⟩, .string ⟨#[]⟩] 74)) w.heap.size #[.int .i64 0, .int .i64 0, .string ⟨#[]⟩, .string ⟨#[]⟩] 74) := LBx.new w _ _
  by_cases hc : scC root zs m d = 0
  · obtain ⟨p1, p2, p3, -, -, -, -, p8, p9⟩ := scC_ok hc
    obtain ⟨q1, q2, q3⟩ := szC_no p9
    have q4 : decide (4096 < (d.size : Int)) = false := q3
    have E : Hid (seV root zs m d = ⟨0, m, crV (kyK root zs m zs.length) 1 d, tagV (kyK root zs m zs.length) (crV (kyK root zs m zs.length) 1 d)⟩) := if_pos hc
    have hks := kyK_size root zs m zs.length
    have hcs := crV_size (kyK root zs m zs.length) 1 d
    rw [p8] at HM
    have HKO : Hid (∀ u, Below w.heap.size w u → Calls Try.prog 78 #[.string root, .slice ao zs.length cap, .int .i64 m] u fun e w' => e = .returned (.string (kyK root zs m zs.length)) ∧ Below u.heap.size u w') := fun u hu => l15Key_any (HR.out.below hu) p2 root m (by omega)
    have HX : Hid (cryV (kyK root zs m zs.length) 1 d = crV (kyK root zs m zs.length) 1 d) := (show cryV _ 1 d = _ by unfold cryV; rw [if_neg]; simp [ovB]; omega)
    have HT : Hid (tgoV (kyK root zs m zs.length) (crV (kyK root zs m zs.length) 1 d) = tagV (kyK root zs m zs.length) (crV (kyK root zs m zs.length) 1 d)) := (show tgoV _ _ = _ by unfold tgoV; rw [if_neg]; simp [ovB]; omega)
    generalize kyK root zs m zs.length = S at *
    clear hc q3 p8 p9
    go_enter Try.func33, Try.ntmps33
    go_wp2_with fail
    refine Calls.mono (HM.out _ HL0.out.bel) ?_
    rintro e u1 ⟨rfl, hb1⟩
    have HL1 : Hid (LBx w u1 w.heap.size _ _) := HL0.out.step hb1
    clear hb1 HL0
    go_wp2_with fail
    refine Calls.mono (HKO.out _ HL1.out.bel) ?_
    rintro e u2 ⟨rfl, hb2⟩
    have HL2 : Hid (LBx w u2 w.heap.size _ _) := HL1.out.step hb2
    clear hb2 HL1
    go_wp2_with fail
    refine (specCrypt_any _ _ _ _).mono ?_
    rw [HX.out]
    rintro e u3 ⟨rfl, hb3⟩
    have HL3 : Hid (LBx w u3 w.heap.size _ _) := HL2.out.step hb3
    clear hb3 HL2
    go_wp2_with fail
    refine (specTagOf_any _ _ _).mono ?_
    rw [HT.out]
    rintro e u4 ⟨rfl, hb4⟩
    have HL4 : Hid (LBx w u4 w.heap.size _ _) := HL3.out.step hb4
    clear hb4 HL3
    have hlt := HL4.out.lt
    have k0 := HL4.out.cel 0 _ rfl
    have k1 := HL4.out.cel 1 _ rfl
    have k2 := HL4.out.cel 2 _ rfl
    have k3 := HL4.out.cel 3 _ rfl
    have f0 := HL4.out.frz 0
    have f1 := HL4.out.frz 1
    have f2 := HL4.out.frz 2
    have f3 := HL4.out.frz 3
    go_wp2
    refine bodyPost_ret (v := seA ⟨0, m, crV S 1 d, tagV S (crV S 1 d)⟩) ?_ rfl ⟨by rw [E.out], (((HL4.out.bel.setCell (Nat.le_refl _) _).setCell (Nat.le_refl _) _).setCell (Nat.le_refl _) _).setCell (Nat.le_refl _) _⟩
    simp [results, Try.results33, go_sem, seA, k0, k1, k2, k3]
  · cases h1 : szC root zs d
    · have h2 : mkB zs m = false := by
        cases h3 : mkB zs m
        · rfl
        · exact absurd (show scC root zs m d = 0 by simp [scC, h1, h3]) hc
      obtain ⟨q1, q2, q3⟩ := szC_no h1
      have q4 : decide (4096 < (d.size : Int)) = false := q3
      have E : Hid (seV root zs m d = ⟨1, 0, ⟨#[]⟩, ⟨#[]⟩⟩) := (show seV root zs m d = _ by unfold seV; rw [if_neg hc]; simp [scC, h1, h2])
      rw [h2] at HM
      clear hc q3 h1 h2
      go_enter Try.func33, Try.ntmps33
      go_wp2_with fail
      refine Calls.mono (HM.out _ HL0.out.bel) ?_
      rintro e u1 ⟨rfl, hb1⟩
      have HL1 : Hid (LBx w u1 w.heap.size _ _) := HL0.out.step hb1
      clear hb1 HL0
      have hlt := HL1.out.lt
      have k0 := HL1.out.cel 0 _ rfl
      have k1 := HL1.out.cel 1 _ rfl
      have k2 := HL1.out.cel 2 _ rfl
      have k3 := HL1.out.cel 3 _ rfl
      have f0 := HL1.out.frz 0
      have f1 := HL1.out.frz 1
      have f2 := HL1.out.frz 2
      have f3 := HL1.out.frz 3
      go_wp2
      refine bodyPost_ret (v := seA ⟨1, 0, ⟨#[]⟩, ⟨#[]⟩⟩) ?_ rfl ⟨by rw [E.out], (((HL1.out.bel.setCell (Nat.le_refl _) _).setCell (Nat.le_refl _) _).setCell (Nat.le_refl _) _).setCell (Nat.le_refl _) _⟩
      simp [results, Try.results33, go_sem, seA, k0, k1, k2, k3]
    · have E : Hid (seV root zs m d = ⟨2, 0, ⟨#[]⟩, ⟨#[]⟩⟩) := (show seV root zs m d = _ by unfold seV; rw [if_neg hc]; simp [scC, h1])
      have HQ : Hid (decide (4032 < (root.size : Int)) = true ∨ decide (4032 < (root.size : Int)) = false ∧ decide (4096 < (d.size : Int)) = true ∨ decide (4032 < (root.size : Int)) = false ∧ decide (4096 < (d.size : Int)) = false ∧ decide (1000 < (zs.length : Int)) = true) := (show decide (4032 < (root.size : Int)) = true ∨ decide (4032 < (root.size : Int)) = false ∧ decide (4096 < (d.size : Int)) = true ∨ decide (4032 < (root.size : Int)) = false ∧ decide (4096 < (d.size : Int)) = false ∧ decide (1000 < (zs.length : Int)) = true by
        simp only [szC, ovB] at h1
        revert h1
        cases decide (4032 < (root.size : Int)) <;> cases decide (4096 < (d.size : Int)) <;> cases decide (1000 < (zs.length : Int)) <;> simp)
      have hlt : w.heap.size < (w.alloc (.cells #[.int .i64 0, .int .i64 0, .string ⟨#[]⟩, .string ⟨#[]⟩] 74)).heap.size := HL0.out.lt
      clear hc h1
      rcases HQ.out with q1 | ⟨q1, q2⟩ | ⟨q1, q2, q3⟩
      all_goals go_enter Try.func33, Try.ntmps33
      all_goals go_wp2
      all_goals refine bodyPost_ret (v := seA ⟨2, 0, ⟨#[]⟩, ⟨#[]⟩⟩) ?_ rfl ⟨by rw [E.out], (Below.refl _ _).alloc (Nat.le_refl _) _⟩
      all_goals simp [results, Try.results33, go_sem, seA]
end Go.Proofs.Ytcglpigmellfcab
