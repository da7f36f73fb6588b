import Derived.Test.YthncnffnjjclfabQt2
import Derived.Test.YthncnffnjjclfabHl
namespace Go.Proofs.Ythncnffnjjclfab
open Go.ChangeShapes Go.WideShapes Go.ChangeAt Go.RowKit

def pwB (p : Int) : Bool := ((poL 1 p.toNat 1073741381 : Nat) : Int) == 1
def puB (p : Int) : Bool := decide (2 ≤ p) && decide (p < 2147482763) && pwB p
def bdB (R Z : Int) : Bool := decide (1 ≤ R) && decide (R < 2147482763) && decide (0 ≤ Z) && decide (Z < 1073741381)
def cqB (p : Int) (nn : ByteArray) (zs : List Int) (R Z : Int) : Bool := puB p && !ovB nn && rgB zs && bdB R Z
def cqV (p : Int) (nn : ByteArray) (zs : List Int) (R Z : Int) : Bool := if cqB p nn zs R Z = true then ((poL 1 4 Z.toNat : Nat) : Int) == R * (poL 1 p.toNat (prV R zs nn).toNat : Nat) % 2147482763 else false
theorem cqB_b {p : Int} {nn : ByteArray} {zs : List Int} {R Z : Int} (h : cqB p nn zs R Z = true) : puB p = true ∧ ovB nn = false ∧ rgB zs = true ∧ bdB R Z = true := by
  simpa [cqB, and_assoc] using h
theorem puB_b {p : Int} (h : puB p = true) : ∃ n : Nat, p = n ∧ 2 ≤ n ∧ n < 2147482763 ∧ pwB n = true := by
  simp only [puB, Bool.and_eq_true, decide_eq_true_eq] at h
  obtain ⟨⟨h1, h2⟩, h3⟩ := h
  obtain ⟨n, rfl⟩ := Int.eq_ofNat_of_zero_le (show 0 ≤ p by omega)
  exact ⟨n, rfl, by omega, by omega, h3⟩
theorem bdB_b {R Z : Int} (h : bdB R Z = true) : ∃ r z : Nat, R = r ∧ Z = z ∧ 1 ≤ r ∧ r < 2147482763 ∧ z < 1073741381 := by
  simp only [bdB, Bool.and_eq_true, decide_eq_true_eq] at h
  exact ⟨R.toNat, Z.toNat, by omega, by omega, by omega, by omega, by omega⟩
theorem isPublic_any (p : Int) (w : World) : Calls Try.prog 75 #[.int .i64 p] w fun e w' => e = .returned (.bool (puB p)) ∧ w' = w := by
  cases h1 : decide (2 ≤ p)
  · have E : Hid (puB p = false) := (show puB p = false by simp only [puB, h1]; rfl)
    go_enter Try.func75, Try.ntmps75
    go_wp2
    go_ret
    exact ⟨ret_bool E.out.symm, rfl⟩
  · cases h2 : decide (p < 2147482763)
    · have E : Hid (puB p = false) := (show puB p = false by simp only [puB, h1, h2]; rfl)
      go_enter Try.func75, Try.ntmps75
      go_wp2
      go_ret
      exact ⟨ret_bool E.out.symm, rfl⟩
    · have g1 := of_decide_eq_true h1
      have g2 := of_decide_eq_true h2
      obtain ⟨n, rfl⟩ := Int.eq_ofNat_of_zero_le (show 0 ≤ p by omega)
      have E : Hid (puB n = (((poL 1 n 1073741381 : Nat) : Int) == 1)) := (show puB n = _ by simp only [puB, pwB, h1, h2, Int.toNat_natCast]; rfl)
      have HP : Hid _ := fun u => sealPower_any n 1073741381 u (by omega) (by omega)
      generalize poL 1 n 1073741381 = X at *
      clear g1 g2
      go_enter Try.func75, Try.ntmps75
      go_wp2_with (go_at_call 71; refine Calls.mono (HP.out _) ?_; rintro e u2 ⟨rfl, hw2⟩; rw [hw2]; clear hw2)
      go_ret
      exact ⟨ret_bool E.out.symm, rfl⟩
set_option maxRecDepth 100000 in
set_option maxHeartbeats 4000000 in
theorem isBounded_any (R Z : Int) (w : World) : Calls Try.prog 76 #[.agg #[.int .i64 R, .int .i64 Z]] w fun e w' => e = .returned (.bool (bdB R Z)) ∧ Below w.heap.size w w' := by
  cases h1 : decide (1 ≤ R) <;> cases h2 : decide (R < 2147482763) <;> cases h3 : decide (0 ≤ Z) <;> cases h4 : decide (Z < 1073741381)
  all_goals have E : Hid (bdB R Z = (decide (1 ≤ R) && decide (R < 2147482763) && decide (0 ≤ Z) && decide (Z < 1073741381))) := rfl
  all_goals rw [h1, h2, h3, h4] at E
  all_goals go_enter Try.func76, Try.ntmps76
  all_goals go_wp2
  all_goals go_ret
  all_goals exact ⟨ret_bool E.out.symm, (Below.refl _ _).alloc (Nat.le_refl _) _⟩
set_option maxRecDepth 100000 in
set_option maxHeartbeats 4000000 in
theorem implCheck_any {w : World} {v : Value} {zs : List Int} (h : Irow w v zs) (hl : zs.length ≤ 1048576) (p : Int) (nn : ByteArray) (R Z : Int) :
    Calls Try.prog 31 #[.int .i64 p, .string nn, v, .agg #[.int .i64 R, .int .i64 Z]] w fun e w' => e = .returned (.bool (cqV p nn zs R Z)) ∧ Below w.heap.size w w' := by
  have HO : Hid _ := fun u => over_one nn u
  have HR : Hid (Irow w v zs) := h
  have HA : Hid (∀ u, Aft w u → Calls Try.prog 57 #[v] u fun e w' => e = .returned (.bool (rgB zs)) ∧ Below u.heap.size u w') := fun u hu => areRegs_any (h.below hu.out) hl
  have HL0 : Hid (LG w (w.alloc (.cells #[.int .i64 R, .int .i64 Z] 54)) w.heap.size #[.int .i64 R, .int .i64 Z] 54) := LG.new w _ _
  have HPU : Hid (∀ u, Calls Try.prog 75 #[.int .i64 p] u fun e w' => e = .returned (.bool (puB p)) ∧ w' = u) := fun u => isPublic_any p u
  have HBD : Hid (∀ u, Calls Try.prog 76 #[.agg #[.int .i64 R, .int .i64 Z]] u fun e w' => e = .returned (.bool (bdB R Z)) ∧ Below u.heap.size u w') := fun u => isBounded_any R Z u
  obtain ⟨ao, cap, rfl⟩ := h.sl
  clear h
  cases hq : cqB p nn zs R Z
  · have E1 : Hid (cqV p nn zs R Z = false) := (show cqV p nn zs R Z = false by simp [cqV, hq])
    rw [E1.out]
    have HF : Hid (puB p = false ∨ puB p = true ∧ ovB nn = true ∨ puB p = true ∧ ovB nn = false ∧ rgB zs = false ∨ puB p = true ∧ ovB nn = false ∧ rgB zs = true ∧ bdB R Z = false) := (show puB p = false ∨ puB p = true ∧ ovB nn = true ∨ puB p = true ∧ ovB nn = false ∧ rgB zs = false ∨ puB p = true ∧ ovB nn = false ∧ rgB zs = true ∧ bdB R Z = false by
      simp only [cqB] at hq
      revert hq
      cases puB p <;> cases ovB nn <;> cases rgB zs <;> cases bdB R Z <;> simp)
    clear hq E1
    rcases HF.out with h1 | ⟨h1, h2⟩ | ⟨h1, h2, h3⟩ | ⟨h1, h2, h3, h4⟩
    · rw [h1] at HPU
      clear h1 HF
      go_enter Try.func31, Try.ntmps31
      go_wp2_with (go_at_call 75; refine Calls.mono (HPU.out _) ?_; rintro e u1 ⟨rfl, hw1⟩; rw [hw1]; clear hw1)
      go_ret
      exact ⟨rfl, HL0.out.bel⟩
    · rw [h1] at HPU
      rw [h2] at HO
      clear h1 h2 HF
      go_enter Try.func31, Try.ntmps31
      go_upto_region 1 with fail
      generalize (w.alloc (.cells #[.int .i64 R, .int .i64 Z] 54)) = u0 at *
      generalize w.heap.size = b0 at *
      go_wp2_with (first | (go_at_call 75; refine Calls.mono (HPU.out _) ?_; rintro e u1 ⟨rfl, hw1⟩; rw [hw1]; clear hw1) | (go_at_call 56; refine Calls.mono (HO.out _) ?_; rintro e u2 ⟨rfl, hu2⟩; have HL2 : Hid (LG w u2 b0 _ _) := HL0.out.step hu2; clear hu2))
      go_ret
      exact ⟨rfl, HL2.out.bel⟩
    · rw [h1] at HPU
      rw [h2] at HO
      rw [h3] at HA
      clear h1 h2 h3 HF
      go_enter Try.func31, Try.ntmps31
      go_upto_region 1 with fail
      generalize (w.alloc (.cells #[.int .i64 R, .int .i64 Z] 54)) = u0 at *
      generalize w.heap.size = b0 at *
      go_wp2_with (first | (go_at_call 75; refine Calls.mono (HPU.out _) ?_; rintro e u1 ⟨rfl, hw1⟩; rw [hw1]; clear hw1) | (go_at_call 56; refine Calls.mono (HO.out _) ?_; rintro e u2 ⟨rfl, hu2⟩; have HL2 : Hid (LG w u2 b0 _ _) := HL0.out.step hu2; clear hu2) | (go_at_call 57; refine Calls.mono (HA.out _ HL2.out.aft) ?_; rintro e u3 ⟨rfl, hu3⟩; have HL3 : Hid (LG w u3 b0 _ _) := HL2.out.step hu3; clear hu3))
      go_ret
      exact ⟨rfl, HL3.out.bel⟩
    · rw [h1] at HPU
      rw [h2] at HO
      rw [h3] at HA
      rw [h4] at HBD
      clear h1 h2 h3 h4 HF
      go_enter Try.func31, Try.ntmps31
      go_upto_region 1 with fail
      generalize (w.alloc (.cells #[.int .i64 R, .int .i64 Z] 54)) = u0 at *
      generalize w.heap.size = b0 at *
      go_wp2_with (first | (go_at_call 75; refine Calls.mono (HPU.out _) ?_; rintro e u1 ⟨rfl, hw1⟩; rw [hw1]; clear hw1) | (go_at_call 56; refine Calls.mono (HO.out _) ?_; rintro e u2 ⟨rfl, hu2⟩; have HL2 : Hid (LG w u2 b0 _ _) := HL0.out.step hu2; clear hu2) | (go_at_call 57; refine Calls.mono (HA.out _ HL2.out.aft) ?_; rintro e u3 ⟨rfl, hu3⟩; have HL3 : Hid (LG w u3 b0 _ _) := HL2.out.step hu3; clear hu3; have q0 := HL3.out.cel 0 _ rfl; have q1 := HL3.out.cel 1 _ rfl; have ql := HL3.out.lt) | (go_at_call 76; refine Calls.mono (HBD.out _) ?_; rintro e u4 ⟨rfl, hu4⟩; have HL4 : Hid (LG w u4 b0 _ _) := HL3.out.step hu4; clear hu4))
      go_ret
      exact ⟨rfl, HL4.out.bel⟩
  · obtain ⟨h1, h2, h3, h4⟩ := cqB_b hq
    obtain ⟨-, hl8, -⟩ := rgB_b h3
    have hn := ovB_le h2
    rw [h1] at HPU
    rw [h2] at HO
    rw [h3] at HA
    rw [h4] at HBD
    have E : Hid (cqV p nn zs R Z = (((poL 1 4 Z.toNat : Nat) : Int) == R * (poL 1 p.toNat (prV R zs nn).toNat : Nat) % 2147482763)) := if_pos hq
    obtain ⟨n, rfl, n1, n2, -⟩ := puB_b h1
    obtain ⟨r, z, rfl, rfl, r1, r2, z2⟩ := bdB_b h4
    obtain ⟨p0, p1⟩ := prV_b (r : Int) zs nn
    have HQP : Hid (∀ u, Aft w u → Calls Try.prog 72 #[.int .i64 (r : Nat), .slice ao zs.length cap, .string nn] u fun e w' => e = .returned (.int .i64 (prV r zs nn)) ∧ Below u.heap.size u w') := fun u hu => quoteProof_any (HR.out.below hu.out) hl8 _ nn hn
    obtain ⟨e1, he1⟩ := Int.eq_ofNat_of_zero_le p0
    rw [he1] at HQP E p1
    simp only [Int.toNat_natCast] at E
    have HP1 : Hid (∀ u, Calls Try.prog 71 #[.int .i64 4, .int .i64 z] u fun e w' => e = .returned (.int .i64 (poL 1 4 z : Nat)) ∧ w' = u) := fun u => sealPower_any 4 z u (by omega) (by omega)
    have HP2 : Hid (∀ u, Calls Try.prog 71 #[.int .i64 n, .int .i64 e1] u fun e w' => e = .returned (.int .i64 (poL 1 n e1 : Nat)) ∧ w' = u) := fun u => sealPower_any n e1 u (by omega) (by omega)
    have hQ2 := poL_lt e1 1 n (by omega)
    obtain ⟨t1, t0⟩ := mul_b r2 hQ2
    have hw1 : IntKind.i64.wrap ((r : Int) * (poL 1 n e1 : Nat)) = (r : Int) * (poL 1 n e1 : Nat) := by rw [IntKind.wrap_i64]; omega
    have hw2 : ((r : Int) * (poL 1 n e1 : Nat)).tmod 2147482763 = (r : Int) * (poL 1 n e1 : Nat) % 2147482763 := Int.tmod_eq_emod_of_nonneg t0
    generalize poL 1 4 z = Q1 at *
    generalize poL 1 n e1 = Q2 at *
    generalize cqV n nn zs r z = RS at *
    clear hq h1 h2 h3 h4 he1 p0 hQ2 n1 n2 r1 z2
    go_enter Try.func31, Try.ntmps31
    go_upto_region 1 with fail
    generalize (w.alloc (.cells #[.int .i64 r, .int .i64 z] 54)) = u0 at *
    generalize w.heap.size = b0 at *
    go_wp2_with (first | (go_at_call 75; refine Calls.mono (HPU.out _) ?_; rintro e u1 ⟨rfl, hw1⟩; rw [hw1]; clear hw1) | (go_at_call 56; refine Calls.mono (HO.out _) ?_; rintro e u2 ⟨rfl, hu2⟩; have HL2 : Hid (LG w u2 b0 _ _) := HL0.out.step hu2; clear hu2) | (go_at_call 57; refine Calls.mono (HA.out _ HL2.out.aft) ?_; rintro e u3 ⟨rfl, hu3⟩; have HL3 : Hid (LG w u3 b0 _ _) := HL2.out.step hu3; clear hu3; have q0 := HL3.out.cel 0 _ rfl; have q1 := HL3.out.cel 1 _ rfl; have ql := HL3.out.lt) | (go_at_call 76; refine Calls.mono (HBD.out _) ?_; rintro e u4 ⟨rfl, hu4⟩; have HL4 : Hid (LG w u4 b0 #[.int .i64 r, .int .i64 z] 54) := HL3.out.step hu4; clear hu4 q0 q1 ql; have q0 := HL4.out.cel 0 _ rfl; have q1 := HL4.out.cel 1 _ rfl; have ql := HL4.out.lt) | (go_at_call 72; refine Calls.mono (HQP.out _ HL4.out.aft) ?_; rintro e u5 ⟨rfl, hu5⟩; have HL5 : Hid (LG w u5 b0 #[.int .i64 r, .int .i64 z] 54) := HL4.out.step hu5; clear hu5 q0 q1 ql))
    refine wp_region_held (S := fun w9 => LG w w9 b0 #[.int .i64 r, .int .i64 z] 54) (by kernel_rfl) ?_
    change wpAnyH _ _ _ _ _ _ _ _ (World.drew _)
    refine wpAnyH_take (i := 0) (v := .pointer (some ⟨b0, 1, none⟩)) rfl (by kernel_rfl) (by kernel_rfl) (by kernel_rfl) (fun _ _ _ h => h) (Or.inl ⟨by kernel_rfl, fun w9 h9 => ?_⟩) HL5.out.drew ?_
    · go_simp
    refine wpAnyH_take (i := 1) (v := .int .i64 (z : Nat)) rfl (by kernel_rfl) (by kernel_rfl) (by kernel_rfl) (fun _ _ _ h => h) (Or.inl ⟨by kernel_rfl, fun w9 h9 => ?_⟩) HL5.out.drew ?_
    · have x0 := h9.cel 0 _ rfl; have x1 := h9.cel 1 _ rfl; have xl := h9.lt; go_simp
    refine wpAnyH_take (i := 3) (v := .pointer (some ⟨b0, 0, none⟩)) rfl (by kernel_rfl) (by kernel_rfl) (by kernel_rfl) (fun _ _ _ h => h) (Or.inl ⟨by kernel_rfl, fun w9 h9 => ?_⟩) HL5.out.drew ?_
    · go_simp
    refine wpAnyH_take (i := 4) (v := .int .i64 (r : Nat)) rfl (by kernel_rfl) (by kernel_rfl) (by kernel_rfl) (fun _ _ _ h => h) (Or.inl ⟨by kernel_rfl, fun w9 h9 => ?_⟩) HL5.out.drew ?_
    · have x0 := h9.cel 0 _ rfl; have x1 := h9.cel 1 _ rfl; have xl := h9.lt; go_simp
    refine wpAnyH_take (i := 5) (v := .int .i64 (n : Nat)) rfl (by kernel_rfl) (by kernel_rfl) (by kernel_rfl) (fun _ _ _ h => h) (Or.inl ⟨by kernel_rfl, fun w9 h9 => ?_⟩) HL5.out.drew ?_
    · go_simp
    refine wpAnyH_take (i := 6) (v := .int .i64 (e1 : Nat)) rfl (by kernel_rfl) (by kernel_rfl) (by kernel_rfl) (fun _ _ _ h => h) (Or.inl ⟨by kernel_rfl, fun w9 h9 => ?_⟩) HL5.out.drew ?_
    · go_simp
    refine held_one 2 (by kernel_rfl) rfl (by kernel_rfl) fun K hK => ?_
    go_simp
    go_wp2_with (go_at_call 71; refine Calls.mono (HP1.out _) ?_; rintro e v1 ⟨rfl, hw⟩; rw [hw]; clear hw)
    refine hK _ _ HL5.out.drew ?_
    clear hK K
    refine held_one 7 (by kernel_rfl) rfl (by kernel_rfl) fun K hK => ?_
    go_simp
    go_wp2_with (go_at_call 71; refine Calls.mono (HP2.out _) ?_; rintro e v1 ⟨rfl, hw⟩; rw [hw]; clear hw)
    refine hK _ _ HL5.out.drew ?_
    clear hK K
    refine wpAnyH_take (i := 8) (v := .int .i64 ((r : Int) * (Q2 : Int))) rfl (by kernel_rfl) (by kernel_rfl) (by kernel_rfl) (fun _ _ _ h => h) (Or.inl ⟨by kernel_rfl, fun w9 h9 => ?_⟩) HL5.out.drew ?_
    · go_simp
    refine wpAnyH_take (i := 9) (v := .int .i64 ((r : Int) * (Q2 : Int) % 2147482763)) rfl (by kernel_rfl) (by kernel_rfl) (by kernel_rfl) (fun _ _ _ h => h) (Or.inl ⟨by kernel_rfl, fun w9 h9 => ?_⟩) HL5.out.drew ?_
    · go_simp
    refine wpAnyH_take (i := 10) (v := .bool ((Q1 : Int) == (r : Int) * (Q2 : Int) % 2147482763)) rfl (by kernel_rfl) (by kernel_rfl) (by kernel_rfl) (fun _ _ _ h => h) (Or.inl ⟨by kernel_rfl, fun w9 h9 => ?_⟩) HL5.out.drew ?_
    · go_simp
    refine wpAnyH_take (i := 11) (v := .bool ((Q1 : Int) == (r : Int) * (Q2 : Int) % 2147482763)) rfl (by kernel_rfl) (by kernel_rfl) (by kernel_rfl) (fun _ _ _ h => h) (Or.inl ⟨by kernel_rfl, fun w9 h9 => ?_⟩) HL5.out.drew ?_
    · go_simp
    refine wpAnyH_done (by kernel_rfl) ?_ _
    go_simp
    rw [← E.out]
    go_wp2
    go_ret
    exact ⟨rfl, bdn HL5.out.bel 1⟩
theorem first9 : ∀ b1 b2 b3 b4 b5 b6 b7 b8 b9 : Bool, (b1 || b2 || b3 || b4 || b5 || b6 || b7 || b8 || b9) = true → b1 = true ∨ (b1 = false ∧ b2 = true) ∨ (b1 = false ∧ b2 = false ∧ b3 = true) ∨ (b1 = false ∧ b2 = false ∧ b3 = false ∧ b4 = true) ∨ (b1 = false ∧ b2 = false ∧ b3 = false ∧ b4 = false ∧ b5 = true) ∨ (b1 = false ∧ b2 = false ∧ b3 = false ∧ b4 = false ∧ b5 = false ∧ b6 = true) ∨ (b1 = false ∧ b2 = false ∧ b3 = false ∧ b4 = false ∧ b5 = false ∧ b6 = false ∧ b7 = true) ∨ (b1 = false ∧ b2 = false ∧ b3 = false ∧ b4 = false ∧ b5 = false ∧ b6 = false ∧ b7 = false ∧ b8 = true) ∨ (b1 = false ∧ b2 = false ∧ b3 = false ∧ b4 = false ∧ b5 = false ∧ b6 = false ∧ b7 = false ∧ b8 = false ∧ b9 = true) := by
  intro b1 b2 b3 b4 b5 b6 b7 b8 b9
  cases b1 <;> simp <;> cases b2 <;> simp <;> cases b3 <;> simp <;> cases b4 <;> simp <;> cases b5 <;> simp <;> cases b6 <;> simp <;> cases b7 <;> simp <;> cases b8 <;> simp
theorem cqB_no {p : Int} {nn : ByteArray} {zs : List Int} {R Z : Int} (h : cqB p nn zs R Z = false) : (ovB nn || !rgB zs || decide (p < 2) || decide (2147482763 ≤ p) || !pwB p || decide (R < 1) || decide (2147482763 ≤ R) || decide (Z < 0) || decide (1073741381 ≤ Z)) = true := by
  cases hc : (ovB nn || !rgB zs || decide (p < 2) || decide (2147482763 ≤ p) || !pwB p || decide (R < 1) || decide (2147482763 ≤ R) || decide (Z < 0) || decide (1073741381 ≤ Z))
  · exfalso
    simp only [Bool.or_eq_false_iff, decide_eq_false_iff_not, Bool.not_eq_false'] at hc
    obtain ⟨⟨⟨⟨⟨⟨⟨⟨c1, c2⟩, c3⟩, c4⟩, c5⟩, c6⟩, c7⟩, c8⟩, c9⟩ := hc
    have e1 : puB p = true := by
      simp [puB, c5]
      omega
    have e2 : bdB R Z = true := by
      simp [bdB]
      omega
    have : cqB p nn zs R Z = true := by simp [cqB, e1, e2, c1, c2]
    rw [this] at h
    cases h
  · rfl
set_option maxRecDepth 100000 in
set_option maxHeartbeats 4000000 in
theorem specCheck_any {w : World} {v : Value} {zs : List Int} (h : Irow w v zs) (hl : zs.length ≤ 1048576) (p : Int) (nn : ByteArray) (R Z : Int) :
    Calls Try.prog 32 #[.int .i64 p, .string nn, v, .agg #[.int .i64 R, .int .i64 Z]] w fun e w' => e = .returned (.bool (cqV p nn zs R Z)) ∧ Below w.heap.size w w' := by
  have HR : Hid (Irow w v zs) := h
  have HA : Hid (∀ u, Aft w u → Calls Try.prog 50 #[v] u fun e w' => e = .returned (.bool (rgB zs)) ∧ Below u.heap.size u w') := fun u hu => l15Regs_any (h.below hu.out) hl
  have HL0 : Hid (LG w (w.alloc (.cells #[.int .i64 R, .int .i64 Z] 54)) w.heap.size #[.int .i64 R, .int .i64 Z] 54) := LG.new w _ _
  obtain ⟨ao, cap, rfl⟩ := h.sl
  clear h
  have HPO : Hid (decide (p < 2) = false → decide (2147482763 ≤ p) = false → ∀ u, Calls Try.prog 74 #[.int .i64 p, .int .i64 1073741381] u fun e w' => e = .returned (.int .i64 (poL 1 p.toNat 1073741381 : Nat)) ∧ w' = u) := (fun c1 c2 u => by
    have d1 := of_decide_eq_false c1
    have d2 := of_decide_eq_false c2
    obtain ⟨n, rfl⟩ := Int.eq_ofNat_of_zero_le (show 0 ≤ p by omega)
    rw [Int.toNat_natCast]
    exact l15Power_any n 1073741381 u (by omega) (by omega))
  cases hq : cqB p nn zs R Z
  · have E1 : Hid (cqV p nn zs R Z = false) := (show cqV p nn zs R Z = false by simp [cqV, hq])
    rw [E1.out]
    have HF : Hid _ := first9 _ _ _ _ _ _ _ _ _ (cqB_no hq)
    clear hq E1
    have HPW : Hid (pwB p = (((poL 1 p.toNat 1073741381 : Nat) : Int) == 1)) := rfl
    generalize poL 1 p.toNat 1073741381 = Q at *
    have HOV : Hid (ovB nn = decide (4096 < (nn.size : Int))) := rfl
    rw [HOV.out, HPW.out] at HF
    generalize rgB zs = rb at *
    rcases HF.out with h1 | ⟨h1, h2⟩ | ⟨h1, h2, h3⟩ | ⟨h1, h2, h3, h4⟩ | ⟨h1, h2, h3, h4, h5⟩ | ⟨h1, h2, h3, h4, h5, h6⟩ | ⟨h1, h2, h3, h4, h5, h6, h7⟩ | ⟨h1, h2, h3, h4, h5, h6, h7, h8⟩ | ⟨h1, h2, h3, h4, h5, h6, h7, h8, h9⟩
    · clear HF HPW HOV HPO
      go_enter Try.func32, Try.ntmps32
      go_upto_region 1 with fail
      generalize (w.alloc (.cells #[.int .i64 R, .int .i64 Z] 54)) = u0 at *
      generalize w.heap.size = b0 at *
      go_wp2_with (fail)
      go_ret
      exact ⟨rfl, HL0.out.bel⟩
    · replace h2 : rb = false := by simpa using h2
      subst h2
      clear HF HPW HOV HPO
      go_enter Try.func32, Try.ntmps32
      go_upto_region 1 with fail
      generalize (w.alloc (.cells #[.int .i64 R, .int .i64 Z] 54)) = u0 at *
      generalize w.heap.size = b0 at *
      go_wp2_with (first | (go_at_call 50; refine Calls.mono (HA.out _ HL0.out.aft) ?_; rintro e u3 ⟨rfl, hu3⟩; have HL3 : Hid (LG w u3 b0 #[.int .i64 R, .int .i64 Z] 54) := HL0.out.step hu3; clear hu3; have q0 := HL3.out.cel 0 _ rfl; have q1 := HL3.out.cel 1 _ rfl; have ql := HL3.out.lt))
      go_ret
      exact ⟨rfl, HL3.out.bel⟩
    · replace h2 : rb = true := by simpa using h2
      subst h2
      clear HF HPW HOV HPO
      go_enter Try.func32, Try.ntmps32
      go_upto_region 1 with fail
      generalize (w.alloc (.cells #[.int .i64 R, .int .i64 Z] 54)) = u0 at *
      generalize w.heap.size = b0 at *
      go_wp2_with (first | (go_at_call 50; refine Calls.mono (HA.out _ HL0.out.aft) ?_; rintro e u3 ⟨rfl, hu3⟩; have HL3 : Hid (LG w u3 b0 #[.int .i64 R, .int .i64 Z] 54) := HL0.out.step hu3; clear hu3; have q0 := HL3.out.cel 0 _ rfl; have q1 := HL3.out.cel 1 _ rfl; have ql := HL3.out.lt))
      go_ret
      exact ⟨rfl, HL3.out.bel⟩
    · replace h2 : rb = true := by simpa using h2
      subst h2
      clear HF HPW HOV HPO
      go_enter Try.func32, Try.ntmps32
      go_upto_region 1 with fail
      generalize (w.alloc (.cells #[.int .i64 R, .int .i64 Z] 54)) = u0 at *
      generalize w.heap.size = b0 at *
      go_wp2_with (first | (go_at_call 50; refine Calls.mono (HA.out _ HL0.out.aft) ?_; rintro e u3 ⟨rfl, hu3⟩; have HL3 : Hid (LG w u3 b0 #[.int .i64 R, .int .i64 Z] 54) := HL0.out.step hu3; clear hu3; have q0 := HL3.out.cel 0 _ rfl; have q1 := HL3.out.cel 1 _ rfl; have ql := HL3.out.lt))
      go_ret
      exact ⟨rfl, HL3.out.bel⟩
    · replace h2 : rb = true := by simpa using h2
      subst h2
      have HPP : Hid _ := HPO.out h3 h4
      replace h5 : ((Q : Int) != 1) = true := by simpa using h5
      clear HF HPW HOV HPO
      go_enter Try.func32, Try.ntmps32
      go_upto_region 1 with fail
      generalize (w.alloc (.cells #[.int .i64 R, .int .i64 Z] 54)) = u0 at *
      generalize w.heap.size = b0 at *
      go_wp2_with (first | (go_at_call 50; refine Calls.mono (HA.out _ HL0.out.aft) ?_; rintro e u3 ⟨rfl, hu3⟩; have HL3 : Hid (LG w u3 b0 #[.int .i64 R, .int .i64 Z] 54) := HL0.out.step hu3; clear hu3; have q0 := HL3.out.cel 0 _ rfl; have q1 := HL3.out.cel 1 _ rfl; have ql := HL3.out.lt) | (go_at_call 74; refine Calls.mono (HPP.out _) ?_; rintro e u4 ⟨rfl, hw4⟩; rw [hw4]; clear hw4))
      go_ret
      exact ⟨rfl, HL3.out.bel⟩
    · replace h2 : rb = true := by simpa using h2
      subst h2
      have HPP : Hid _ := HPO.out h3 h4
      replace h5 : ((Q : Int) != 1) = false := by simpa using h5
      clear HF HPW HOV HPO
      go_enter Try.func32, Try.ntmps32
      go_upto_region 1 with fail
      generalize (w.alloc (.cells #[.int .i64 R, .int .i64 Z] 54)) = u0 at *
      generalize w.heap.size = b0 at *
      go_wp2_with (first | (go_at_call 50; refine Calls.mono (HA.out _ HL0.out.aft) ?_; rintro e u3 ⟨rfl, hu3⟩; have HL3 : Hid (LG w u3 b0 #[.int .i64 R, .int .i64 Z] 54) := HL0.out.step hu3; clear hu3; have q0 := HL3.out.cel 0 _ rfl; have q1 := HL3.out.cel 1 _ rfl; have ql := HL3.out.lt) | (go_at_call 74; refine Calls.mono (HPP.out _) ?_; rintro e u4 ⟨rfl, hw4⟩; rw [hw4]; clear hw4))
      go_ret
      exact ⟨rfl, HL3.out.bel⟩
    · replace h2 : rb = true := by simpa using h2
      subst h2
      have HPP : Hid _ := HPO.out h3 h4
      replace h5 : ((Q : Int) != 1) = false := by simpa using h5
      clear HF HPW HOV HPO
      go_enter Try.func32, Try.ntmps32
      go_upto_region 1 with fail
      generalize (w.alloc (.cells #[.int .i64 R, .int .i64 Z] 54)) = u0 at *
      generalize w.heap.size = b0 at *
      go_wp2_with (first | (go_at_call 50; refine Calls.mono (HA.out _ HL0.out.aft) ?_; rintro e u3 ⟨rfl, hu3⟩; have HL3 : Hid (LG w u3 b0 #[.int .i64 R, .int .i64 Z] 54) := HL0.out.step hu3; clear hu3; have q0 := HL3.out.cel 0 _ rfl; have q1 := HL3.out.cel 1 _ rfl; have ql := HL3.out.lt) | (go_at_call 74; refine Calls.mono (HPP.out _) ?_; rintro e u4 ⟨rfl, hw4⟩; rw [hw4]; clear hw4))
      go_ret
      exact ⟨rfl, HL3.out.bel⟩
    · replace h2 : rb = true := by simpa using h2
      subst h2
      have HPP : Hid _ := HPO.out h3 h4
      replace h5 : ((Q : Int) != 1) = false := by simpa using h5
      clear HF HPW HOV HPO
      go_enter Try.func32, Try.ntmps32
      go_upto_region 1 with fail
      generalize (w.alloc (.cells #[.int .i64 R, .int .i64 Z] 54)) = u0 at *
      generalize w.heap.size = b0 at *
      go_wp2_with (first | (go_at_call 50; refine Calls.mono (HA.out _ HL0.out.aft) ?_; rintro e u3 ⟨rfl, hu3⟩; have HL3 : Hid (LG w u3 b0 #[.int .i64 R, .int .i64 Z] 54) := HL0.out.step hu3; clear hu3; have q0 := HL3.out.cel 0 _ rfl; have q1 := HL3.out.cel 1 _ rfl; have ql := HL3.out.lt) | (go_at_call 74; refine Calls.mono (HPP.out _) ?_; rintro e u4 ⟨rfl, hw4⟩; rw [hw4]; clear hw4))
      go_ret
      exact ⟨rfl, HL3.out.bel⟩
    · replace h2 : rb = true := by simpa using h2
      subst h2
      have HPP : Hid _ := HPO.out h3 h4
      replace h5 : ((Q : Int) != 1) = false := by simpa using h5
      clear HF HPW HOV HPO
      go_enter Try.func32, Try.ntmps32
      go_upto_region 1 with fail
      generalize (w.alloc (.cells #[.int .i64 R, .int .i64 Z] 54)) = u0 at *
      generalize w.heap.size = b0 at *
      go_wp2_with (first | (go_at_call 50; refine Calls.mono (HA.out _ HL0.out.aft) ?_; rintro e u3 ⟨rfl, hu3⟩; have HL3 : Hid (LG w u3 b0 #[.int .i64 R, .int .i64 Z] 54) := HL0.out.step hu3; clear hu3; have q0 := HL3.out.cel 0 _ rfl; have q1 := HL3.out.cel 1 _ rfl; have ql := HL3.out.lt) | (go_at_call 74; refine Calls.mono (HPP.out _) ?_; rintro e u4 ⟨rfl, hw4⟩; rw [hw4]; clear hw4))
      go_ret
      exact ⟨rfl, HL3.out.bel⟩
  · obtain ⟨h1, h2, h3, h4⟩ := cqB_b hq
    obtain ⟨-, hl8, -⟩ := rgB_b h3
    have hn := ovB_le h2
    have o1 : decide (4096 < (nn.size : Int)) = false := h2
    rw [h3] at HA
    have E : Hid (cqV p nn zs R Z = (((poL 1 4 Z.toNat : Nat) : Int) == R * (poL 1 p.toNat (prV R zs nn).toNat : Nat) % 2147482763)) := if_pos hq
    obtain ⟨n, rfl, n1, n2, n3⟩ := puB_b h1
    obtain ⟨r, z, rfl, rfl, r1, r2, z2⟩ := bdB_b h4
    obtain ⟨p0, p1⟩ := prV_b (r : Int) zs nn
    have HQ1 : Hid (∀ u, Aft w u → Calls Try.prog 73 #[.int .i64 (r : Nat), .slice ao zs.length cap, .string nn] u fun e w' => e = .returned (.string (allT r zs nn)) ∧ Below u.heap.size u w') := fun u hu => l15All_any (HR.out.below hu.out) hl8 _ nn hn
    have hz1 := allT_size r zs nn hl8 hn
    have HM2 : Hid (∀ u, Calls Try.prog 52 #[.string (allT r zs nn), .int .i64 42] u fun e w' => e = .returned (.int .i64 (mixv (allT r zs nn) 42)) ∧ w' = u) := fun u => specMix_any _ _ _ (by omega)
    obtain ⟨o0, o2⟩ := mixv_b (allT r zs nn) 42
    have HE : Hid (mixv (allT r zs nn) 42 % 1073741381 = prV r zs nn) := rfl
    obtain ⟨e1, he1⟩ := Int.eq_ofNat_of_zero_le p0
    rw [he1] at HE E p1
    simp only [Int.toNat_natCast] at E
    have HP0 : Hid (∀ u, Calls Try.prog 74 #[.int .i64 n, .int .i64 1073741381] u fun e w' => e = .returned (.int .i64 (poL 1 n 1073741381 : Nat)) ∧ w' = u) := fun u => l15Power_any n 1073741381 u (by omega) (by omega)
    have HP1 : Hid (∀ u, Calls Try.prog 74 #[.int .i64 4, .int .i64 z] u fun e w' => e = .returned (.int .i64 (poL 1 4 z : Nat)) ∧ w' = u) := fun u => l15Power_any 4 z u (by omega) (by omega)
    have HP2 : Hid (∀ u, Calls Try.prog 74 #[.int .i64 n, .int .i64 e1] u fun e w' => e = .returned (.int .i64 (poL 1 n e1 : Nat)) ∧ w' = u) := fun u => l15Power_any n e1 u (by omega) (by omega)
    have hQ2 := poL_lt e1 1 n (by omega)
    obtain ⟨t1, t0⟩ := mul_b r2 hQ2
    have hw1 : IntKind.i64.wrap ((r : Int) * (poL 1 n e1 : Nat)) = (r : Int) * (poL 1 n e1 : Nat) := by rw [IntKind.wrap_i64]; omega
    have hw2 : ((r : Int) * (poL 1 n e1 : Nat)).tmod 2147482763 = (r : Int) * (poL 1 n e1 : Nat) % 2147482763 := Int.tmod_eq_emod_of_nonneg t0
    have hp5 : (((poL 1 n 1073741381 : Nat) : Int) != 1) = false := by simpa [pwB] using n3
    generalize poL 1 4 z = Q1 at *
    generalize poL 1 n e1 = Q2 at *
    generalize poL 1 n 1073741381 = Q0 at *
    generalize cqV n nn zs r z = RS at *
    have g3 : decide ((n : Int) < 2) = false := decide_eq_false (by omega)
    have g4 : decide (2147482763 ≤ (n : Int)) = false := decide_eq_false (by omega)
    have g6 : decide ((r : Int) < 1) = false := decide_eq_false (by omega)
    have g7 : decide (2147482763 ≤ (r : Int)) = false := decide_eq_false (by omega)
    have g8 : decide ((z : Int) < 0) = false := decide_eq_false (by omega)
    have g9 : decide (1073741381 ≤ (z : Int)) = false := decide_eq_false (by omega)
    clear hq h1 h2 h3 h4 he1 p0 hQ2 n1 n2 r1 z2 HPO n3
    generalize mixv (allT r zs nn) 42 = y at *
    generalize allT r zs nn = T1 at *
    go_enter Try.func32, Try.ntmps32
    go_upto_region 1 with fail
    generalize (w.alloc (.cells #[.int .i64 r, .int .i64 z] 54)) = u0 at *
    generalize w.heap.size = b0 at *
    go_wp2_with (first | (go_at_call 50; refine Calls.mono (HA.out _ HL0.out.aft) ?_; rintro e u3 ⟨rfl, hu3⟩; have HL3 : Hid (LG w u3 b0 #[.int .i64 r, .int .i64 z] 54) := HL0.out.step hu3; clear hu3; have q0 := HL3.out.cel 0 _ rfl; have q1 := HL3.out.cel 1 _ rfl; have ql := HL3.out.lt) | (go_at_call 74; refine Calls.mono (HP0.out _) ?_; rintro e u4 ⟨rfl, hw4⟩; rw [hw4]; clear hw4 HP0) | (go_at_call 73; refine Calls.mono (HQ1.out _ HL3.out.aft) ?_; rintro e u5 ⟨rfl, hu5⟩; have HL5 : Hid (LG w u5 b0 #[.int .i64 r, .int .i64 z] 54) := HL3.out.step hu5; clear hu5 q0 q1 ql) | (go_at_call 52; refine Calls.mono (HM2.out _) ?_; rintro e u6 ⟨rfl, hw6⟩; rw [hw6]; clear hw6))
    rw [HE.out]
    refine wp_region_held (S := fun w9 => LG w w9 b0 #[.int .i64 r, .int .i64 z] 54) (by kernel_rfl) ?_
    change wpAnyH _ _ _ _ _ _ _ _ (World.drew _)
    refine wpAnyH_take (i := 0) (v := .pointer (some ⟨b0, 1, none⟩)) rfl (by kernel_rfl) (by kernel_rfl) (by kernel_rfl) (fun _ _ _ h => h) (Or.inl ⟨by kernel_rfl, fun w9 h9 => ?_⟩) HL5.out.drew ?_
    · go_simp
    refine wpAnyH_take (i := 1) (v := .int .i64 (z : Nat)) rfl (by kernel_rfl) (by kernel_rfl) (by kernel_rfl) (fun _ _ _ h => h) (Or.inl ⟨by kernel_rfl, fun w9 h9 => ?_⟩) HL5.out.drew ?_
    · have x0 := h9.cel 0 _ rfl; have x1 := h9.cel 1 _ rfl; have xl := h9.lt; go_simp
    refine wpAnyH_take (i := 3) (v := .pointer (some ⟨b0, 0, none⟩)) rfl (by kernel_rfl) (by kernel_rfl) (by kernel_rfl) (fun _ _ _ h => h) (Or.inl ⟨by kernel_rfl, fun w9 h9 => ?_⟩) HL5.out.drew ?_
    · go_simp
    refine wpAnyH_take (i := 4) (v := .int .i64 (r : Nat)) rfl (by kernel_rfl) (by kernel_rfl) (by kernel_rfl) (fun _ _ _ h => h) (Or.inl ⟨by kernel_rfl, fun w9 h9 => ?_⟩) HL5.out.drew ?_
    · have x0 := h9.cel 0 _ rfl; have x1 := h9.cel 1 _ rfl; have xl := h9.lt; go_simp
    refine wpAnyH_take (i := 5) (v := .int .i64 (n : Nat)) rfl (by kernel_rfl) (by kernel_rfl) (by kernel_rfl) (fun _ _ _ h => h) (Or.inl ⟨by kernel_rfl, fun w9 h9 => ?_⟩) HL5.out.drew ?_
    · go_simp
    refine wpAnyH_take (i := 6) (v := .int .i64 (e1 : Nat)) rfl (by kernel_rfl) (by kernel_rfl) (by kernel_rfl) (fun _ _ _ h => h) (Or.inl ⟨by kernel_rfl, fun w9 h9 => ?_⟩) HL5.out.drew ?_
    · go_simp
    refine held_one 2 (by kernel_rfl) rfl (by kernel_rfl) fun K hK => ?_
    go_simp
    go_wp2_with (go_at_call 74; refine Calls.mono (HP1.out _) ?_; rintro e v1 ⟨rfl, hw⟩; rw [hw]; clear hw)
    refine hK _ _ HL5.out.drew ?_
    clear hK K
    refine held_one 7 (by kernel_rfl) rfl (by kernel_rfl) fun K hK => ?_
    go_simp
    go_wp2_with (go_at_call 74; refine Calls.mono (HP2.out _) ?_; rintro e v1 ⟨rfl, hw⟩; rw [hw]; clear hw)
    refine hK _ _ HL5.out.drew ?_
    clear hK K
    refine wpAnyH_take (i := 8) (v := .int .i64 ((r : Int) * (Q2 : Int))) rfl (by kernel_rfl) (by kernel_rfl) (by kernel_rfl) (fun _ _ _ h => h) (Or.inl ⟨by kernel_rfl, fun w9 h9 => ?_⟩) HL5.out.drew ?_
    · go_simp
    refine wpAnyH_take (i := 9) (v := .int .i64 ((r : Int) * (Q2 : Int) % 2147482763)) rfl (by kernel_rfl) (by kernel_rfl) (by kernel_rfl) (fun _ _ _ h => h) (Or.inl ⟨by kernel_rfl, fun w9 h9 => ?_⟩) HL5.out.drew ?_
    · go_simp
    refine wpAnyH_take (i := 10) (v := .bool ((Q1 : Int) == (r : Int) * (Q2 : Int) % 2147482763)) rfl (by kernel_rfl) (by kernel_rfl) (by kernel_rfl) (fun _ _ _ h => h) (Or.inl ⟨by kernel_rfl, fun w9 h9 => ?_⟩) HL5.out.drew ?_
    · go_simp
    refine wpAnyH_take (i := 11) (v := .bool ((Q1 : Int) == (r : Int) * (Q2 : Int) % 2147482763)) rfl (by kernel_rfl) (by kernel_rfl) (by kernel_rfl) (fun _ _ _ h => h) (Or.inl ⟨by kernel_rfl, fun w9 h9 => ?_⟩) HL5.out.drew ?_
    · go_simp
    refine wpAnyH_done (by kernel_rfl) ?_ _
    go_simp
    rw [← E.out]
    go_wp2
    go_ret
    exact ⟨rfl, bdn HL5.out.bel 1⟩
end Go.Proofs.Ythncnffnjjclfab
