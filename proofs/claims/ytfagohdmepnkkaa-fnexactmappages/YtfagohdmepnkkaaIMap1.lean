import Derived.Test.YtfagohdmepnkkaaSMap5
import Derived.Test.YtfagohdmepnkkaaPWk1
namespace Go.Proofs.Ytfagohdmepnkkaa
open Go.ChangeShapes Go.WideShapes Go.ChangeAt Go.RowKit

theorem or_as (a b c : Int) : bits .or .i64 (bits .or .i64 a b) c = bits .or .i64 a (bits .or .i64 b c) := by
  show IntKind.i64.wrap ((BitVec.ofInt 64 (IntKind.i64.wrap ((BitVec.ofInt 64 a ||| BitVec.ofInt 64 b).toNat : Int)) ||| BitVec.ofInt 64 c).toNat : Int) = IntKind.i64.wrap ((BitVec.ofInt 64 a ||| BitVec.ofInt 64 (IntKind.i64.wrap ((BitVec.ofInt 64 b ||| BitVec.ofInt 64 c).toNat : Int))).toNat : Int)
  rw [ofInt_wrap, ofInt_wrap, BitVec.or_assoc]
theorem wrap_self {x : Int} (h0 : -9223372036854775808 ≤ x) (h1 : x ≤ 9223372036854775807) : IntKind.i64.wrap ((BitVec.ofInt 64 x).toNat : Int) = x := by
  rw [IntKind.wrap_i64, BitVec.toNat_ofInt]
  omega
theorem bv_part (A M : BitVec 64) : A &&& ~~~M = 0#64 ↔ A &&& M = A := by
  constructor
  · intro h
    apply BitVec.eq_of_getLsbD_eq
    intro i hi
    have h2 : (A &&& ~~~M).getLsbD i = (0#64).getLsbD i := by rw [h]
    simp [hi] at h2 ⊢
    exact h2
  · intro h
    apply BitVec.eq_of_getLsbD_eq
    intro i hi
    have h2 : (A &&& M).getLsbD i = A.getLsbD i := by rw [h]
    simp [hi] at h2 ⊢
    exact h2
theorem wrap_zero (z : BitVec 64) : IntKind.i64.wrap (z.toNat : Int) = 0 ↔ z = 0#64 := by
  constructor
  · intro h
    have h1 := ofInt_wrap z
    rw [h] at h1
    rw [← h1]
    rfl
  · intro h
    subst h
    rfl
theorem andNot_iff {fl m : Int} (h0 : -9223372036854775808 ≤ fl) (h1 : fl ≤ 9223372036854775807) : bits .andNot .i64 fl m = 0 ↔ bits .and .i64 fl m = fl := by
  show IntKind.i64.wrap ((BitVec.ofInt 64 fl &&& ~~~ BitVec.ofInt 64 m).toNat : Int) = 0 ↔ IntKind.i64.wrap ((BitVec.ofInt 64 fl &&& BitVec.ofInt 64 m).toNat : Int) = fl
  rw [wrap_zero, bv_part]
  constructor
  · intro h
    rw [h]
    exact wrap_self h0 h1
  · intro h
    have h2 := ofInt_wrap (BitVec.ofInt 64 fl &&& BitVec.ofInt 64 m)
    rw [h] at h2
    exact h2.symm
theorem entryOf_any (f fl : Int) (w : World) (h0 : 0 ≤ f) (h1 : f ≤ 1023) : Calls Try.prog 120 #[.int .i64 f, .int .i64 fl] w fun e w' => e = .returned (.int .i64 (bits .or .i64 (f * 256) fl)) ∧ w' = w := by
  go_enter Try.func120, Try.ntmps120
  go_wp2
  go_ret
  exact ⟨rfl, rfl⟩
set_option maxRecDepth 100000 in
set_option maxHeartbeats 4000000 in
theorem isPageMap_any (m : PM) (w : World) (f0 : -9223372036854775808 ≤ m.flags) (f1 : m.flags ≤ 9223372036854775807) : Calls Try.prog 96 #[pmA m] w fun e w' => e = .returned (.bool (pmOk m)) ∧ Below w.heap.size w w' := by
  obtain ⟨va, fr, fl, lg⟩ := m
  unfold pmA
  simp only at f0 f1 ⊢
  have HV : Hid _ := fun u => isVirtual_any va u
  have HN : Hid _ := andNot_iff (m := 158) f0 f1
  have HB : Hid (Below w.heap.size w (w.alloc (.cells #[.int .i64 va, .int .i64 fr, .int .i64 fl, .bool lg] 101))) := (Below.refl _ _).alloc (Nat.le_refl _) _
  clear f0 f1
  cases lg
  · have hv : (decide (0 ≤ va) && decide (va < 262144)) = false ∨ (decide (0 ≤ va) && decide (va < 262144)) = true := by cases (decide (0 ≤ va) && decide (va < 262144)) <;> simp
    rcases hv with hv | hv
    · rw [hv] at HV
      have h0 : ¬ (0 ≤ va ∧ va < 262144) := by simpa using hv
      clear hv
      have E : Hid (pmOk ⟨va, fr, fl, false⟩ = false) := (show pmOk ⟨va, fr, fl, false⟩ = false by unfold pmOk; apply decide_eq_false; intro q; simp only at q; exact h0 ⟨q.1, q.2.1⟩)
      go_enter Try.func96, Try.ntmps96
      go_wp2_with (go_at_call 45; refine Calls.mono (HV.out _) ?_; rintro r u1 ⟨rfl, hu1⟩; subst u1)
      go_ret
      exact ⟨ret_bool E.out.symm, HB.out⟩
    rw [hv] at HV
    have h0 : 0 ≤ va ∧ va < 262144 := by simpa using hv
    clear hv
    have ht : va.tmod 256 = va % 256 := Int.tmod_eq_emod_of_nonneg h0.1
    by_cases h3 : va % 256 = 0
    · by_cases h4 : fr < 0
      · have E : Hid (pmOk ⟨va, fr, fl, false⟩ = false) := (show pmOk ⟨va, fr, fl, false⟩ = false by unfold pmOk; apply decide_eq_false; intro q; simp only at q; omega)
        go_enter Try.func96, Try.ntmps96
        go_wp2_with (go_at_call 45; refine Calls.mono (HV.out _) ?_; rintro r u1 ⟨rfl, hu1⟩; subst u1)
        go_ret
        exact ⟨ret_bool E.out.symm, HB.out⟩
      by_cases h5 : 1024 ≤ fr
      · have E : Hid (pmOk ⟨va, fr, fl, false⟩ = false) := (show pmOk ⟨va, fr, fl, false⟩ = false by unfold pmOk; apply decide_eq_false; intro q; simp only at q; omega)
        go_enter Try.func96, Try.ntmps96
        go_wp2_with (go_at_call 45; refine Calls.mono (HV.out _) ?_; rintro r u1 ⟨rfl, hu1⟩; subst u1)
        go_ret
        exact ⟨ret_bool E.out.symm, HB.out⟩
      have hf : fr.tmod 1 = fr % 1 := Int.tmod_eq_emod_of_nonneg (by omega)
      have h6 : fr % 1 = 0 := by omega
      by_cases h8 : bits .and .i64 fl 158 = fl
      · have h9 : bits .andNot .i64 fl 158 = 0 := HN.out.2 h8
        have H8 : Hid (bits .and .i64 fl 158 = fl) := h8
        clear h8
        by_cases h7 : bits .and .i64 fl 14 = 0
        · have E : Hid (pmOk ⟨va, fr, fl, false⟩ = false) := (show pmOk ⟨va, fr, fl, false⟩ = false by unfold pmOk; apply decide_eq_false; intro q; simp only at q; exact q.2.2.2.2.2.2.1 h7)
          go_enter Try.func96, Try.ntmps96
          go_wp2_with (go_at_call 45; refine Calls.mono (HV.out _) ?_; rintro r u1 ⟨rfl, hu1⟩; subst u1)
          go_ret
          exact ⟨ret_bool E.out.symm, HB.out⟩
        · have h7b : (bits .and .i64 fl 14 != 0) = true := by simpa using h7
          have E : Hid (pmOk ⟨va, fr, fl, false⟩ = true) := (show pmOk ⟨va, fr, fl, false⟩ = true by unfold pmOk; apply decide_eq_true; simp only; exact ⟨h0.1, h0.2, by simpa using h3, by omega, by omega, (fun q => by cases q), h7, H8.out⟩)
          go_enter Try.func96, Try.ntmps96
          go_wp2_with (go_at_call 45; refine Calls.mono (HV.out _) ?_; rintro r u1 ⟨rfl, hu1⟩; subst u1)
          go_ret
          exact ⟨ret_bool E.out.symm, HB.out⟩
      · have h9 : (bits .andNot .i64 fl 158 == 0) = false := by simpa using fun q => h8 (HN.out.1 q)
        have H8 : Hid (¬ bits .and .i64 fl 158 = fl) := h8
        clear h8
        have E : Hid (pmOk ⟨va, fr, fl, false⟩ = false) := (show pmOk ⟨va, fr, fl, false⟩ = false by unfold pmOk; apply decide_eq_false; intro q; simp only at q; exact H8.out q.2.2.2.2.2.2.2)
        go_enter Try.func96, Try.ntmps96
        go_wp2_with (go_at_call 45; refine Calls.mono (HV.out _) ?_; rintro r u1 ⟨rfl, hu1⟩; subst u1)
        go_ret
        exact ⟨ret_bool E.out.symm, HB.out⟩
    · have E : Hid (pmOk ⟨va, fr, fl, false⟩ = false) := (show pmOk ⟨va, fr, fl, false⟩ = false by unfold pmOk; apply decide_eq_false; intro q; simp only at q; exact h3 (by simpa using q.2.2.1))
      go_enter Try.func96, Try.ntmps96
      go_wp2_with (go_at_call 45; refine Calls.mono (HV.out _) ?_; rintro r u1 ⟨rfl, hu1⟩; subst u1)
      go_ret
      exact ⟨ret_bool E.out.symm, HB.out⟩
  · have hv : (decide (0 ≤ va) && decide (va < 262144)) = false ∨ (decide (0 ≤ va) && decide (va < 262144)) = true := by cases (decide (0 ≤ va) && decide (va < 262144)) <;> simp
    rcases hv with hv | hv
    · rw [hv] at HV
      have h0 : ¬ (0 ≤ va ∧ va < 262144) := by simpa using hv
      clear hv
      have E : Hid (pmOk ⟨va, fr, fl, true⟩ = false) := (show pmOk ⟨va, fr, fl, true⟩ = false by unfold pmOk; apply decide_eq_false; intro q; simp only at q; exact h0 ⟨q.1, q.2.1⟩)
      go_enter Try.func96, Try.ntmps96
      go_wp2_with (go_at_call 45; refine Calls.mono (HV.out _) ?_; rintro r u1 ⟨rfl, hu1⟩; subst u1)
      go_ret
      exact ⟨ret_bool E.out.symm, HB.out⟩
    rw [hv] at HV
    have h0 : 0 ≤ va ∧ va < 262144 := by simpa using hv
    clear hv
    have ht : va.tmod 8192 = va % 8192 := Int.tmod_eq_emod_of_nonneg h0.1
    by_cases h3 : va % 8192 = 0
    · by_cases h4 : fr < 0
      · have E : Hid (pmOk ⟨va, fr, fl, true⟩ = false) := (show pmOk ⟨va, fr, fl, true⟩ = false by unfold pmOk; apply decide_eq_false; intro q; simp only at q; omega)
        go_enter Try.func96, Try.ntmps96
        go_wp2_with (go_at_call 45; refine Calls.mono (HV.out _) ?_; rintro r u1 ⟨rfl, hu1⟩; subst u1)
        go_ret
        exact ⟨ret_bool E.out.symm, HB.out⟩
      by_cases h5 : 1024 ≤ fr
      · have E : Hid (pmOk ⟨va, fr, fl, true⟩ = false) := (show pmOk ⟨va, fr, fl, true⟩ = false by unfold pmOk; apply decide_eq_false; intro q; simp only at q; omega)
        go_enter Try.func96, Try.ntmps96
        go_wp2_with (go_at_call 45; refine Calls.mono (HV.out _) ?_; rintro r u1 ⟨rfl, hu1⟩; subst u1)
        go_ret
        exact ⟨ret_bool E.out.symm, HB.out⟩
      have hf : fr.tmod 32 = fr % 32 := Int.tmod_eq_emod_of_nonneg (by omega)
      by_cases h6 : fr % 32 = 0
      · by_cases h8 : bits .and .i64 fl 158 = fl
        · have h9 : bits .andNot .i64 fl 158 = 0 := HN.out.2 h8
          have H8 : Hid (bits .and .i64 fl 158 = fl) := h8
          clear h8
          by_cases h7 : bits .and .i64 fl 14 = 0
          · have E : Hid (pmOk ⟨va, fr, fl, true⟩ = false) := (show pmOk ⟨va, fr, fl, true⟩ = false by unfold pmOk; apply decide_eq_false; intro q; simp only at q; exact q.2.2.2.2.2.2.1 h7)
            go_enter Try.func96, Try.ntmps96
            go_wp2_with (go_at_call 45; refine Calls.mono (HV.out _) ?_; rintro r u1 ⟨rfl, hu1⟩; subst u1)
            go_ret
            exact ⟨ret_bool E.out.symm, HB.out⟩
          · have h7b : (bits .and .i64 fl 14 != 0) = true := by simpa using h7
            have E : Hid (pmOk ⟨va, fr, fl, true⟩ = true) := (show pmOk ⟨va, fr, fl, true⟩ = true by unfold pmOk; apply decide_eq_true; simp only; exact ⟨h0.1, h0.2, by simpa using h3, by omega, by omega, (fun _ => h6), h7, H8.out⟩)
            go_enter Try.func96, Try.ntmps96
            go_wp2_with (go_at_call 45; refine Calls.mono (HV.out _) ?_; rintro r u1 ⟨rfl, hu1⟩; subst u1)
            go_ret
            exact ⟨ret_bool E.out.symm, HB.out⟩
        · have h9 : (bits .andNot .i64 fl 158 == 0) = false := by simpa using fun q => h8 (HN.out.1 q)
          have H8 : Hid (¬ bits .and .i64 fl 158 = fl) := h8
          clear h8
          have E : Hid (pmOk ⟨va, fr, fl, true⟩ = false) := (show pmOk ⟨va, fr, fl, true⟩ = false by unfold pmOk; apply decide_eq_false; intro q; simp only at q; exact H8.out q.2.2.2.2.2.2.2)
          go_enter Try.func96, Try.ntmps96
          go_wp2_with (go_at_call 45; refine Calls.mono (HV.out _) ?_; rintro r u1 ⟨rfl, hu1⟩; subst u1)
          go_ret
          exact ⟨ret_bool E.out.symm, HB.out⟩
      · have h6b : (fr % 32 != 0) = true := by simpa using h6
        have H6 : Hid (¬ fr % 32 = 0) := h6
        clear h6
        have E : Hid (pmOk ⟨va, fr, fl, true⟩ = false) := (show pmOk ⟨va, fr, fl, true⟩ = false by unfold pmOk; apply decide_eq_false; intro q; simp only at q; exact H6.out (q.2.2.2.2.2.1 (by trivial)))
        go_enter Try.func96, Try.ntmps96
        go_wp2_with (go_at_call 45; refine Calls.mono (HV.out _) ?_; rintro r u1 ⟨rfl, hu1⟩; subst u1)
        go_ret
        exact ⟨ret_bool E.out.symm, HB.out⟩
    · have E : Hid (pmOk ⟨va, fr, fl, true⟩ = false) := (show pmOk ⟨va, fr, fl, true⟩ = false by unfold pmOk; apply decide_eq_false; intro q; simp only at q; exact h3 (by simpa using q.2.2.1))
      go_enter Try.func96, Try.ntmps96
      go_wp2_with (go_at_call 45; refine Calls.mono (HV.out _) ?_; rintro r u1 ⟨rfl, hu1⟩; subst u1)
      go_ret
      exact ⟨ret_bool E.out.symm, HB.out⟩
end Go.Proofs.Ytfagohdmepnkkaa
