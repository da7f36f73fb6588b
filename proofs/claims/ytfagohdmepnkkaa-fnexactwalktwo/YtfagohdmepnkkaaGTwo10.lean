import Derived.Test.YtfagohdmepnkkaaGTwo3
namespace Go.Proofs.Ytfagohdmepnkkaa
open Go.ChangeShapes Go.WideShapes Go.ChangeAt Go.RowKit

set_option maxRecDepth 100000 in
set_option maxHeartbeats 4000000 in
theorem findG_good {w0 wr : World} {b G B n : Nat} {va : Nat} {acc : Int} {user : Bool} {e : Int} {k : Nat} {lg : Bool} {zs : List Int} {mem : ByteArray} {y : GS} (root : Nat) (Q : Int → World → Prop) (hfe : Hid (Calls Try.prog 91 #[.pointer (some ⟨B, 0, none⟩), .int .i64 root] wr fun ed u => ed = .returned (.int .i64 0) ∧ ∃ rv' pa, GW w0 b G B n mem y u rv' zs ⟨va, acc, user, (k : Int), e, lg, pa⟩)) (e0 : 0 ≤ e) (e1 : e ≤ 4294967295) (hv : va ≤ 262143) (a1 : 1 ≤ acc) (a2 : acc ≤ 3) (hg : goodV e acc user lg = true) (hp : pgV e va lg < 1024)
    (HPut : Hid (∀ u rv', GW w0 b G B n mem y u rv' zs ⟨va, acc, user, (k : Int), e, lg, pgV e va lg * 256 + (va : Int) % 256⟩ → Calls Try.prog 94 #[.pointer (some ⟨B, 0, none⟩)] u fun ed u' => ∃ c, ed = .returned (.int .i64 c) ∧ Q c u')) :
    Calls Try.prog 48 #[.pointer (some ⟨B, 0, none⟩), .int .i64 root] wr fun ed u => ∃ c, ed = .returned (.int .i64 c) ∧ Q c u := by
  obtain ⟨p0, p1⟩ := pgV_b e va lg e0 e1
  obtain ⟨p, hpp⟩ : ∃ p, pgV e va lg = p := ⟨_, rfl⟩
  have HPg : Hid (pgV e va lg = p) := hpp
  rw [hpp] at p0 p1 hp HPut
  have hh := fun w => guestHolds_any G p w
  rw [show decide (p < 1024) = true by simpa using hp] at hh
  have m1 := mHoldsG G
  have hva : (va : Int) % 256 ≤ 255 := by omega
  have hwr : IntKind.i64.wrap (p * 256) = p * 256 := by rw [IntKind.wrap_i64]; omega
  have hwr2 : IntKind.i64.wrap (p * 256 + (va : Int) % 256) = p * 256 + (va : Int) % 256 := by rw [IntKind.wrap_i64]; omega
  have htm : (va : Int).tmod 256 = (va : Int) % 256 := Int.tmod_eq_emod_of_nonneg (by omega)
  have V : Hid (va ≤ 262143) := hv
  clear hpp hv
  go_enter Try.func48, Try.ntmps48
  go_wp2_with (first | (go_at_call 91; refine Calls.mono hfe.out ?_; rintro ed u ⟨rfl, rv1, pa1, hst⟩; have H1 : Hid _ := hst; clear hst) | (go_at_call 92; refine (isLet_any B _ _ _ _ H1.out.box e0 e1 a1 a2).mono ?_; rintro ed u2 ⟨rfl, hu2⟩; have H2 : Hid _ := H1.out.below hu2; obtain ⟨c0, c1, c2, c3, c4, c5, c6, c7, c8, cf⟩ := H2.out.box.cells; simp only at c0 c1 c2 c3 c4 c5 c6 c8; clear hu2))
  have hpg0 := fun q => page_any B _ _ _ _ (H2.out.below (bdn (Below.refl _ _) q)).box e0 e1 V.out
  simp only at hpg0
  rw [HPg.out] at hpg0
  have hpg : Hid _ := hpg0
  clear hpg0
  go_quiet (first | (go_at_call 93; exact Calls.quiet_of (hpg.out _)) | (go_at_call 148; exact Calls.quiet_of_same (hh _)))
  go_wp2
  have HPG0 := fun u (hu : Below u2.heap.size u2 u) => page_any B _ _ _ u (H2.out.below hu).box e0 e1 V.out
  simp only at HPG0
  rw [HPg.out] at HPG0
  have HPG : Hid _ := HPG0
  have HV2 : Hid _ := fun u (hu : Below u2.heap.size u2 u) => H2.out.below hu
  clear HPG0
  go_region_with (go_at_call 93; refine Calls.mono (HPG.out _ (by exact ⟨rfl, rfl, rfl, Nat.le_refl _, fun _ _ => rfl⟩)) ?_; rintro ed u4 ⟨rfl, q4, hu4⟩; have H4 : Hid _ := HV2.out u4 (by rw [hu4]; exact ⟨rfl, rfl, rfl, Nat.le_refl _, fun _ _ => rfl⟩); obtain ⟨k0, k1, k2, k3, k4, k5, k6, k7, k8, kf⟩ := H4.out.box.cells; simp only at k0 k1 k2 k3 k4 k5 k6 k8; clear hu4 c0 c1 c2 c3 c4 c5 c6 c7 c8 cf)
  all_goals
    go_wp2_with (go_at_call 94; refine Calls.mono (HPut.out _ _ (H4.out.set 8 _ (H4.out.box.put8 _))) ?_; rintro ed u6 ⟨c, rfl, hq⟩; have HQ : Hid _ := hq; clear hq)
    go_ret
    exact ⟨_, rfl, HQ.out⟩
set_option maxRecDepth 100000 in
set_option maxHeartbeats 4000000 in
theorem findG_access {w0 wr : World} {b G B n : Nat} {va : Nat} {acc : Int} {user : Bool} {e : Int} {k : Nat} {lg : Bool} {zs : List Int} {mem : ByteArray} {y : GS} (root : Nat) (hfe : Hid (Calls Try.prog 91 #[.pointer (some ⟨B, 0, none⟩), .int .i64 root] wr fun ed u => ed = .returned (.int .i64 0) ∧ ∃ rv' pa, GW w0 b G B n mem y u rv' zs ⟨va, acc, user, (k : Int), e, lg, pa⟩)) (e0 : 0 ≤ e) (e1 : e ≤ 4294967295) (hv : va ≤ 262143) (a1 : 1 ≤ acc) (a2 : acc ≤ 3) (hg : goodV e acc user lg = true) (hp : ¬ pgV e va lg < 1024) :
    Calls Try.prog 48 #[.pointer (some ⟨B, 0, none⟩), .int .i64 root] wr fun ed u => ed = .returned (.int .i64 2) ∧ ∃ rv' pa, GW w0 b G B n mem y u rv' zs ⟨va, acc, user, (k : Int), e, lg, pa⟩ := by
  obtain ⟨p0, p1⟩ := pgV_b e va lg e0 e1
  obtain ⟨p, hpp⟩ : ∃ p, pgV e va lg = p := ⟨_, rfl⟩
  have HPg : Hid (pgV e va lg = p) := hpp
  rw [hpp] at p0 p1 hp
  have hh := fun w => guestHolds_any G p w
  rw [show decide (p < 1024) = false by simpa using hp] at hh
  have m1 := mHoldsG G
  have V : Hid (va ≤ 262143) := hv
  clear hpp hv
  go_enter Try.func48, Try.ntmps48
  go_wp2_with (first | (go_at_call 91; refine Calls.mono hfe.out ?_; rintro ed u ⟨rfl, rv1, pa1, hst⟩; have H1 : Hid _ := hst; clear hst) | (go_at_call 92; refine (isLet_any B _ _ _ _ H1.out.box e0 e1 a1 a2).mono ?_; rintro ed u2 ⟨rfl, hu2⟩; have H2 : Hid _ := H1.out.below hu2; obtain ⟨c0, c1, c2, c3, c4, c5, c6, c7, c8, cf⟩ := H2.out.box.cells; simp only at c0 c1 c2 c3 c4 c5 c6 c8; clear hu2))
  have hpg0 := fun q => page_any B _ _ _ _ (H2.out.below (bdn (Below.refl _ _) q)).box e0 e1 V.out
  simp only at hpg0
  rw [HPg.out] at hpg0
  have hpg : Hid _ := hpg0
  clear hpg0
  go_quiet (first | (go_at_call 93; exact Calls.quiet_of (hpg.out _)) | (go_at_call 148; exact Calls.quiet_of_same (hh _)))
  go_wp2
  go_ret
  exact ⟨rfl, _, _, H2.out.below (bdn (Below.refl _ _) nq)⟩
set_option maxRecDepth 100000 in
set_option maxHeartbeats 4000000 in
theorem findG_page {w0 wr : World} {b G B n : Nat} {va : Nat} {acc : Int} {user : Bool} {e : Int} {k : Nat} {lg : Bool} {zs : List Int} {mem : ByteArray} {y : GS} (root : Nat) (hfe : Hid (Calls Try.prog 91 #[.pointer (some ⟨B, 0, none⟩), .int .i64 root] wr fun ed u => ed = .returned (.int .i64 0) ∧ ∃ rv' pa, GW w0 b G B n mem y u rv' zs ⟨va, acc, user, (k : Int), e, lg, pa⟩)) (e0 : 0 ≤ e) (e1 : e ≤ 4294967295) (hv : va ≤ 262143) (a1 : 1 ≤ acc) (a2 : acc ≤ 3) (hg : goodV e acc user lg = false) :
    Calls Try.prog 48 #[.pointer (some ⟨B, 0, none⟩), .int .i64 root] wr fun ed u => ed = .returned (.int .i64 1) ∧ ∃ rv' pa, GW w0 b G B n mem y u rv' zs ⟨va, acc, user, (k : Int), e, lg, pa⟩ := by
  have V : Hid (va ≤ 262143) := hv
  clear hv
  go_enter Try.func48, Try.ntmps48
  go_wp2_with (first | (go_at_call 91; refine Calls.mono hfe.out ?_; rintro ed u ⟨rfl, rv1, pa1, hst⟩; have H1 : Hid _ := hst; clear hst) | (go_at_call 92; refine (isLet_any B _ _ _ _ H1.out.box e0 e1 a1 a2).mono ?_; rintro ed u2 ⟨rfl, hu2⟩; have H2 : Hid _ := H1.out.below hu2; obtain ⟨c0, c1, c2, c3, c4, c5, c6, c7, c8, cf⟩ := H2.out.box.cells; simp only at c0 c1 c2 c3 c4 c5 c6 c8; clear hu2))
  go_ret
  exact ⟨rfl, _, _, H2.out⟩
set_option maxRecDepth 100000 in
set_option maxHeartbeats 4000000 in
theorem findG_bad {wr : World} {B : Nat} (root : Nat) (c : Int) (Q : World → Prop) (hc : ¬ c = 0) (hfe : Hid (Calls Try.prog 91 #[.pointer (some ⟨B, 0, none⟩), .int .i64 root] wr fun ed u => ed = .returned (.int .i64 c) ∧ Q u)) :
    Calls Try.prog 48 #[.pointer (some ⟨B, 0, none⟩), .int .i64 root] wr fun ed u => ed = .returned (.int .i64 c) ∧ Q u := by
  have hc2 : (c != 0) = true := by simpa using hc
  go_enter Try.func48, Try.ntmps48
  go_wp2_with (go_at_call 91; refine Calls.mono hfe.out ?_; rintro ed u ⟨rfl, hst⟩; have H1 : Hid _ := hst; clear hst)
  go_ret
  exact ⟨rfl, H1.out⟩
end Go.Proofs.Ytfagohdmepnkkaa
