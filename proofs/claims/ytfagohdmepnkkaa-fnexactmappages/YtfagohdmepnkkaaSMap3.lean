import Derived.Test.YtfagohdmepnkkaaSMap2
namespace Go.Proofs.Ytfagohdmepnkkaa
open Go.ChangeShapes Go.WideShapes Go.ChangeAt Go.RowKit

set_option maxRecDepth 100000 in
set_option maxHeartbeats 4000000 in
theorem l03Map_s9 (mem : ByteArray) (root : Nat) (m : PM) (ao : Option Addr) (n cap : Nat) (w : World) (hs : mem.size ≤ 65536) (hr : root * 256 + 256 ≤ mem.size) (h : pmOk m = true) (hlg : m.large = false) (he : wv mem (atM root m) % 2 = 1) (hex : ¬ wv mem (atM root m) / 2 % 8 = 0) : MapAns 54 mem root m (.slice ao n cap) mem (.slice ao n cap) 9 w := by
  obtain ⟨va, fr, fl, lg⟩ := m
  unfold MapAns pmA
  unfold pmOk at h
  simp only at h hlg he hex ⊢
  subst hlg
  obtain ⟨g1, g2, g3, g4, g5, g6, g7, g8⟩ := of_decide_eq_true h
  obtain ⟨v, rfl⟩ : ∃ v : Nat, va = (v : Int) := ⟨va.toNat, by omega⟩
  have h1 : ¬ (v : Int) < 0 := by omega
  have h2 : ¬ 262144 ≤ (v : Int) := by omega
  have ht : (v : Int).tmod 256 = (v : Int) % 256 := Int.tmod_eq_emod_of_nonneg (by omega)
  have h3 : (v : Int) % 256 = 0 := by simpa using g3
  have h4 : ¬ fr < 0 := by omega
  have h5 : ¬ 1023 < fr := by omega
  have h7 : (bits .and .i64 fl 14 == 0) = false := by simpa using g7
  have h8 : (fl != bits .and .i64 fl 158) = false := by rw [g8]; simp
  have E : Hid ((root : Int) * 256 + 4 * ((v : Int) / 8192) = ((root * 256 + 4 * (v / 8192) : Nat) : Int)) := (show (root : Int) * 256 + 4 * ((v : Int) / 8192) = ((root * 256 + 4 * (v / 8192) : Nat) : Int) by omega)
  have HAT : Hid (root * 256 + 4 * (v / 8192) + 4 ≤ mem.size) := (show root * 256 + 4 * (v / 8192) + 4 ≤ mem.size by omega)
  have HB : Hid (Below w.heap.size w (w.alloc (.cells #[.int .i64 v, .int .i64 fr, .int .i64 fl, .bool false] 101))) := (Below.refl _ _).alloc (Nat.le_refl _) _
  have e0 : atM root ⟨(v : Int), fr, fl, false⟩ = root * 256 + 4 * (v / 8192) := by simp [atM]
  rw [e0] at he hex
  obtain ⟨x, hx⟩ : ∃ x, wv mem (root * 256 + 4 * (v / 8192)) = x := ⟨_, rfl⟩
  have hxb := wv_b mem (root * 256 + 4 * (v / 8192))
  rw [hx] at he hxb hex
  have k1 : bits .and .i64 x 1 = 1 := by rw [and1 x hxb.1 (by omega)]; exact he
  have HX : Hid (wv mem (root * 256 + 4 * (v / 8192)) = x) := hx
  clear h g1 g2 g3 g7 g8 hx he
  obtain ⟨c14, k14⟩ : ∃ c, bits .and .i64 x 14 = c := ⟨_, rfl⟩
  have k15 : (c14 != 0) = true := by
    rw [and14 x hxb.1 (by omega)] at k14
    have : ¬ c14 = 0 := by omega
    simpa using this
  have HXB : Hid _ := hxb
  clear hxb
  clear g6 hex
  go_enter Try.func54, Try.ntmps54
  go_wp2_with (go_at_call 40; rw [E.out]; refine (l01Word_any _ _ _ HAT.out hs).mono ?_; rintro r u1 ⟨rfl, q, hu1⟩; subst u1; rw [HX.out])
  exact bodyPost_ret (v := .tuple #[.string mem, .slice ao n cap, .int .i64 9]) (by simp [results, Try.results54, go_sem]) rfl ⟨rfl, bdn HB.out _⟩
set_option maxRecDepth 100000 in
set_option maxHeartbeats 4000000 in
theorem l03Map_c (mem : ByteArray) (root : Nat) (m : PM) (ao : Option Addr) (n cap : Nat) (w : World) (hs : mem.size ≤ 65536) (hr : root * 256 + 256 ≤ mem.size) (h : pmOk m = true) (hlg : m.large = false) (he : wv mem (atM root m) % 2 = 0) (hex : n = 0) : MapAns 54 mem root m (.slice ao n cap) mem (.slice ao n cap) 4 w := by
  obtain ⟨va, fr, fl, lg⟩ := m
  unfold MapAns pmA
  unfold pmOk at h
  simp only at h hlg he ⊢
  subst hlg
  obtain ⟨g1, g2, g3, g4, g5, g6, g7, g8⟩ := of_decide_eq_true h
  obtain ⟨v, rfl⟩ : ∃ v : Nat, va = (v : Int) := ⟨va.toNat, by omega⟩
  have h1 : ¬ (v : Int) < 0 := by omega
  have h2 : ¬ 262144 ≤ (v : Int) := by omega
  have ht : (v : Int).tmod 256 = (v : Int) % 256 := Int.tmod_eq_emod_of_nonneg (by omega)
  have h3 : (v : Int) % 256 = 0 := by simpa using g3
  have h4 : ¬ fr < 0 := by omega
  have h5 : ¬ 1023 < fr := by omega
  have h7 : (bits .and .i64 fl 14 == 0) = false := by simpa using g7
  have h8 : (fl != bits .and .i64 fl 158) = false := by rw [g8]; simp
  have E : Hid ((root : Int) * 256 + 4 * ((v : Int) / 8192) = ((root * 256 + 4 * (v / 8192) : Nat) : Int)) := (show (root : Int) * 256 + 4 * ((v : Int) / 8192) = ((root * 256 + 4 * (v / 8192) : Nat) : Int) by omega)
  have HAT : Hid (root * 256 + 4 * (v / 8192) + 4 ≤ mem.size) := (show root * 256 + 4 * (v / 8192) + 4 ≤ mem.size by omega)
  have HB : Hid (Below w.heap.size w (w.alloc (.cells #[.int .i64 v, .int .i64 fr, .int .i64 fl, .bool false] 101))) := (Below.refl _ _).alloc (Nat.le_refl _) _
  have e0 : atM root ⟨(v : Int), fr, fl, false⟩ = root * 256 + 4 * (v / 8192) := by simp [atM]
  rw [e0] at he
  obtain ⟨x, hx⟩ : ∃ x, wv mem (root * 256 + 4 * (v / 8192)) = x := ⟨_, rfl⟩
  have hxb := wv_b mem (root * 256 + 4 * (v / 8192))
  rw [hx] at he hxb
  have k1 : bits .and .i64 x 1 = 0 := by rw [and1 x hxb.1 (by omega)]; exact he
  have HX : Hid (wv mem (root * 256 + 4 * (v / 8192)) = x) := hx
  clear h g1 g2 g3 g7 g8 hx he
  subst hex
  clear g6
  go_enter Try.func54, Try.ntmps54
  go_wp2_with (go_at_call 40; rw [E.out]; refine (l01Word_any _ _ _ HAT.out hs).mono ?_; rintro r u1 ⟨rfl, q, hu1⟩; subst u1; rw [HX.out])
  exact bodyPost_ret (v := .tuple #[.string mem, .slice ao 0 cap, .int .i64 4]) (by simp [results, Try.results54, go_sem]) rfl ⟨rfl, bdn HB.out _⟩
set_option maxRecDepth 100000 in
set_option maxHeartbeats 4000000 in
theorem l03Map_t9 (mem : ByteArray) (root : Nat) (m : PM) (ao : Option Addr) (n cap : Nat) (w : World) (hs : mem.size ≤ 65536) (hr : root * 256 + 256 ≤ mem.size) (h : pmOk m = true) (hlg : m.large = false) (he : wv mem (atM root m) % 2 = 1) (hex : wv mem (atM root m) / 2 % 8 = 0) (ht9 : (mem.size : Int) < (wv mem (atM root m) / 256 + 1) * 256) : MapAns 54 mem root m (.slice ao n cap) mem (.slice ao n cap) 9 w := by
  obtain ⟨va, fr, fl, lg⟩ := m
  unfold MapAns pmA
  unfold pmOk at h
  simp only at h hlg he hex ⊢
  subst hlg
  obtain ⟨g1, g2, g3, g4, g5, g6, g7, g8⟩ := of_decide_eq_true h
  obtain ⟨v, rfl⟩ : ∃ v : Nat, va = (v : Int) := ⟨va.toNat, by omega⟩
  have h1 : ¬ (v : Int) < 0 := by omega
  have h2 : ¬ 262144 ≤ (v : Int) := by omega
  have ht : (v : Int).tmod 256 = (v : Int) % 256 := Int.tmod_eq_emod_of_nonneg (by omega)
  have h3 : (v : Int) % 256 = 0 := by simpa using g3
  have h4 : ¬ fr < 0 := by omega
  have h5 : ¬ 1023 < fr := by omega
  have h7 : (bits .and .i64 fl 14 == 0) = false := by simpa using g7
  have h8 : (fl != bits .and .i64 fl 158) = false := by rw [g8]; simp
  have E : Hid ((root : Int) * 256 + 4 * ((v : Int) / 8192) = ((root * 256 + 4 * (v / 8192) : Nat) : Int)) := (show (root : Int) * 256 + 4 * ((v : Int) / 8192) = ((root * 256 + 4 * (v / 8192) : Nat) : Int) by omega)
  have HAT : Hid (root * 256 + 4 * (v / 8192) + 4 ≤ mem.size) := (show root * 256 + 4 * (v / 8192) + 4 ≤ mem.size by omega)
  have HB : Hid (Below w.heap.size w (w.alloc (.cells #[.int .i64 v, .int .i64 fr, .int .i64 fl, .bool false] 101))) := (Below.refl _ _).alloc (Nat.le_refl _) _
  have e0 : atM root ⟨(v : Int), fr, fl, false⟩ = root * 256 + 4 * (v / 8192) := by simp [atM]
  rw [e0] at he hex
  obtain ⟨x, hx⟩ : ∃ x, wv mem (root * 256 + 4 * (v / 8192)) = x := ⟨_, rfl⟩
  have hxb := wv_b mem (root * 256 + 4 * (v / 8192))
  rw [hx] at he hxb hex
  have k1 : bits .and .i64 x 1 = 1 := by rw [and1 x hxb.1 (by omega)]; exact he
  have HX : Hid (wv mem (root * 256 + 4 * (v / 8192)) = x) := hx
  clear h g1 g2 g3 g7 g8 hx he
  rw [e0, HX.out] at ht9
  have k14 : bits .and .i64 x 14 = 0 := by rw [and14 x hxb.1 (by omega)]; omega
  have hk2 : ((v : Int) / 256).tmod 32 = (v : Int) / 256 % 32 := Int.tmod_eq_emod_of_nonneg (by omega)
  have HEN : Hid _ := fun k u => l03Entry_no mem (x / 256) k u ht9 (by omega) (by omega)
  clear g6 hex ht9
  go_enter Try.func54, Try.ntmps54
  go_wp2_with (first
    | (go_at_call 40; rw [E.out]; refine (l01Word_any _ _ _ HAT.out hs).mono ?_; rintro r u1 ⟨rfl, q, hu1⟩; subst u1; rw [HX.out])
    | (go_at_call 77; refine Calls.mono (HEN.out _ _) ?_; rintro r u2 ⟨rfl, hu2⟩; subst u2))
  exact bodyPost_ret (v := .tuple #[.string mem, .slice ao n cap, .int .i64 9]) (by simp [results, Try.results54, go_sem]) rfl ⟨rfl, bdn HB.out _⟩
set_option maxRecDepth 100000 in
set_option maxHeartbeats 4000000 in
theorem l03Map_y9 (mem : ByteArray) (root : Nat) (m : PM) (ao : Option Addr) (n cap : Nat) (w : World) (hs : mem.size ≤ 65536) (hr : root * 256 + 256 ≤ mem.size) (h : pmOk m = true) (hlg : m.large = false) (he : wv mem (atM root m) % 2 = 1) (hex : wv mem (atM root m) / 2 % 8 = 0) (ht9 : ¬ (mem.size : Int) < (wv mem (atM root m) / 256 + 1) * 256) (hy : wv mem ((wv mem (atM root m) / 256).toNat * 256 + 4 * (m.va.toNat / 256 % 32)) % 2 = 1) : MapAns 54 mem root m (.slice ao n cap) mem (.slice ao n cap) 9 w := by
  obtain ⟨va, fr, fl, lg⟩ := m
  unfold MapAns pmA
  unfold pmOk at h
  simp only at h hlg he hex ⊢
  subst hlg
  obtain ⟨g1, g2, g3, g4, g5, g6, g7, g8⟩ := of_decide_eq_true h
  obtain ⟨v, rfl⟩ : ∃ v : Nat, va = (v : Int) := ⟨va.toNat, by omega⟩
  have h1 : ¬ (v : Int) < 0 := by omega
  have h2 : ¬ 262144 ≤ (v : Int) := by omega
  have ht : (v : Int).tmod 256 = (v : Int) % 256 := Int.tmod_eq_emod_of_nonneg (by omega)
  have h3 : (v : Int) % 256 = 0 := by simpa using g3
  have h4 : ¬ fr < 0 := by omega
  have h5 : ¬ 1023 < fr := by omega
  have h7 : (bits .and .i64 fl 14 == 0) = false := by simpa using g7
  have h8 : (fl != bits .and .i64 fl 158) = false := by rw [g8]; simp
  have E : Hid ((root : Int) * 256 + 4 * ((v : Int) / 8192) = ((root * 256 + 4 * (v / 8192) : Nat) : Int)) := (show (root : Int) * 256 + 4 * ((v : Int) / 8192) = ((root * 256 + 4 * (v / 8192) : Nat) : Int) by omega)
  have HAT : Hid (root * 256 + 4 * (v / 8192) + 4 ≤ mem.size) := (show root * 256 + 4 * (v / 8192) + 4 ≤ mem.size by omega)
  have HB : Hid (Below w.heap.size w (w.alloc (.cells #[.int .i64 v, .int .i64 fr, .int .i64 fl, .bool false] 101))) := (Below.refl _ _).alloc (Nat.le_refl _) _
  have e0 : atM root ⟨(v : Int), fr, fl, false⟩ = root * 256 + 4 * (v / 8192) := by simp [atM]
  rw [e0] at he hex
  obtain ⟨x, hx⟩ : ∃ x, wv mem (root * 256 + 4 * (v / 8192)) = x := ⟨_, rfl⟩
  have hxb := wv_b mem (root * 256 + 4 * (v / 8192))
  rw [hx] at he hxb hex
  have k1 : bits .and .i64 x 1 = 1 := by rw [and1 x hxb.1 (by omega)]; exact he
  have HX : Hid (wv mem (root * 256 + 4 * (v / 8192)) = x) := hx
  clear h g1 g2 g3 g7 g8 hx he
  rw [e0, HX.out] at ht9 hy
  have k14 : bits .and .i64 x 14 = 0 := by rw [and14 x hxb.1 (by omega)]; omega
  have hk2 : ((v : Int) / 256).tmod 32 = (v : Int) / 256 % 32 := Int.tmod_eq_emod_of_nonneg (by omega)
  simp only [Int.toNat_natCast] at hy
  obtain ⟨t, rfl2⟩ : ∃ t : Nat, x / 256 = (t : Int) := ⟨(x / 256).toNat, by omega⟩
  rw [rfl2, Int.toNat_natCast] at hy
  have E2 : Hid ((v : Int) / 256 % 32 = ((v / 256 % 32 : Nat) : Int)) := (show (v : Int) / 256 % 32 = ((v / 256 % 32 : Nat) : Int) by omega)
  have HTT : Hid ((t + 1) * 256 ≤ mem.size) := (show (t + 1) * 256 ≤ mem.size by omega)
  have HKK : Hid (v / 256 % 32 ≤ 31) := (show v / 256 % 32 ≤ 31 by omega)
  obtain ⟨y, hyy⟩ : ∃ y, wv mem (t * 256 + 4 * (v / 256 % 32)) = y := ⟨_, rfl⟩
  have hyb := wv_b mem (t * 256 + 4 * (v / 256 % 32))
  rw [hyy] at hy hyb
  have HY : Hid (wv mem (t * 256 + 4 * (v / 256 % 32)) = y) := hyy
  have ky : bits .and .i64 y 1 = 1 := by rw [and1 y hyb.1 (by omega)]; exact hy
  have E3 : Hid ((t : Int) * 256 + 4 * ((v : Int) / 256 % 32) = ((t * 256 + 4 * (v / 256 % 32) : Nat) : Int)) := (show (t : Int) * 256 + 4 * ((v : Int) / 256 % 32) = ((t * 256 + 4 * (v / 256 % 32) : Nat) : Int) by omega)
  have HPL : Hid (t * 256 + 4 * (v / 256 % 32) + 4 ≤ mem.size) := (show t * 256 + 4 * (v / 256 % 32) + 4 ≤ mem.size by omega)
  have tb : (t : Int) ≤ 255 := by omega
  clear g6 hex ht9 hyy hy
  go_enter Try.func54, Try.ntmps54
  go_wp2_with (first
    | (go_at_call 40; rw [E.out]; refine (l01Word_any _ _ _ HAT.out hs).mono ?_; rintro r u1 ⟨rfl, q, hu1⟩; subst u1; rw [HX.out])
    | (go_at_call 77; rw [E2.out]; refine (l03Entry_yes mem t (v / 256 % 32) _ HTT.out HKK.out hs).mono ?_; rintro r u2 ⟨rfl, q2, hu2⟩; subst u2; rw [HY.out]))
  exact bodyPost_ret (v := .tuple #[.string mem, .slice ao n cap, .int .i64 9]) (by simp [results, Try.results54, go_sem]) rfl ⟨rfl, bdn HB.out _⟩
set_option maxRecDepth 100000 in
set_option maxHeartbeats 4000000 in
theorem l03Map_y0 (mem : ByteArray) (root : Nat) (m : PM) (ao : Option Addr) (n cap : Nat) (w : World) (hs : mem.size ≤ 65536) (hr : root * 256 + 256 ≤ mem.size) (h : pmOk m = true) (hlg : m.large = false) (he : wv mem (atM root m) % 2 = 1) (hex : wv mem (atM root m) / 2 % 8 = 0) (ht9 : ¬ (mem.size : Int) < (wv mem (atM root m) / 256 + 1) * 256) (hy : wv mem ((wv mem (atM root m) / 256).toNat * 256 + 4 * (m.va.toNat / 256 % 32)) % 2 = 0) : MapAns 54 mem root m (.slice ao n cap) (setv mem ((wv mem (atM root m) / 256).toNat * 256 + 4 * (m.va.toNat / 256 % 32)) (enM m)) (.slice ao n cap) 0 w := by
  obtain ⟨va, fr, fl, lg⟩ := m
  unfold MapAns pmA
  unfold pmOk at h
  simp only at h hlg he hex ⊢
  subst hlg
  obtain ⟨g1, g2, g3, g4, g5, g6, g7, g8⟩ := of_decide_eq_true h
  obtain ⟨v, rfl⟩ : ∃ v : Nat, va = (v : Int) := ⟨va.toNat, by omega⟩
  have h1 : ¬ (v : Int) < 0 := by omega
  have h2 : ¬ 262144 ≤ (v : Int) := by omega
  have ht : (v : Int).tmod 256 = (v : Int) % 256 := Int.tmod_eq_emod_of_nonneg (by omega)
  have h3 : (v : Int) % 256 = 0 := by simpa using g3
  have h4 : ¬ fr < 0 := by omega
  have h5 : ¬ 1023 < fr := by omega
  have h7 : (bits .and .i64 fl 14 == 0) = false := by simpa using g7
  have h8 : (fl != bits .and .i64 fl 158) = false := by rw [g8]; simp
  have E : Hid ((root : Int) * 256 + 4 * ((v : Int) / 8192) = ((root * 256 + 4 * (v / 8192) : Nat) : Int)) := (show (root : Int) * 256 + 4 * ((v : Int) / 8192) = ((root * 256 + 4 * (v / 8192) : Nat) : Int) by omega)
  have HAT : Hid (root * 256 + 4 * (v / 8192) + 4 ≤ mem.size) := (show root * 256 + 4 * (v / 8192) + 4 ≤ mem.size by omega)
  have HB : Hid (Below w.heap.size w (w.alloc (.cells #[.int .i64 v, .int .i64 fr, .int .i64 fl, .bool false] 101))) := (Below.refl _ _).alloc (Nat.le_refl _) _
  have e0 : atM root ⟨(v : Int), fr, fl, false⟩ = root * 256 + 4 * (v / 8192) := by simp [atM]
  rw [e0] at he hex
  obtain ⟨x, hx⟩ : ∃ x, wv mem (root * 256 + 4 * (v / 8192)) = x := ⟨_, rfl⟩
  have hxb := wv_b mem (root * 256 + 4 * (v / 8192))
  rw [hx] at he hxb hex
  have k1 : bits .and .i64 x 1 = 1 := by rw [and1 x hxb.1 (by omega)]; exact he
  have HX : Hid (wv mem (root * 256 + 4 * (v / 8192)) = x) := hx
  clear h g1 g2 g3 g7 g8 hx he
  rw [e0, HX.out]
  simp only [Int.toNat_natCast]
  rw [e0, HX.out] at ht9 hy
  have k14 : bits .and .i64 x 14 = 0 := by rw [and14 x hxb.1 (by omega)]; omega
  have hk2 : ((v : Int) / 256).tmod 32 = (v : Int) / 256 % 32 := Int.tmod_eq_emod_of_nonneg (by omega)
  simp only [Int.toNat_natCast] at hy
  obtain ⟨t, rfl2⟩ : ∃ t : Nat, x / 256 = (t : Int) := ⟨(x / 256).toNat, by omega⟩
  rw [rfl2, Int.toNat_natCast] at hy
  have E2 : Hid ((v : Int) / 256 % 32 = ((v / 256 % 32 : Nat) : Int)) := (show (v : Int) / 256 % 32 = ((v / 256 % 32 : Nat) : Int) by omega)
  have HTT : Hid ((t + 1) * 256 ≤ mem.size) := (show (t + 1) * 256 ≤ mem.size by omega)
  have HKK : Hid (v / 256 % 32 ≤ 31) := (show v / 256 % 32 ≤ 31 by omega)
  obtain ⟨y, hyy⟩ : ∃ y, wv mem (t * 256 + 4 * (v / 256 % 32)) = y := ⟨_, rfl⟩
  have hyb := wv_b mem (t * 256 + 4 * (v / 256 % 32))
  rw [hyy] at hy hyb
  have HY : Hid (wv mem (t * 256 + 4 * (v / 256 % 32)) = y) := hyy
  have ky : bits .and .i64 y 1 = 0 := by rw [and1 y hyb.1 (by omega)]; exact hy
  have E3 : Hid ((t : Int) * 256 + 4 * ((v : Int) / 256 % 32) = ((t * 256 + 4 * (v / 256 % 32) : Nat) : Int)) := (show (t : Int) * 256 + 4 * ((v : Int) / 256 % 32) = ((t * 256 + 4 * (v / 256 % 32) : Nat) : Int) by omega)
  have HPL : Hid (t * 256 + 4 * (v / 256 % 32) + 4 ≤ mem.size) := (show t * 256 + 4 * (v / 256 % 32) + 4 ≤ mem.size by omega)
  have tb : (t : Int) ≤ 255 := by omega
  clear g6 hex ht9 hyy hy
  rw [rfl2, Int.toNat_natCast]
  have ENM : Hid (enM ⟨(v : Int), fr, fl, false⟩ = bits .or .i64 (bits .or .i64 (fr * 256) fl) 1) := rfl
  rw [ENM.out]
  go_enter Try.func54, Try.ntmps54
  go_wp2_with (first
    | (go_at_call 40; rw [E.out]; refine (l01Word_any _ _ _ HAT.out hs).mono ?_; rintro r u1 ⟨rfl, q, hu1⟩; subst u1; rw [HX.out])
    | (go_at_call 77; rw [E2.out]; refine (l03Entry_yes mem t (v / 256 % 32) _ HTT.out HKK.out hs).mono ?_; rintro r u2 ⟨rfl, q2, hu2⟩; subst u2; rw [HY.out])
    | (go_at_call 42; go_loud (rw [E3.out]; refine (specSetWord_yes _ _ _ _ HPL.out hs).mono ?_; rintro r u3 ⟨rfl, hu3⟩; have HB3 : Hid (Below w.heap.size w u3) := (bdn HB.out (q + q2)).trans (hu3.mono (bdn HB.out (q + q2)).size); clear hu3)))
  exact bodyPost_ret (v := .tuple #[.string (setv mem (t * 256 + 4 * (v / 256 % 32)) (bits .or .i64 (bits .or .i64 (fr * 256) fl) 1)), .slice ao n cap, .int .i64 0]) (by simp [results, Try.results54, go_sem]) rfl ⟨rfl, HB3.out⟩
end Go.Proofs.Ytfagohdmepnkkaa
