import Derived.Test.YtfagohdmepnkkaaGp1
namespace Go.Proofs.Ytfagohdmepnkkaa
open Go.ChangeShapes Go.WideShapes Go.ChangeAt Go.RowKit

theorem isWord_any (x : Int) (w : World) : Calls Try.prog 65 #[.int .i64 x] w fun e w' => e = .returned (.bool (wdB x)) ∧ w' = w := by
  by_cases h1 : 0 ≤ x
  · have E : Hid (decide (x < 4294967296) = wdB x) := by
      show _ = wdB x
      unfold wdB
      exact decide_eq_decide.2 (by omega)
    go_enter Try.func65, Try.ntmps65
    go_wp2
    go_ret
    exact ⟨ret_bool E.out, rfl⟩
  · have E : Hid (wdB x = false) := by
      show wdB x = false
      simp [wdB]
      omega
    go_enter Try.func65, Try.ntmps65
    go_wp2
    go_ret
    exact ⟨ret_bool E.out.symm, rfl⟩
theorem setW (s : ByteArray) (k : Nat) (y n : Int) (w : World) (hy : y = k) (h : k + 4 ≤ s.size) (hs : s.size ≤ 65536) :
    Calls Try.prog 42 #[.string s, .int .i64 y, .int .i64 n] w fun e w' => e = .returned (.string (setv s k n)) ∧ Below w.heap.size w w' := hy ▸ specSetWord_yes s k n w h hs
set_option maxRecDepth 100000 in
set_option maxHeartbeats 4000000 in
theorem specGive_long (s : ByteArray) (p : PV) (id size count : Int) (w : World) (h : 65536 < s.size) :
    Calls Try.prog 23 #[.string s, pA p, .int .i64 id, .int .i64 size, .int .i64 count] w fun e w' => e = .returned (gpA 2 ⟨#[]⟩ p0) ∧ Below w.heap.size w w' := by
  have hd : decide (65536 < (s.size : Int)) = true := decide_eq_true (by omega)
  obtain ⟨sz, rg, ps, wr⟩ := p
  unfold pA gpA p0
  clear h
  go_enter Try.func23, Try.ntmps23
  go_wp2_with fail
  refine bodyPost_ret (v := .agg #[.int .i64 2, .string ⟨#[]⟩, .int .i64 0, .int .i64 0, .int .i64 0, .bool false]) ?_ rfl ⟨rfl, ?_⟩
  · simp [results, Try.results23, go_sem]
  · exact (bx1 _ _).alloc (by simp) _
set_option maxRecDepth 100000 in
set_option maxHeartbeats 4000000 in
theorem specGive_form (s : ByteArray) (p : PV) (id size count : Int) (w : World) (h : ¬ 65536 < s.size) (h1 : (pOk s p && gpB p id size count) = false) :
    Calls Try.prog 23 #[.string s, pA p, .int .i64 id, .int .i64 size, .int .i64 count] w fun e w' => e = .returned (gpA 1 ⟨#[]⟩ p0) ∧ Below w.heap.size w w' := by
  have hd : decide (65536 < (s.size : Int)) = false := decide_eq_false (by omega)
  have HP : Hid _ := fun u => specPackedFault_any s p u (by omega)
  have HI : Hid _ := fun u => isWord_any size u
  clear h
  cases hp : pOk s p
  · rw [pF_no hp] at HP
    clear hp h1
    obtain ⟨sz, rg, ps, wr⟩ := p
    unfold pA at HP ⊢
    unfold gpA p0
    go_enter Try.func23, Try.ntmps23
    go_wp2_with (first | (go_at_call 64; refine Calls.mono (HP.out _) ?_; rintro e u1 ⟨rfl, hu1⟩; have HX1 : Hid _ := TwoBx.of _ _ _ _ _ hu1; clear hu1; have g0 := HX1.out.c1 0 _ rfl; have g1 := HX1.out.c1 1 _ rfl; have g2 := HX1.out.c1 2 _ rfl; have g3 := HX1.out.c1 3 _ rfl; have r0 := HX1.out.c2 0 _ rfl; have r1 := HX1.out.c2 1 _ rfl; have r2 := HX1.out.c2 2 _ rfl; have r3 := HX1.out.c2 3 _ rfl; have r4 := HX1.out.c2 4 _ rfl; have r5 := HX1.out.c2 5 _ rfl; have gf := fun k => HX1.out.f1 k; have rf := fun k => HX1.out.f2 k; have glt := HX1.out.lt) | (go_at_call 65; refine Calls.mono (HI.out _) ?_; rintro e u2 ⟨rfl, hu2⟩; rw [hu2]; clear hu2))
    refine bodyPost_ret (v := .agg #[.int .i64 1, .string ⟨#[]⟩, .int .i64 0, .int .i64 0, .int .i64 0, .bool false]) ?_ rfl ⟨rfl, ?_⟩
    · simp [results, Try.results23, go_sem, r0, r1, r2, r3, r4, r5]
    · exact (((((HX1.out.bel.setCell (by simp) _).setCell (by simp) _).setCell (by simp) _).setCell (by simp) _).setCell (by simp) _).setCell (by simp) _
  rw [hp, Bool.true_and] at h1
  rw [pF_ok hp] at HP
  clear hp
  obtain ⟨sz, rg, ps, wr⟩ := p
  unfold pA at HP ⊢
  unfold gpA p0
  by_cases k1 : id < 0
  · clear h1
    go_enter Try.func23, Try.ntmps23
    go_wp2_with (first | (go_at_call 64; refine Calls.mono (HP.out _) ?_; rintro e u1 ⟨rfl, hu1⟩; have HX1 : Hid _ := TwoBx.of _ _ _ _ _ hu1; clear hu1; have g0 := HX1.out.c1 0 _ rfl; have g1 := HX1.out.c1 1 _ rfl; have g2 := HX1.out.c1 2 _ rfl; have g3 := HX1.out.c1 3 _ rfl; have r0 := HX1.out.c2 0 _ rfl; have r1 := HX1.out.c2 1 _ rfl; have r2 := HX1.out.c2 2 _ rfl; have r3 := HX1.out.c2 3 _ rfl; have r4 := HX1.out.c2 4 _ rfl; have r5 := HX1.out.c2 5 _ rfl; have gf := fun k => HX1.out.f1 k; have rf := fun k => HX1.out.f2 k; have glt := HX1.out.lt) | (go_at_call 65; refine Calls.mono (HI.out _) ?_; rintro e u2 ⟨rfl, hu2⟩; rw [hu2]; clear hu2))
    refine bodyPost_ret (v := .agg #[.int .i64 1, .string ⟨#[]⟩, .int .i64 0, .int .i64 0, .int .i64 0, .bool false]) ?_ rfl ⟨rfl, ?_⟩
    · simp [results, Try.results23, go_sem, r0, r1, r2, r3, r4, r5]
    · exact (((((HX1.out.bel.setCell (by simp) _).setCell (by simp) _).setCell (by simp) _).setCell (by simp) _).setCell (by simp) _).setCell (by simp) _
  by_cases k2 : 65535 < id
  · clear h1
    go_enter Try.func23, Try.ntmps23
    go_wp2_with (first | (go_at_call 64; refine Calls.mono (HP.out _) ?_; rintro e u1 ⟨rfl, hu1⟩; have HX1 : Hid _ := TwoBx.of _ _ _ _ _ hu1; clear hu1; have g0 := HX1.out.c1 0 _ rfl; have g1 := HX1.out.c1 1 _ rfl; have g2 := HX1.out.c1 2 _ rfl; have g3 := HX1.out.c1 3 _ rfl; have r0 := HX1.out.c2 0 _ rfl; have r1 := HX1.out.c2 1 _ rfl; have r2 := HX1.out.c2 2 _ rfl; have r3 := HX1.out.c2 3 _ rfl; have r4 := HX1.out.c2 4 _ rfl; have r5 := HX1.out.c2 5 _ rfl; have gf := fun k => HX1.out.f1 k; have rf := fun k => HX1.out.f2 k; have glt := HX1.out.lt) | (go_at_call 65; refine Calls.mono (HI.out _) ?_; rintro e u2 ⟨rfl, hu2⟩; rw [hu2]; clear hu2))
    refine bodyPost_ret (v := .agg #[.int .i64 1, .string ⟨#[]⟩, .int .i64 0, .int .i64 0, .int .i64 0, .bool false]) ?_ rfl ⟨rfl, ?_⟩
    · simp [results, Try.results23, go_sem, r0, r1, r2, r3, r4, r5]
    · exact (((((HX1.out.bel.setCell (by simp) _).setCell (by simp) _).setCell (by simp) _).setCell (by simp) _).setCell (by simp) _).setCell (by simp) _
  cases k3 : wdB size
  · rw [k3] at HI
    clear h1 k3
    go_enter Try.func23, Try.ntmps23
    go_wp2_with (first | (go_at_call 64; refine Calls.mono (HP.out _) ?_; rintro e u1 ⟨rfl, hu1⟩; have HX1 : Hid _ := TwoBx.of _ _ _ _ _ hu1; clear hu1; have g0 := HX1.out.c1 0 _ rfl; have g1 := HX1.out.c1 1 _ rfl; have g2 := HX1.out.c1 2 _ rfl; have g3 := HX1.out.c1 3 _ rfl; have r0 := HX1.out.c2 0 _ rfl; have r1 := HX1.out.c2 1 _ rfl; have r2 := HX1.out.c2 2 _ rfl; have r3 := HX1.out.c2 3 _ rfl; have r4 := HX1.out.c2 4 _ rfl; have r5 := HX1.out.c2 5 _ rfl; have gf := fun k => HX1.out.f1 k; have rf := fun k => HX1.out.f2 k; have glt := HX1.out.lt) | (go_at_call 65; refine Calls.mono (HI.out _) ?_; rintro e u2 ⟨rfl, hu2⟩; rw [hu2]; clear hu2))
    refine bodyPost_ret (v := .agg #[.int .i64 1, .string ⟨#[]⟩, .int .i64 0, .int .i64 0, .int .i64 0, .bool false]) ?_ rfl ⟨rfl, ?_⟩
    · simp [results, Try.results23, go_sem, r0, r1, r2, r3, r4, r5]
    · exact (((((HX1.out.bel.setCell (by simp) _).setCell (by simp) _).setCell (by simp) _).setCell (by simp) _).setCell (by simp) _).setCell (by simp) _
  rw [k3] at HI
  by_cases k4 : count < 1
  · clear h1 k3
    go_enter Try.func23, Try.ntmps23
    go_wp2_with (first | (go_at_call 64; refine Calls.mono (HP.out _) ?_; rintro e u1 ⟨rfl, hu1⟩; have HX1 : Hid _ := TwoBx.of _ _ _ _ _ hu1; clear hu1; have g0 := HX1.out.c1 0 _ rfl; have g1 := HX1.out.c1 1 _ rfl; have g2 := HX1.out.c1 2 _ rfl; have g3 := HX1.out.c1 3 _ rfl; have r0 := HX1.out.c2 0 _ rfl; have r1 := HX1.out.c2 1 _ rfl; have r2 := HX1.out.c2 2 _ rfl; have r3 := HX1.out.c2 3 _ rfl; have r4 := HX1.out.c2 4 _ rfl; have r5 := HX1.out.c2 5 _ rfl; have gf := fun k => HX1.out.f1 k; have rf := fun k => HX1.out.f2 k; have glt := HX1.out.lt) | (go_at_call 65; refine Calls.mono (HI.out _) ?_; rintro e u2 ⟨rfl, hu2⟩; rw [hu2]; clear hu2))
    refine bodyPost_ret (v := .agg #[.int .i64 1, .string ⟨#[]⟩, .int .i64 0, .int .i64 0, .int .i64 0, .bool false]) ?_ rfl ⟨rfl, ?_⟩
    · simp [results, Try.results23, go_sem, r0, r1, r2, r3, r4, r5]
    · exact (((((HX1.out.bel.setCell (by simp) _).setCell (by simp) _).setCell (by simp) _).setCell (by simp) _).setCell (by simp) _).setCell (by simp) _
  have k5 : sz < count := by
    rcases Int.lt_or_le sz count with h | h
    · exact h
    · exfalso
      have hg : gpB ⟨sz, rg, ps, wr⟩ id size count = true := by
        simp only [gpB, k3, Bool.and_eq_true, decide_eq_true_eq]
        simp
        omega
      rw [hg] at h1
      cases h1
  clear h1 k3
  go_enter Try.func23, Try.ntmps23
  go_wp2_with (first | (go_at_call 64; refine Calls.mono (HP.out _) ?_; rintro e u1 ⟨rfl, hu1⟩; have HX1 : Hid _ := TwoBx.of _ _ _ _ _ hu1; clear hu1; have g0 := HX1.out.c1 0 _ rfl; have g1 := HX1.out.c1 1 _ rfl; have g2 := HX1.out.c1 2 _ rfl; have g3 := HX1.out.c1 3 _ rfl; have r0 := HX1.out.c2 0 _ rfl; have r1 := HX1.out.c2 1 _ rfl; have r2 := HX1.out.c2 2 _ rfl; have r3 := HX1.out.c2 3 _ rfl; have r4 := HX1.out.c2 4 _ rfl; have r5 := HX1.out.c2 5 _ rfl; have gf := fun k => HX1.out.f1 k; have rf := fun k => HX1.out.f2 k; have glt := HX1.out.lt) | (go_at_call 65; refine Calls.mono (HI.out _) ?_; rintro e u2 ⟨rfl, hu2⟩; rw [hu2]; clear hu2))
  refine bodyPost_ret (v := .agg #[.int .i64 1, .string ⟨#[]⟩, .int .i64 0, .int .i64 0, .int .i64 0, .bool false]) ?_ rfl ⟨rfl, ?_⟩
  · simp [results, Try.results23, go_sem, r0, r1, r2, r3, r4, r5]
  · exact (((((HX1.out.bel.setCell (by simp) _).setCell (by simp) _).setCell (by simp) _).setCell (by simp) _).setCell (by simp) _).setCell (by simp) _
set_option maxRecDepth 100000 in
set_option maxHeartbeats 4000000 in
theorem specGive_goodT (s : ByteArray) (S R P : Nat) (id size count : Int) (w : World) (hp : pOk s ⟨S, R, P, true⟩ = true) (hn : gpB ⟨S, R, P, true⟩ id size count = true) :
    Calls Try.prog 23 #[.string s, pA ⟨S, R, P, true⟩, .int .i64 id, .int .i64 size, .int .i64 count] w fun e w' => e = .returned (gpA 0 (setd s (R + P * 16) 0 size 32896 id) (goP ⟨S, R, P, true⟩ count)) ∧ Below w.heap.size w w' := by
  obtain ⟨hm, b1, b2, b3, b4, b5, b6, b7⟩ := pOk_b hp
  simp only at b1 b2 b3 b4 b5 b6 b7
  obtain ⟨m1, m2, m3⟩ := memOk_b hm
  have hd : decide (65536 < (s.size : Int)) = false := decide_eq_false (by omega)
  have HP : Hid _ := fun u => specPackedFault_any s ⟨S, R, P, true⟩ u (by omega)
  rw [pF_ok hp] at HP
  have HI : Hid _ := fun u => isWord_any size u
  have hgp := hn
  simp only [gpB, Bool.and_eq_true, decide_eq_true_eq] at hgp
  obtain ⟨⟨z1, z2⟩, z3, z4⟩ := hgp
  rw [z1] at HI
  have HS1 : Hid _ := fun u => setW s (R + P * 16) ((R : Int) + 16 * (P : Int)) 0 u (by omega) (by omega) m2
  have t1 := setv_size s (R + P * 16) 0 (by omega)
  have HS2 : Hid _ := fun u => setW (setv s (R + P * 16) 0) (R + P * 16 + 4) ((R : Int) + 16 * (P : Int) + 4) size u (by omega) (by omega) (by omega)
  have t2 := setv_size (setv s (R + P * 16) 0) (R + P * 16 + 4) size (by omega)
  have HS3 : Hid _ := fun u => setW (setv (setv s (R + P * 16) 0) (R + P * 16 + 4) size) (R + P * 16 + 8) ((R : Int) + 16 * (P : Int) + 8) 32896 u (by omega) (by omega) (by omega)
  have t3 := setv_size (setv (setv s (R + P * 16) 0) (R + P * 16 + 4) size) (R + P * 16 + 8) 32896 (by omega)
  have HS4 : Hid _ := fun u => setW (setv (setv (setv s (R + P * 16) 0) (R + P * 16 + 4) size) (R + P * 16 + 8) 32896) (R + P * 16 + 12) ((R : Int) + 16 * (P : Int) + 12) id u (by omega) (by omega) (by omega)
  have HV : Hid (setv (setv (setv (setv s (R + P * 16) 0) (R + P * 16 + 4) size) (R + P * 16 + 8) 32896) (R + P * 16 + 12) id = setd s (R + P * 16) 0 size 32896 id) := rfl
  generalize setd s (R + P * 16) 0 size 32896 id = M at *
  rw [HV.out] at HS4
  clear HV
  generalize setv (setv (setv s (R + P * 16) 0) (R + P * 16 + 4) size) (R + P * 16 + 8) 32896 = M3 at *
  generalize setv (setv s (R + P * 16) 0) (R + P * 16 + 4) size = M2 at *
  generalize setv s (R + P * 16) 0 = M1 at *
  have hR : (R : Int) ≤ 65536 := by omega
  have k1 : ¬ id < 0 := by omega
  have k2 : ¬ 65535 < id := by omega
  have k4 : ¬ count < 1 := by omega
  have k5 : ¬ (S : Int) < count := by omega
  clear hp hn hm b5 b6 b7 m1 m2 m3 z1 z2 t1 t2 t3
  unfold pA at HP ⊢
  unfold gpA goP
  simp only
  by_cases hw : (S : Int) ≤ (P : Int) + count
  · simp only [hw, if_true]
    go_enter Try.func23, Try.ntmps23
    go_wp2_with (first | (go_at_call 64; refine Calls.mono (HP.out _) ?_; rintro e u1 ⟨rfl, hu1⟩; have HX1 : Hid _ := TwoBx.of _ _ _ _ _ hu1; clear hu1; have g0 := HX1.out.c1 0 _ rfl; have g1 := HX1.out.c1 1 _ rfl; have g2 := HX1.out.c1 2 _ rfl; have g3 := HX1.out.c1 3 _ rfl; have r0 := HX1.out.c2 0 _ rfl; have r1 := HX1.out.c2 1 _ rfl; have r2 := HX1.out.c2 2 _ rfl; have r3 := HX1.out.c2 3 _ rfl; have r4 := HX1.out.c2 4 _ rfl; have r5 := HX1.out.c2 5 _ rfl; have gf := fun k => HX1.out.f1 k; have rf := fun k => HX1.out.f2 k; have glt := HX1.out.lt) | (go_at_call 65; refine Calls.mono (HI.out _) ?_; rintro e u2 ⟨rfl, hu2⟩; rw [hu2]; clear hu2) | (go_at_call 42; have hA := HS1.out; refine Calls.mono (hA _) ?_; clear hA; rintro e v1 ⟨rfl, hv⟩; have HY1 : Hid _ := HX1.out.step hv; clear hv HS1 HX1 g0 g1 g2 g3 r0 r1 r2 r3 r4 r5 gf rf glt) | (go_at_call 42; have hA := HS2.out; refine Calls.mono (hA _) ?_; clear hA; rintro e v2 ⟨rfl, hv⟩; have HY2 : Hid _ := HY1.out.step hv; clear hv HS2 HY1) | (go_at_call 42; have hA := HS3.out; refine Calls.mono (hA _) ?_; clear hA; rintro e v3 ⟨rfl, hv⟩; have HY3 : Hid _ := HY2.out.step hv; clear hv HS3 HY2) | (go_at_call 42; have hA := HS4.out; refine Calls.mono (hA _) ?_; clear hA; rintro e v4 ⟨rfl, hv⟩; have HY4 : Hid _ := HY3.out.step hv; clear hv HS4 HY3; have g0 := HY4.out.c1 0 _ rfl; have g1 := HY4.out.c1 1 _ rfl; have g2 := HY4.out.c1 2 _ rfl; have g3 := HY4.out.c1 3 _ rfl; have r0 := HY4.out.c2 0 _ rfl; have r1 := HY4.out.c2 1 _ rfl; have r2 := HY4.out.c2 2 _ rfl; have r3 := HY4.out.c2 3 _ rfl; have r4 := HY4.out.c2 4 _ rfl; have r5 := HY4.out.c2 5 _ rfl; have gf := fun k => HY4.out.f1 k; have rf := fun k => HY4.out.f2 k; have glt := HY4.out.lt))
    refine bodyPost_ret (v := .agg #[.int .i64 0, .string M, .int .i64 S, .int .i64 R, .int .i64 ((P : Int) + count - (S : Int)), .bool false]) ?_ rfl ⟨rfl, ?_⟩
    · simp [results, Try.results23, go_sem, r0, r1, r2, r3, r4, r5]
    · exact (((((((((HY4.out.bel.setCell (by simp) _).setCell (by simp) _).setCell (by simp) _).setCell (by simp) _).setCell (by simp) _).setCell (by simp) _).setCell (by simp) _).setCell (by simp) _).setCell (by simp) _)
  · simp only [hw, if_false]
    go_enter Try.func23, Try.ntmps23
    go_wp2_with (first | (go_at_call 64; refine Calls.mono (HP.out _) ?_; rintro e u1 ⟨rfl, hu1⟩; have HX1 : Hid _ := TwoBx.of _ _ _ _ _ hu1; clear hu1; have g0 := HX1.out.c1 0 _ rfl; have g1 := HX1.out.c1 1 _ rfl; have g2 := HX1.out.c1 2 _ rfl; have g3 := HX1.out.c1 3 _ rfl; have r0 := HX1.out.c2 0 _ rfl; have r1 := HX1.out.c2 1 _ rfl; have r2 := HX1.out.c2 2 _ rfl; have r3 := HX1.out.c2 3 _ rfl; have r4 := HX1.out.c2 4 _ rfl; have r5 := HX1.out.c2 5 _ rfl; have gf := fun k => HX1.out.f1 k; have rf := fun k => HX1.out.f2 k; have glt := HX1.out.lt) | (go_at_call 65; refine Calls.mono (HI.out _) ?_; rintro e u2 ⟨rfl, hu2⟩; rw [hu2]; clear hu2) | (go_at_call 42; have hA := HS1.out; refine Calls.mono (hA _) ?_; clear hA; rintro e v1 ⟨rfl, hv⟩; have HY1 : Hid _ := HX1.out.step hv; clear hv HS1 HX1 g0 g1 g2 g3 r0 r1 r2 r3 r4 r5 gf rf glt) | (go_at_call 42; have hA := HS2.out; refine Calls.mono (hA _) ?_; clear hA; rintro e v2 ⟨rfl, hv⟩; have HY2 : Hid _ := HY1.out.step hv; clear hv HS2 HY1) | (go_at_call 42; have hA := HS3.out; refine Calls.mono (hA _) ?_; clear hA; rintro e v3 ⟨rfl, hv⟩; have HY3 : Hid _ := HY2.out.step hv; clear hv HS3 HY2) | (go_at_call 42; have hA := HS4.out; refine Calls.mono (hA _) ?_; clear hA; rintro e v4 ⟨rfl, hv⟩; have HY4 : Hid _ := HY3.out.step hv; clear hv HS4 HY3; have g0 := HY4.out.c1 0 _ rfl; have g1 := HY4.out.c1 1 _ rfl; have g2 := HY4.out.c1 2 _ rfl; have g3 := HY4.out.c1 3 _ rfl; have r0 := HY4.out.c2 0 _ rfl; have r1 := HY4.out.c2 1 _ rfl; have r2 := HY4.out.c2 2 _ rfl; have r3 := HY4.out.c2 3 _ rfl; have r4 := HY4.out.c2 4 _ rfl; have r5 := HY4.out.c2 5 _ rfl; have gf := fun k => HY4.out.f1 k; have rf := fun k => HY4.out.f2 k; have glt := HY4.out.lt))
    refine bodyPost_ret (v := .agg #[.int .i64 0, .string M, .int .i64 S, .int .i64 R, .int .i64 ((P : Int) + count), .bool true]) ?_ rfl ⟨rfl, ?_⟩
    · simp [results, Try.results23, go_sem, r0, r1, r2, r3, r4, r5]
    · exact (((((((HY4.out.bel.setCell (by simp) _).setCell (by simp) _).setCell (by simp) _).setCell (by simp) _).setCell (by simp) _).setCell (by simp) _).setCell (by simp) _)
set_option maxRecDepth 100000 in
set_option maxHeartbeats 4000000 in
theorem specGive_goodF (s : ByteArray) (S R P : Nat) (id size count : Int) (w : World) (hp : pOk s ⟨S, R, P, false⟩ = true) (hn : gpB ⟨S, R, P, false⟩ id size count = true) :
    Calls Try.prog 23 #[.string s, pA ⟨S, R, P, false⟩, .int .i64 id, .int .i64 size, .int .i64 count] w fun e w' => e = .returned (gpA 0 (setd s (R + P * 16) 0 size 0 id) (goP ⟨S, R, P, false⟩ count)) ∧ Below w.heap.size w w' := by
  obtain ⟨hm, b1, b2, b3, b4, b5, b6, b7⟩ := pOk_b hp
  simp only at b1 b2 b3 b4 b5 b6 b7
  obtain ⟨m1, m2, m3⟩ := memOk_b hm
  have hd : decide (65536 < (s.size : Int)) = false := decide_eq_false (by omega)
  have HP : Hid _ := fun u => specPackedFault_any s ⟨S, R, P, false⟩ u (by omega)
  rw [pF_ok hp] at HP
  have HI : Hid _ := fun u => isWord_any size u
  have hgp := hn
  simp only [gpB, Bool.and_eq_true, decide_eq_true_eq] at hgp
  obtain ⟨⟨z1, z2⟩, z3, z4⟩ := hgp
  rw [z1] at HI
  have HS1 : Hid _ := fun u => setW s (R + P * 16) ((R : Int) + 16 * (P : Int)) 0 u (by omega) (by omega) m2
  have t1 := setv_size s (R + P * 16) 0 (by omega)
  have HS2 : Hid _ := fun u => setW (setv s (R + P * 16) 0) (R + P * 16 + 4) ((R : Int) + 16 * (P : Int) + 4) size u (by omega) (by omega) (by omega)
  have t2 := setv_size (setv s (R + P * 16) 0) (R + P * 16 + 4) size (by omega)
  have HS3 : Hid _ := fun u => setW (setv (setv s (R + P * 16) 0) (R + P * 16 + 4) size) (R + P * 16 + 8) ((R : Int) + 16 * (P : Int) + 8) 0 u (by omega) (by omega) (by omega)
  have t3 := setv_size (setv (setv s (R + P * 16) 0) (R + P * 16 + 4) size) (R + P * 16 + 8) 0 (by omega)
  have HS4 : Hid _ := fun u => setW (setv (setv (setv s (R + P * 16) 0) (R + P * 16 + 4) size) (R + P * 16 + 8) 0) (R + P * 16 + 12) ((R : Int) + 16 * (P : Int) + 12) id u (by omega) (by omega) (by omega)
  have HV : Hid (setv (setv (setv (setv s (R + P * 16) 0) (R + P * 16 + 4) size) (R + P * 16 + 8) 0) (R + P * 16 + 12) id = setd s (R + P * 16) 0 size 0 id) := rfl
  generalize setd s (R + P * 16) 0 size 0 id = M at *
  rw [HV.out] at HS4
  clear HV
  generalize setv (setv (setv s (R + P * 16) 0) (R + P * 16 + 4) size) (R + P * 16 + 8) 0 = M3 at *
  generalize setv (setv s (R + P * 16) 0) (R + P * 16 + 4) size = M2 at *
  generalize setv s (R + P * 16) 0 = M1 at *
  have hR : (R : Int) ≤ 65536 := by omega
  have k1 : ¬ id < 0 := by omega
  have k2 : ¬ 65535 < id := by omega
  have k4 : ¬ count < 1 := by omega
  have k5 : ¬ (S : Int) < count := by omega
  clear hp hn hm b5 b6 b7 m1 m2 m3 z1 z2 t1 t2 t3
  unfold pA at HP ⊢
  unfold gpA goP
  simp only
  by_cases hw : (S : Int) ≤ (P : Int) + count
  · simp only [hw, if_true]
    go_enter Try.func23, Try.ntmps23
    go_wp2_with (first | (go_at_call 64; refine Calls.mono (HP.out _) ?_; rintro e u1 ⟨rfl, hu1⟩; have HX1 : Hid _ := TwoBx.of _ _ _ _ _ hu1; clear hu1; have g0 := HX1.out.c1 0 _ rfl; have g1 := HX1.out.c1 1 _ rfl; have g2 := HX1.out.c1 2 _ rfl; have g3 := HX1.out.c1 3 _ rfl; have r0 := HX1.out.c2 0 _ rfl; have r1 := HX1.out.c2 1 _ rfl; have r2 := HX1.out.c2 2 _ rfl; have r3 := HX1.out.c2 3 _ rfl; have r4 := HX1.out.c2 4 _ rfl; have r5 := HX1.out.c2 5 _ rfl; have gf := fun k => HX1.out.f1 k; have rf := fun k => HX1.out.f2 k; have glt := HX1.out.lt) | (go_at_call 65; refine Calls.mono (HI.out _) ?_; rintro e u2 ⟨rfl, hu2⟩; rw [hu2]; clear hu2) | (go_at_call 42; have hA := HS1.out; refine Calls.mono (hA _) ?_; clear hA; rintro e v1 ⟨rfl, hv⟩; have HY1 : Hid _ := HX1.out.step hv; clear hv HS1 HX1 g0 g1 g2 g3 r0 r1 r2 r3 r4 r5 gf rf glt) | (go_at_call 42; have hA := HS2.out; refine Calls.mono (hA _) ?_; clear hA; rintro e v2 ⟨rfl, hv⟩; have HY2 : Hid _ := HY1.out.step hv; clear hv HS2 HY1) | (go_at_call 42; have hA := HS3.out; refine Calls.mono (hA _) ?_; clear hA; rintro e v3 ⟨rfl, hv⟩; have HY3 : Hid _ := HY2.out.step hv; clear hv HS3 HY2) | (go_at_call 42; have hA := HS4.out; refine Calls.mono (hA _) ?_; clear hA; rintro e v4 ⟨rfl, hv⟩; have HY4 : Hid _ := HY3.out.step hv; clear hv HS4 HY3; have g0 := HY4.out.c1 0 _ rfl; have g1 := HY4.out.c1 1 _ rfl; have g2 := HY4.out.c1 2 _ rfl; have g3 := HY4.out.c1 3 _ rfl; have r0 := HY4.out.c2 0 _ rfl; have r1 := HY4.out.c2 1 _ rfl; have r2 := HY4.out.c2 2 _ rfl; have r3 := HY4.out.c2 3 _ rfl; have r4 := HY4.out.c2 4 _ rfl; have r5 := HY4.out.c2 5 _ rfl; have gf := fun k => HY4.out.f1 k; have rf := fun k => HY4.out.f2 k; have glt := HY4.out.lt))
    refine bodyPost_ret (v := .agg #[.int .i64 0, .string M, .int .i64 S, .int .i64 R, .int .i64 ((P : Int) + count - (S : Int)), .bool true]) ?_ rfl ⟨rfl, ?_⟩
    · simp [results, Try.results23, go_sem, r0, r1, r2, r3, r4, r5]
    · exact (((((((((HY4.out.bel.setCell (by simp) _).setCell (by simp) _).setCell (by simp) _).setCell (by simp) _).setCell (by simp) _).setCell (by simp) _).setCell (by simp) _).setCell (by simp) _).setCell (by simp) _)
  · simp only [hw, if_false]
    go_enter Try.func23, Try.ntmps23
    go_wp2_with (first | (go_at_call 64; refine Calls.mono (HP.out _) ?_; rintro e u1 ⟨rfl, hu1⟩; have HX1 : Hid _ := TwoBx.of _ _ _ _ _ hu1; clear hu1; have g0 := HX1.out.c1 0 _ rfl; have g1 := HX1.out.c1 1 _ rfl; have g2 := HX1.out.c1 2 _ rfl; have g3 := HX1.out.c1 3 _ rfl; have r0 := HX1.out.c2 0 _ rfl; have r1 := HX1.out.c2 1 _ rfl; have r2 := HX1.out.c2 2 _ rfl; have r3 := HX1.out.c2 3 _ rfl; have r4 := HX1.out.c2 4 _ rfl; have r5 := HX1.out.c2 5 _ rfl; have gf := fun k => HX1.out.f1 k; have rf := fun k => HX1.out.f2 k; have glt := HX1.out.lt) | (go_at_call 65; refine Calls.mono (HI.out _) ?_; rintro e u2 ⟨rfl, hu2⟩; rw [hu2]; clear hu2) | (go_at_call 42; have hA := HS1.out; refine Calls.mono (hA _) ?_; clear hA; rintro e v1 ⟨rfl, hv⟩; have HY1 : Hid _ := HX1.out.step hv; clear hv HS1 HX1 g0 g1 g2 g3 r0 r1 r2 r3 r4 r5 gf rf glt) | (go_at_call 42; have hA := HS2.out; refine Calls.mono (hA _) ?_; clear hA; rintro e v2 ⟨rfl, hv⟩; have HY2 : Hid _ := HY1.out.step hv; clear hv HS2 HY1) | (go_at_call 42; have hA := HS3.out; refine Calls.mono (hA _) ?_; clear hA; rintro e v3 ⟨rfl, hv⟩; have HY3 : Hid _ := HY2.out.step hv; clear hv HS3 HY2) | (go_at_call 42; have hA := HS4.out; refine Calls.mono (hA _) ?_; clear hA; rintro e v4 ⟨rfl, hv⟩; have HY4 : Hid _ := HY3.out.step hv; clear hv HS4 HY3; have g0 := HY4.out.c1 0 _ rfl; have g1 := HY4.out.c1 1 _ rfl; have g2 := HY4.out.c1 2 _ rfl; have g3 := HY4.out.c1 3 _ rfl; have r0 := HY4.out.c2 0 _ rfl; have r1 := HY4.out.c2 1 _ rfl; have r2 := HY4.out.c2 2 _ rfl; have r3 := HY4.out.c2 3 _ rfl; have r4 := HY4.out.c2 4 _ rfl; have r5 := HY4.out.c2 5 _ rfl; have gf := fun k => HY4.out.f1 k; have rf := fun k => HY4.out.f2 k; have glt := HY4.out.lt))
    refine bodyPost_ret (v := .agg #[.int .i64 0, .string M, .int .i64 S, .int .i64 R, .int .i64 ((P : Int) + count), .bool false]) ?_ rfl ⟨rfl, ?_⟩
    · simp [results, Try.results23, go_sem, r0, r1, r2, r3, r4, r5]
    · exact (((((((HY4.out.bel.setCell (by simp) _).setCell (by simp) _).setCell (by simp) _).setCell (by simp) _).setCell (by simp) _).setCell (by simp) _).setCell (by simp) _)
end Go.Proofs.Ytfagohdmepnkkaa
