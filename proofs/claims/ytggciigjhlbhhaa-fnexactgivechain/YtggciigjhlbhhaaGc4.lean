import Derived.Test.YtggciigjhlbhhaaGc3
import Derived.Test.YtggciigjhlbhhaaQu3
namespace Go.Proofs.Ytggciigjhlbhhaa
open Go.ChangeShapes Go.WideShapes Go.ChangeAt Go.RowKit

theorem isWord_any (x : Int) (w : World) : Calls Try.prog 20 #[.int .i64 x] w fun e w' => e = .returned (.bool (wdB x)) ∧ w' = w := by
  by_cases h1 : 0 ≤ x
  · have E : Hid (decide (x < 4294967296) = wdB x) := by
      show _ = wdB x
      unfold wdB
      exact decide_eq_decide.2 (by omega)
    go_enter Try.func20, Try.ntmps20
    go_wp2
    go_ret
    exact ⟨ret_bool E.out, rfl⟩
  · have E : Hid (wdB x = false) := by
      show wdB x = false
      simp [wdB]
      omega
    go_enter Try.func20, Try.ntmps20
    go_wp2
    go_ret
    exact ⟨ret_bool E.out.symm, rfl⟩
theorem setW (s : ByteArray) (k : Nat) (y n : Int) (w : World) (hy : y = k) (h : k + 4 ≤ s.size) (hs : s.size ≤ 65536) :
    Calls Try.prog 21 #[.string s, .int .i64 y, .int .i64 n] w fun e w' => e = .returned (.string (setv s k n)) ∧ Below w.heap.size w w' := hy ▸ specSetWord_yes s k n w h hs
set_option maxRecDepth 100000 in
set_option maxHeartbeats 4000000 in
theorem specGC_long (s : ByteArray) (q : QV) (head size : Int) (w : World) (h : 65536 < s.size) :
    Calls Try.prog 6 #[.string s, qA q, .int .i64 head, .int .i64 size] w fun e w' => e = .returned (gcA 2 ⟨#[]⟩ q0 false) ∧ Below w.heap.size w w' := by
  have hd : decide (65536 < (s.size : Int)) = true := decide_eq_true (by omega)
  obtain ⟨sz, d, a, us, tk, gv⟩ := q
  unfold qA gcA q0
  clear h
  go_enter Try.func6, Try.ntmps6
  go_wp2_with fail
  refine bodyPost_ret (v := .agg #[.int .i64 2, .string ⟨#[]⟩, .int .i64 0, .int .i64 0, .int .i64 0, .int .i64 0, .int .i64 0, .int .i64 0, .bool false]) ?_ rfl ⟨rfl, ?_⟩
  · simp [results, Try.results6, go_sem]
  · exact (bx1 _ _).alloc (by simp) _
set_option maxRecDepth 100000 in
set_option maxHeartbeats 4000000 in
theorem specGC_form (s : ByteArray) (q : QV) (head size : Int) (w : World) (h : ¬ 65536 < s.size) (h1 : (qOk s q && gcB q head size) = false) :
    Calls Try.prog 6 #[.string s, qA q, .int .i64 head, .int .i64 size] w fun e w' => e = .returned (gcA 1 ⟨#[]⟩ q0 false) ∧ Below w.heap.size w w' := by
  have hd : decide (65536 < (s.size : Int)) = false := decide_eq_false (by omega)
  have HP : Hid _ := fun u => specQueueFault_any s q u (by omega)
  have HI : Hid _ := fun u => isWord_any size u
  clear h
  cases hp : qOk s q
  · rw [qF_no hp] at HP
    clear hp h1
    obtain ⟨sz, d, a, us, tk, gv⟩ := q
    unfold qA at HP ⊢
    unfold gcA q0
    go_enter Try.func6, Try.ntmps6
    go_wp2_with (first | (go_at_call 19; refine Calls.mono (HP.out _) ?_; rintro e u1 ⟨rfl, hu1⟩; have HX1 : Hid _ := TwoBx.of _ _ _ _ _ hu1; clear hu1; have g0 := HX1.out.c1 0 _ rfl; have g1 := HX1.out.c1 1 _ rfl; have g2 := HX1.out.c1 2 _ rfl; have g3 := HX1.out.c1 3 _ rfl; have g4 := HX1.out.c1 4 _ rfl; have g5 := HX1.out.c1 5 _ rfl; have r0 := HX1.out.c2 0 _ rfl; have r1 := HX1.out.c2 1 _ rfl; have r2 := HX1.out.c2 2 _ rfl; have r3 := HX1.out.c2 3 _ rfl; have r4 := HX1.out.c2 4 _ rfl; have r5 := HX1.out.c2 5 _ rfl; have r6 := HX1.out.c2 6 _ rfl; have r7 := HX1.out.c2 7 _ rfl; have r8 := HX1.out.c2 8 _ rfl; have gf := fun k => HX1.out.f1 k; have rf := fun k => HX1.out.f2 k; have glt := HX1.out.lt) | (go_at_call 20; refine Calls.mono (HI.out _) ?_; rintro e u2 ⟨rfl, hu2⟩; rw [hu2]; clear hu2))
    refine bodyPost_ret (v := .agg #[.int .i64 1, .string ⟨#[]⟩, .int .i64 0, .int .i64 0, .int .i64 0, .int .i64 0, .int .i64 0, .int .i64 0, .bool false]) ?_ rfl ⟨rfl, ?_⟩
    · simp [results, Try.results6, go_sem, r0, r1, r2, r3, r4, r5, r6, r7, r8]
    · exact (((((((((HX1.out.bel.setCell (by simp) _).setCell (by simp) _).setCell (by simp) _).setCell (by simp) _).setCell (by simp) _).setCell (by simp) _).setCell (by simp) _).setCell (by simp) _).setCell (by simp) _)
  rw [hp, Bool.true_and] at h1
  rw [qF_ok hp] at HP
  clear hp
  obtain ⟨sz, d, a, us, tk, gv⟩ := q
  unfold gcB hsB at h1
  simp only at h1
  unfold qA at HP ⊢
  unfold gcA q0
  by_cases k1 : head < 0
  · clear h1
    go_enter Try.func6, Try.ntmps6
    go_wp2_with (first | (go_at_call 19; refine Calls.mono (HP.out _) ?_; rintro e u1 ⟨rfl, hu1⟩; have HX1 : Hid _ := TwoBx.of _ _ _ _ _ hu1; clear hu1; have g0 := HX1.out.c1 0 _ rfl; have g1 := HX1.out.c1 1 _ rfl; have g2 := HX1.out.c1 2 _ rfl; have g3 := HX1.out.c1 3 _ rfl; have g4 := HX1.out.c1 4 _ rfl; have g5 := HX1.out.c1 5 _ rfl; have r0 := HX1.out.c2 0 _ rfl; have r1 := HX1.out.c2 1 _ rfl; have r2 := HX1.out.c2 2 _ rfl; have r3 := HX1.out.c2 3 _ rfl; have r4 := HX1.out.c2 4 _ rfl; have r5 := HX1.out.c2 5 _ rfl; have r6 := HX1.out.c2 6 _ rfl; have r7 := HX1.out.c2 7 _ rfl; have r8 := HX1.out.c2 8 _ rfl; have gf := fun k => HX1.out.f1 k; have rf := fun k => HX1.out.f2 k; have glt := HX1.out.lt) | (go_at_call 20; refine Calls.mono (HI.out _) ?_; rintro e u2 ⟨rfl, hu2⟩; rw [hu2]; clear hu2))
    refine bodyPost_ret (v := .agg #[.int .i64 1, .string ⟨#[]⟩, .int .i64 0, .int .i64 0, .int .i64 0, .int .i64 0, .int .i64 0, .int .i64 0, .bool false]) ?_ rfl ⟨rfl, ?_⟩
    · simp [results, Try.results6, go_sem, r0, r1, r2, r3, r4, r5, r6, r7, r8]
    · exact (((((((((HX1.out.bel.setCell (by simp) _).setCell (by simp) _).setCell (by simp) _).setCell (by simp) _).setCell (by simp) _).setCell (by simp) _).setCell (by simp) _).setCell (by simp) _).setCell (by simp) _)
  by_cases k2 : sz ≤ head
  · clear h1
    go_enter Try.func6, Try.ntmps6
    go_wp2_with (first | (go_at_call 19; refine Calls.mono (HP.out _) ?_; rintro e u1 ⟨rfl, hu1⟩; have HX1 : Hid _ := TwoBx.of _ _ _ _ _ hu1; clear hu1; have g0 := HX1.out.c1 0 _ rfl; have g1 := HX1.out.c1 1 _ rfl; have g2 := HX1.out.c1 2 _ rfl; have g3 := HX1.out.c1 3 _ rfl; have g4 := HX1.out.c1 4 _ rfl; have g5 := HX1.out.c1 5 _ rfl; have r0 := HX1.out.c2 0 _ rfl; have r1 := HX1.out.c2 1 _ rfl; have r2 := HX1.out.c2 2 _ rfl; have r3 := HX1.out.c2 3 _ rfl; have r4 := HX1.out.c2 4 _ rfl; have r5 := HX1.out.c2 5 _ rfl; have r6 := HX1.out.c2 6 _ rfl; have r7 := HX1.out.c2 7 _ rfl; have r8 := HX1.out.c2 8 _ rfl; have gf := fun k => HX1.out.f1 k; have rf := fun k => HX1.out.f2 k; have glt := HX1.out.lt) | (go_at_call 20; refine Calls.mono (HI.out _) ?_; rintro e u2 ⟨rfl, hu2⟩; rw [hu2]; clear hu2))
    refine bodyPost_ret (v := .agg #[.int .i64 1, .string ⟨#[]⟩, .int .i64 0, .int .i64 0, .int .i64 0, .int .i64 0, .int .i64 0, .int .i64 0, .bool false]) ?_ rfl ⟨rfl, ?_⟩
    · simp [results, Try.results6, go_sem, r0, r1, r2, r3, r4, r5, r6, r7, r8]
    · exact (((((((((HX1.out.bel.setCell (by simp) _).setCell (by simp) _).setCell (by simp) _).setCell (by simp) _).setCell (by simp) _).setCell (by simp) _).setCell (by simp) _).setCell (by simp) _).setCell (by simp) _)
  rw [decide_eq_true (show 0 ≤ head by omega), decide_eq_true (show head < sz by omega), Bool.true_and, Bool.true_and] at h1
  rw [h1] at HI
  clear h1
  go_enter Try.func6, Try.ntmps6
  go_wp2_with (first | (go_at_call 19; refine Calls.mono (HP.out _) ?_; rintro e u1 ⟨rfl, hu1⟩; have HX1 : Hid _ := TwoBx.of _ _ _ _ _ hu1; clear hu1; have g0 := HX1.out.c1 0 _ rfl; have g1 := HX1.out.c1 1 _ rfl; have g2 := HX1.out.c1 2 _ rfl; have g3 := HX1.out.c1 3 _ rfl; have g4 := HX1.out.c1 4 _ rfl; have g5 := HX1.out.c1 5 _ rfl; have r0 := HX1.out.c2 0 _ rfl; have r1 := HX1.out.c2 1 _ rfl; have r2 := HX1.out.c2 2 _ rfl; have r3 := HX1.out.c2 3 _ rfl; have r4 := HX1.out.c2 4 _ rfl; have r5 := HX1.out.c2 5 _ rfl; have r6 := HX1.out.c2 6 _ rfl; have r7 := HX1.out.c2 7 _ rfl; have r8 := HX1.out.c2 8 _ rfl; have gf := fun k => HX1.out.f1 k; have rf := fun k => HX1.out.f2 k; have glt := HX1.out.lt) | (go_at_call 20; refine Calls.mono (HI.out _) ?_; rintro e u2 ⟨rfl, hu2⟩; rw [hu2]; clear hu2))
  refine bodyPost_ret (v := .agg #[.int .i64 1, .string ⟨#[]⟩, .int .i64 0, .int .i64 0, .int .i64 0, .int .i64 0, .int .i64 0, .int .i64 0, .bool false]) ?_ rfl ⟨rfl, ?_⟩
  · simp [results, Try.results6, go_sem, r0, r1, r2, r3, r4, r5, r6, r7, r8]
  · exact (((((((((HX1.out.bel.setCell (by simp) _).setCell (by simp) _).setCell (by simp) _).setCell (by simp) _).setCell (by simp) _).setCell (by simp) _).setCell (by simp) _).setCell (by simp) _).setCell (by simp) _)
theorem TwoBx.dn {w u : World} {cs ds : Array Value} {t t2 : Nat} (h : TwoBx w u cs t ds t2) (n : Nat) : TwoBx w (u.drewN n) cs t ds t2 := ⟨bdn h.bel n, h.b1, h.b2⟩
theorem TwoBx.give5 {w u : World} {S D A U T G : Int} {ds : Array Value} {t t2 : Nat} (h : TwoBx w u #[.int .i64 S, .int .i64 D, .int .i64 A, .int .i64 U, .int .i64 T, .int .i64 G] t ds t2) (X : Int) : TwoBx w (u.setCell ⟨w.heap.size, 5, none⟩ (.int .i64 X)) #[.int .i64 S, .int .i64 D, .int .i64 A, .int .i64 U, .int .i64 T, .int .i64 X] t ds t2 := by
  refine ⟨h.bel.setCell (Nat.le_refl _) _, ?_, ?_⟩
  · simp [World.setCell, Array.getElem?_modify, h.b1]
  · exact (Below.heap_setCell _ _ _ _ (by simp)).trans h.b2
set_option maxRecDepth 100000 in
set_option maxHeartbeats 4000000 in
theorem specGC_good (s : ByteArray) (S D A U T G : Nat) (head size : Int) (w : World) (hp : qOk s ⟨S, D, A, U, T, G⟩ = true) (hn : gcB ⟨S, D, A, U, T, G⟩ head size = true) :
    Calls Try.prog 6 #[.string s, qA ⟨S, D, A, U, T, G⟩, .int .i64 head, .int .i64 size] w fun e w' => e = .returned (gcA 0 (gcM s S U G head size) ⟨S, D, A, U, T, (((G + 1) % 65536 : Nat) : Int)⟩ (wv (gcM s S U G head size) A % 2 == 0)) ∧ Below w.heap.size w w' := by
  obtain ⟨hm, hsz, ht, hg, hd, ha, hu⟩ := qOk_b hp
  simp only at hsz ht hg hd ha hu
  obtain ⟨b1, b2⟩ := szB_b hsz
  obtain ⟨m1, m2, m3⟩ := memOk_b hm
  have hdd : decide (65536 < (s.size : Int)) = false := decide_eq_false (by omega)
  have HP : Hid _ := fun u => specQueueFault_any s ⟨S, D, A, U, T, G⟩ u (by omega)
  rw [qF_ok hp] at HP
  have HI : Hid _ := fun u => isWord_any size u
  unfold gcB hsB at hn
  simp only [Bool.and_eq_true, decide_eq_true_eq] at hn
  rw [hn.2] at HI
  have k1 : ¬ head < 0 := by omega
  have k2 : ¬ (S : Int) ≤ head := by omega
  have e1 : (G : Int).tmod (S : Int) = ((G % S : Nat) : Int) := by
    rw [Int.tmod_eq_emod_of_nonneg (by omega)]
    simp
  have h0 : ¬ (S : Int) = 0 := by omega
  have hM : G % S < S := Nat.mod_lt _ (by omega)
  have gs := gcM_size s S U G head size (by omega) (by omega)
  have HS1 : Hid _ := fun u => setW s (U + 8 + G % S * 8) ((U : Int) + 8 + 8 * ((G % S : Nat) : Int)) head u (by omega) (by omega) m2
  have t1 := setv_size s (U + 8 + G % S * 8) head (by omega)
  have HS2 : Hid _ := fun u => setW (setv s (U + 8 + G % S * 8) head) (U + 8 + G % S * 8 + 4) ((U : Int) + 8 + 8 * ((G % S : Nat) : Int) + 4) size u (by omega) (by omega) (by omega)
  have t2 := setv_size (setv s (U + 8 + G % S * 8) head) (U + 8 + G % S * 8 + 4) size (by omega)
  have eg : (G + 1 : Int) % 65536 = (((G + 1) % 65536 : Nat) : Int) := by omega
  have HS3 : Hid (∀ u, Calls Try.prog 21 #[.string (setv (setv s (U + 8 + G % S * 8) head) (U + 8 + G % S * 8 + 4) size), .int .i64 ((U : Int) + 4), .int .i64 (((G + 1) % 65536 : Nat) : Int)] u fun e w' => e = .returned (.string (gcM s S U G head size)) ∧ Below u.heap.size u w') := fun u => setW (setv (setv s (U + 8 + G % S * 8) head) (U + 8 + G % S * 8 + 4) size) (U + 4) ((U : Int) + 4) (((G + 1) % 65536 : Nat) : Int) u (by omega) (by omega) (by omega)
  have HWD : Hid _ := fun u => l01Word_any (gcM s S U G head size) A u (by omega) (by omega)
  have hX := wv_b (gcM s S U G head size) A
  have hub : (U : Int) ≤ 65536 := by omega
  have hgb : (G : Int) ≤ 65535 := by omega
  have hMb : ((G % S : Nat) : Int) ≤ 16 := by omega
  have hMb0 : (0 : Int) ≤ ((G % S : Nat) : Int) := by omega
  generalize gcM s S U G head size = M3 at *
  generalize wv M3 A = X at *
  generalize (G + 1) % 65536 = G2 at *
  generalize setv (setv s (U + 8 + G % S * 8) head) (U + 8 + G % S * 8 + 4) size = M2 at *
  generalize setv s (U + 8 + G % S * 8) head = M1 at *
  generalize G % S = Q at *
  obtain ⟨hX0, hX1⟩ := hX
  have e2 : X.tmod 2 = X % 2 := Int.tmod_eq_emod_of_nonneg hX0
  have e3 : ((G : Int) + 1).tmod 65536 = (G2 : Int) := by
    rw [Int.tmod_eq_emod_of_nonneg (by omega)]
    exact eg
  clear hp hn hm hsz ht hg hd ha hu b1 b2 m1 m2 m3 gs t1 t2 hM
  unfold qA at HP ⊢
  unfold gcA
  simp only
  go_enter Try.func6, Try.ntmps6
  go_wp2_with (first | (go_at_call 19; refine Calls.mono (HP.out _) ?_; rintro e u1 ⟨rfl, hu1⟩; have HX1 : Hid _ := TwoBx.of _ _ _ _ _ hu1; clear hu1; have g0 := HX1.out.c1 0 _ rfl; have g1 := HX1.out.c1 1 _ rfl; have g2 := HX1.out.c1 2 _ rfl; have g3 := HX1.out.c1 3 _ rfl; have g4 := HX1.out.c1 4 _ rfl; have g5 := HX1.out.c1 5 _ rfl; have r0 := HX1.out.c2 0 _ rfl; have r1 := HX1.out.c2 1 _ rfl; have r2 := HX1.out.c2 2 _ rfl; have r3 := HX1.out.c2 3 _ rfl; have r4 := HX1.out.c2 4 _ rfl; have r5 := HX1.out.c2 5 _ rfl; have r6 := HX1.out.c2 6 _ rfl; have r7 := HX1.out.c2 7 _ rfl; have r8 := HX1.out.c2 8 _ rfl; have gf := fun k => HX1.out.f1 k; have rf := fun k => HX1.out.f2 k; have glt := HX1.out.lt) | (go_at_call 20; refine Calls.mono (HI.out _) ?_; rintro e u2 ⟨rfl, hu2⟩; rw [hu2]; clear hu2))
  go_quiet (fail)
  have HX2 : Hid _ := HX1.out.dn nq
  clear HX1 g0 g1 g2 g3 g4 g5 r0 r1 r2 r3 r4 r5 r6 r7 r8 gf rf glt
  generalize u1.drewN nq = u3 at *
  have g5 := HX2.out.c1 5 _ rfl
  have gf := fun k => HX2.out.f1 k
  have glt := HX2.out.lt
  go_wp2_with fail
  have HX3 : Hid _ := HX2.out.give5 (G2 : Int)
  clear HX2 g5 gf glt
  generalize (u3.setCell ⟨w.heap.size, 5, none⟩ (.int .i64 (G2 : Int))) = u4 at *
  refine Calls.mono (HS1.out _) ?_
  rintro e u5 ⟨rfl, hb⟩
  have HX5 : Hid _ := HX3.out.step hb
  clear hb HX3
  go_wp2_with fail
  refine Calls.mono (HS2.out _) ?_
  rintro e u6 ⟨rfl, hb⟩
  have HX6 : Hid _ := HX5.out.step hb
  clear hb HX5
  have g3 := HX6.out.c1 3 _ rfl
  have g5 := HX6.out.c1 5 _ rfl
  go_wp2_with fail
  refine Calls.mono (HS3.out _) ?_
  rintro e u7 ⟨rfl, hb⟩
  have HX7 : Hid _ := HX6.out.step hb
  clear hb HX6 g3 g5
  have g0 := HX7.out.c1 0 _ rfl
  have g1 := HX7.out.c1 1 _ rfl
  have g2 := HX7.out.c1 2 _ rfl
  have g3 := HX7.out.c1 3 _ rfl
  have g4 := HX7.out.c1 4 _ rfl
  have g5 := HX7.out.c1 5 _ rfl
  go_wp2_with fail
  go_region_held3 (fun w' => w'.cell? ⟨w.heap.size, 0, none⟩ = some (.int .i64 S) ∧ w'.cell? ⟨w.heap.size, 1, none⟩ = some (.int .i64 D) ∧ w'.cell? ⟨w.heap.size, 2, none⟩ = some (.int .i64 A) ∧ w'.cell? ⟨w.heap.size, 3, none⟩ = some (.int .i64 U) ∧ w'.cell? ⟨w.heap.size, 4, none⟩ = some (.int .i64 T) ∧ w'.cell? ⟨w.heap.size, 5, none⟩ = some (.int .i64 G2)) (go_keep) ((go_at_call 22; refine Calls.mono (HWD.out _) ?_; rintro e u8 ⟨rfl, q, hu⟩; have hb : Below u7.heap.size u7 u8 := (hu ▸ bdn ((Below.refl _ _).drew) q); have HX8 : Hid _ := HX7.out.step hb; clear hu hb g0 g1 g2 g3 g4 g5; have g0 := HX8.out.c1 0 _ rfl; have g1 := HX8.out.c1 1 _ rfl; have g2 := HX8.out.c1 2 _ rfl; have g3 := HX8.out.c1 3 _ rfl; have g4 := HX8.out.c1 4 _ rfl; have g5 := HX8.out.c1 5 _ rfl; have r0 := HX8.out.c2 0 _ rfl; have r1 := HX8.out.c2 1 _ rfl; have r2 := HX8.out.c2 2 _ rfl; have r3 := HX8.out.c2 3 _ rfl; have r4 := HX8.out.c2 4 _ rfl; have r5 := HX8.out.c2 5 _ rfl; have r6 := HX8.out.c2 6 _ rfl; have r7 := HX8.out.c2 7 _ rfl; have r8 := HX8.out.c2 8 _ rfl; have rf := fun k => HX8.out.f2 k))
  all_goals
    go_wp2_with fail
    refine bodyPost_ret (v := .agg #[.int .i64 0, .string M3, .int .i64 S, .int .i64 D, .int .i64 A, .int .i64 U, .int .i64 T, .int .i64 G2, .bool (X % 2 == 0)]) ?_ rfl ⟨rfl, ?_⟩
    · simp [results, Try.results6, go_sem, r0, r1, r2, r3, r4, r5, r6, r7, r8]
    · exact (((((((((HX8.out.bel.setCell (by simp) _).setCell (by simp) _).setCell (by simp) _).setCell (by simp) _).setCell (by simp) _).setCell (by simp) _).setCell (by simp) _).setCell (by simp) _).setCell (by simp) _)
end Go.Proofs.Ytggciigjhlbhhaa
