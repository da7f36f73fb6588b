import Derived.Test.YthhbfghbpapklabGEx
namespace Go.Proofs.Ythhbfghbpapklab
open Go.ChangeShapes Go.WideShapes Go.ChangeAt Go.RowKit

set_option maxRecDepth 100000 in
set_option maxHeartbeats 4000000 in
theorem specTC_long (s : ByteArray) (q : QV) (h : 65536 < s.size) : AnsT 41 s q (2, 0, q00, []) := by
  intro w
  have hdd : decide (65536 < (s.size : Int)) = true := decide_eq_true (by omega)
  obtain ⟨a1, a2, a3, a4, a5, a6⟩ := q
  unfold qA tcA q00
  simp only
  clear h
  go_enter Try.func41, Try.ntmps41
  go_wp2_with fail
  refine bodyPost_ret (v := .agg #[.int .i64 2, .int .i64 0, .slice none 0 0, .int .i64 0, .int .i64 0, .int .i64 0, .int .i64 0, .int .i64 0, .int .i64 0]) ?_ rfl ⟨.slice none 0 0, rfl, World.ownsRow_nil _ _ _ _, ?_⟩
  · simp [results, Try.results41, go_sem]
  · exact (bx1 _ _).alloc (by simp) _
set_option maxRecDepth 100000 in
set_option maxHeartbeats 4000000 in
theorem specTC_form (s : ByteArray) (q : QV) (h : ¬ 65536 < s.size) (hp : qOk s q = false) : AnsT 41 s q (1, 0, q00, []) := by
  intro w
  have hdd : decide (65536 < (s.size : Int)) = false := decide_eq_false (by omega)
  have HP : Hid _ := fun u => specQueueFault_any s q u (by omega)
  obtain ⟨a1, a2, a3, a4, a5, a6⟩ := q
  rw [qF_no hp] at HP
  unfold qA at HP ⊢
  unfold tcA q00
  simp only
  clear h hp
  go_enter Try.func41, Try.ntmps41
  go_wp2_with (go_at_call 40; refine Calls.mono (HP.out _) ?_; rintro e u1 ⟨rfl, hu1⟩; have HX1 : Hid _ := TwoBx.of _ _ _ _ _ hu1; clear hu1; have r0 := HX1.out.c2 0 _ rfl; have r1 := HX1.out.c2 1 _ rfl; have r2 := HX1.out.c2 2 _ rfl; have r3 := HX1.out.c2 3 _ rfl; have r4 := HX1.out.c2 4 _ rfl; have r5 := HX1.out.c2 5 _ rfl; have r6 := HX1.out.c2 6 _ rfl; have r7 := HX1.out.c2 7 _ rfl; have r8 := HX1.out.c2 8 _ rfl; have rf := fun k => HX1.out.f2 k)
  refine bodyPost_ret (v := .agg #[.int .i64 1, .int .i64 0, .slice none 0 0, .int .i64 0, .int .i64 0, .int .i64 0, .int .i64 0, .int .i64 0, .int .i64 0]) ?_ rfl ⟨.slice none 0 0, rfl, World.ownsRow_nil _ _ _ _, ?_⟩
  · simp [results, Try.results41, go_sem, r0, r1, r2, r3, r4, r5, r6, r7, r8]
  · exact (((((((((HX1.out.bel.setCell (by simp) _).setCell (by simp) _).setCell (by simp) _).setCell (by simp) _).setCell (by simp) _).setCell (by simp) _).setCell (by simp) _).setCell (by simp) _).setCell (by simp) _)
set_option maxRecDepth 100000 in
set_option maxHeartbeats 4000000 in
theorem specTC_good (s : ByteArray) (S D A T : Nat) (u g : Int) (hp : qOk s ⟨S, D, A, u, T, g⟩ = true) : AnsT 41 s ⟨S, D, A, u, T, g⟩ (tcR s S D A T u g) := by
  intro w
  obtain ⟨hm, hz, ⟨t0, t1⟩, _, ⟨b1, b2, b3⟩, ⟨c1, c2, c3⟩, _⟩ := qOk_b hp
  obtain ⟨m1, m2, m3⟩ := memOk_b hm
  simp only at hz b1 b2 b3 c1 c2 c3 t0 t1
  have hS : 1 ≤ S ∧ S ≤ 16 := by unfold szB at hz; simp at hz; omega
  have hm : T % S < S := Nat.mod_lt _ hS.1
  have hdd : decide (65536 < (s.size : Int)) = false := decide_eq_false (by omega)
  have HP : Hid _ := fun x => specQueueFault_any s ⟨S, D, A, u, T, g⟩ x (by omega)
  rw [qF_ok hp] at HP
  have HW1 : Hid _ := fun x => l01Word_any s (A + 4) x (by omega) m2
  rw [show ((A + 4 : Nat) : Int) = (A : Int) + 4 by omega] at HW1
  have HW2 : Hid _ := fun x => l01Word_any s (A + 8 + T % S * 4) x (by omega) m2
  rw [show ((A + 8 + T % S * 4 : Nat) : Int) = (A : Int) + 8 + 4 * ((T % S : Nat) : Int) by omega] at HW2
  have hVb := wv_b s (A + 4)
  have HMD : Hid _ := fun (x : World) => l01Mod_any (wv s (A + 4) - T) 65536 x (by omega) (by omega)
  have hV : (wv s (A + 4) - (T : Int)) % 65536 = wtN s A T := by unfold wtN; omega
  rw [hV] at HMD
  have hNb : 0 ≤ wtN s A T ∧ wtN s A T < 65536 := by unfold wtN; omega
  have HRC : Hid _ := specRC_any s ⟨S, D, A, u, T, g⟩ (wv s (A + 8 + T % S * 4))
  rw [show rcT s ⟨S, D, A, u, T, g⟩ (wv s (A + 8 + T % S * 4)) = rcH s ⟨S, D, A, u, T, g⟩ (wv s (A + 8 + T % S * 4)) by unfold rcT; rw [if_neg (show ¬ 65536 < s.size by omega), if_pos hp]] at HRC
  have HE : Hid (tcR s S D A T u g = if wtN s A T = 0 then (5, 0, q00, []) else if (S : Int) < wtN s A T then (8, 0, q00, []) else ((rcH s ⟨S, D, A, u, T, g⟩ (wv s (A + 8 + T % S * 4))).1, wv s (A + 8 + T % S * 4), ⟨S, D, A, u, ((T + 1) % 65536 : Nat), g⟩, (rcH s ⟨S, D, A, u, T, g⟩ (wv s (A + 8 + T % S * 4))).2)) := by
    show _ = _
    unfold tcR wtC twR
    split
    · split at * <;> simp_all
    · split at * <;> simp_all
  generalize tcR s S D A T u g = TR at *
  generalize rcH s ⟨S, D, A, u, T, g⟩ (wv s (A + 8 + T % S * 4)) = RE at *
  obtain ⟨rc, rz⟩ := RE
  generalize wv s (A + 8 + T % S * 4) = HD at *
  generalize wtN s A T = NN at *
  generalize wv s (A + 4) = V at *
  have hT1 : (((T : Int) + 1) % 65536) = (((T + 1) % 65536 : Nat) : Int) := by omega
  generalize (T + 1) % 65536 = T1 at *
  have e1 : (T : Int).tmod (S : Int) = ((T % S : Nat) : Int) := by
    rw [Int.tmod_eq_emod_of_nonneg (by omega)]
    simp
  have h0 : ¬ (S : Int) = 0 := by omega
  have hMb : ((T % S : Nat) : Int) < 16 := by omega
  have hMb0 : (0 : Int) ≤ ((T % S : Nat) : Int) := by omega
  generalize ((T % S : Nat) : Int) = MM at *
  have hAb : (A : Int) ≤ 65536 := by omega
  have hTb : (T : Int) ≤ 65535 := by omega
  clear hp hm hz b1 b2 b3 c1 c2 c3 t0 t1 m1 m2 m3 hS hV
  unfold qA at HP HRC ⊢
  unfold chA at HRC
  unfold tcA
  simp only at HP HRC ⊢
  go_enter Try.func41, Try.ntmps41
  go_wp2_with (go_at_call 40; refine Calls.mono (HP.out _) ?_; rintro e y1 ⟨rfl, hu1⟩; have HX1 : Hid _ := TwoBx.of _ _ _ _ _ hu1; clear hu1)
  have k0 := HX1.out.c1 0 _ rfl
  have k1 := HX1.out.c1 1 _ rfl
  have k2 := HX1.out.c1 2 _ rfl
  have k3 := HX1.out.c1 3 _ rfl
  have k4 := HX1.out.c1 4 _ rfl
  have k5 := HX1.out.c1 5 _ rfl
  have lt1 := HX1.out.lt
  have lt0 : w.heap.size < y1.heap.size := by omega
  go_quiet (first | (go_at_call 85; exact Calls.quiet_of (HW1.out _)) | (go_at_call 84; exact Calls.quiet_of_same (HMD.out _)))
  have HX2 : Hid _ := HX1.out.step (bdn (Below.refl _ _) nq)
  clear HX1 k0 k1 k2 k3 k4 k5 lt1 lt0 HW1 HMD
  generalize y1.drewN nq = y2 at *
  have k0 := HX2.out.c1 0 _ rfl
  have k1 := HX2.out.c1 1 _ rfl
  have k2 := HX2.out.c1 2 _ rfl
  have k3 := HX2.out.c1 3 _ rfl
  have k4 := HX2.out.c1 4 _ rfl
  have k5 := HX2.out.c1 5 _ rfl
  have lt1 := HX2.out.lt
  have lt0 : w.heap.size < y2.heap.size := by omega
  by_cases hn0 : NN = 0
  · rw [if_pos hn0] at HE
    have r0 := HX2.out.c2 0 _ rfl
    have r1 := HX2.out.c2 1 _ rfl
    have r2 := HX2.out.c2 2 _ rfl
    have r3 := HX2.out.c2 3 _ rfl
    have r4 := HX2.out.c2 4 _ rfl
    have r5 := HX2.out.c2 5 _ rfl
    have r6 := HX2.out.c2 6 _ rfl
    have r7 := HX2.out.c2 7 _ rfl
    have r8 := HX2.out.c2 8 _ rfl
    have rf := fun k => HX2.out.f2 k
    go_wp2_with fail
    refine bodyPost_ret (v := .agg #[.int .i64 5, .int .i64 0, .slice none 0 0, .int .i64 0, .int .i64 0, .int .i64 0, .int .i64 0, .int .i64 0, .int .i64 0]) ?_ rfl ?_
    · simp [results, Try.results41, go_sem, r0, r1, r2, r3, r4, r5, r6, r7, r8]
    · rw [HE.out]
      exact ⟨.slice none 0 0, rfl, World.ownsRow_nil _ _ _ _, (((((((((HX2.out.bel.setCell (by simp) _).setCell (by simp) _).setCell (by simp) _).setCell (by simp) _).setCell (by simp) _).setCell (by simp) _).setCell (by simp) _).setCell (by simp) _).setCell (by simp) _)⟩
  rw [if_neg hn0] at HE
  have hn0b : (NN == 0) = false := by simp [hn0]
  by_cases hn1 : (S : Int) < NN
  · rw [if_pos hn1] at HE
    have r0 := HX2.out.c2 0 _ rfl
    have r1 := HX2.out.c2 1 _ rfl
    have r2 := HX2.out.c2 2 _ rfl
    have r3 := HX2.out.c2 3 _ rfl
    have r4 := HX2.out.c2 4 _ rfl
    have r5 := HX2.out.c2 5 _ rfl
    have r6 := HX2.out.c2 6 _ rfl
    have r7 := HX2.out.c2 7 _ rfl
    have r8 := HX2.out.c2 8 _ rfl
    have rf := fun k => HX2.out.f2 k
    go_wp2_with fail
    refine bodyPost_ret (v := .agg #[.int .i64 8, .int .i64 0, .slice none 0 0, .int .i64 0, .int .i64 0, .int .i64 0, .int .i64 0, .int .i64 0, .int .i64 0]) ?_ rfl ?_
    · simp [results, Try.results41, go_sem, r0, r1, r2, r3, r4, r5, r6, r7, r8]
    · rw [HE.out]
      exact ⟨.slice none 0 0, rfl, World.ownsRow_nil _ _ _ _, (((((((((HX2.out.bel.setCell (by simp) _).setCell (by simp) _).setCell (by simp) _).setCell (by simp) _).setCell (by simp) _).setCell (by simp) _).setCell (by simp) _).setCell (by simp) _).setCell (by simp) _)⟩
  rw [if_neg hn1] at HE
  go_upto_region 10 with fail
  go_quiet ((go_at_call 85; exact Calls.quiet_of (HW2.out _)))
  have HX3 : Hid _ := HX2.out.step (bdn (Below.refl _ _) nq)
  clear HX2 k0 k1 k2 k3 k4 k5 lt1 lt0 HW2
  generalize y2.drewN nq = y3 at *
  have k0 := HX3.out.c1 0 _ rfl
  have k1 := HX3.out.c1 1 _ rfl
  have k2 := HX3.out.c1 2 _ rfl
  have k3 := HX3.out.c1 3 _ rfl
  have k4 := HX3.out.c1 4 _ rfl
  have k5 := HX3.out.c1 5 _ rfl
  have lt1 := HX3.out.lt
  have lt0 : w.heap.size < y3.heap.size := by omega
  go_wp2_with fail
  refine Calls.mono (HRC.out _) ?_
  rintro e y4 ⟨v, rfl, ho, hu⟩
  obtain ⟨ao, cap, rfl⟩ := bu_sl ho
  have HX4 : Hid _ := HX3.out.step hu
  have HO4 : Hid (y4.ownsRow (w.heap.size + 2) 153 3 (.slice ao rz.length cap) rz.length (buR rz)) := bu_weak ho (by omega)
  clear hu ho HX3 k0 k1 k2 k3 k4 k5 lt1 lt0 HRC
  have HX5 : Hid _ := HX4.out.step (bx1 y4 (.cells #[.int .i64 rc, .slice ao rz.length cap] 150))
  have HC5 : Hid ((y4.alloc (.cells #[.int .i64 rc, .slice ao rz.length cap] 150)).heap[y4.heap.size]? = some (.cells #[.int .i64 rc, .slice ao rz.length cap] 150 (0, 0))) := heap_new _ _
  have HO5 : Hid ((y4.alloc (.cells #[.int .i64 rc, .slice ao rz.length cap] 150)).ownsRow (w.heap.size + 2) 153 3 (.slice ao rz.length cap) rz.length (buR rz)) := bu_below HO4.out (bx1 _ _)
  have hB5 : w.heap.size + 2 ≤ y4.heap.size := HX4.out.lt
  clear HX4 HO4
  go_upto_region 12 with fail
  generalize (y4.alloc (.cells #[.int .i64 rc, .slice ao rz.length cap] 150)) = y5 at *
  generalize y4.heap.size = B5 at *
  have k4 := HX5.out.c1 4 _ rfl
  have kf := fun k => HX5.out.f1 k
  have lt5 := HX5.out.lt
  have lt0 : w.heap.size < y5.heap.size := by omega
  have HX6 : Hid (TwoBx w (y5.setCell ⟨w.heap.size, 4, none⟩ (.int .i64 (T1 : Int))) #[.int .i64 S, .int .i64 D, .int .i64 A, .int .i64 u, .int .i64 T1, .int .i64 g] 24 #[.int .i64 0, .int .i64 0, .slice none 0 0, .int .i64 0, .int .i64 0, .int .i64 0, .int .i64 0, .int .i64 0, .int .i64 0] 76) := ⟨HX5.out.bel.setCell (by simp) _, by simp [World.setCell, Array.getElem?_modify, HX5.out.b1], (Below.heap_setCell _ _ _ _ (by simp)).trans HX5.out.b2⟩
  have HC6 : Hid ((y5.setCell ⟨w.heap.size, 4, none⟩ (.int .i64 (T1 : Int))).heap[B5]? = some (.cells #[.int .i64 rc, .slice ao rz.length cap] 150 (0, 0))) := (Below.heap_setCell _ _ _ _ (by simp; omega)).trans HC5.out
  have hnb0 : (Value.slice ao rz.length cap).ownBlock ≠ some w.heap.size := fun e => by have h1 := (HO5.out.lt _ e).1; omega
  have hnb : (Value.slice ao rz.length cap).ownBlock ≠ some (w.heap.size + 1) := fun e => by have h1 := (HO5.out.lt _ e).1; omega
  have HO6 : Hid ((y5.setCell ⟨w.heap.size, 4, none⟩ (.int .i64 (T1 : Int))).ownsRow (w.heap.size + 2) 153 3 (.slice ao rz.length cap) rz.length (buR rz)) := own_set HO5.out hnb0
  clear HX5 HC5 HO5
  go_upto_region 13 with fail
  generalize (y5.setCell ⟨w.heap.size, 4, none⟩ (.int .i64 (T1 : Int))) = y6 at *
  clear k4 kf lt5 lt0
  have k0 := HX6.out.c1 0 _ rfl
  have k1 := HX6.out.c1 1 _ rfl
  have k2 := HX6.out.c1 2 _ rfl
  have k3 := HX6.out.c1 3 _ rfl
  have k4 := HX6.out.c1 4 _ rfl
  have k5 := HX6.out.c1 5 _ rfl
  have r0 := HX6.out.c2 0 _ rfl
  have r1 := HX6.out.c2 1 _ rfl
  have r2 := HX6.out.c2 2 _ rfl
  have r3 := HX6.out.c2 3 _ rfl
  have r4 := HX6.out.c2 4 _ rfl
  have r5 := HX6.out.c2 5 _ rfl
  have r6 := HX6.out.c2 6 _ rfl
  have r7 := HX6.out.c2 7 _ rfl
  have r8 := HX6.out.c2 8 _ rfl
  have rf := fun k => HX6.out.f2 k
  have x0 := bC HC6.out 0 _ rfl
  have x1 := bC HC6.out 1 _ rfl
  have ltB : B5 < y6.heap.size := (Array.getElem?_eq_some_iff.1 HC6.out).1
  have lt5 := HX6.out.lt
  have lt0 : w.heap.size < y6.heap.size := by omega
  go_wp2_with fail
  refine bodyPost_ret (v := .agg #[.int .i64 rc, .int .i64 HD, .slice ao rz.length cap, .int .i64 S, .int .i64 D, .int .i64 A, .int .i64 u, .int .i64 T1, .int .i64 g]) ?_ rfl ?_
  · simp [results, Try.results41, go_sem, r0, r1, r2, r3, r4, r5, r6, r7, r8]
  · rw [HE.out]
    exact ⟨.slice ao rz.length cap, rfl, own_set (own_set (own_set (own_set (own_set (own_set (own_set (own_set (own_set (bu_weak HO6.out (by omega)) hnb) hnb) hnb) hnb) hnb) hnb) hnb) hnb) hnb, (((((((((HX6.out.bel.setCell (by simp) _).setCell (by simp) _).setCell (by simp) _).setCell (by simp) _).setCell (by simp) _).setCell (by simp) _).setCell (by simp) _).setCell (by simp) _).setCell (by simp) _)⟩
theorem specTC_any (s : ByteArray) (q : QV) : AnsT 41 s q (tcT s q) := by
  unfold tcT
  by_cases h : 65536 < s.size
  · rw [if_pos h]
    exact specTC_long s q h
  rw [if_neg h]
  cases hp : qOk s q
  · exact specTC_form s q h hp
  · obtain ⟨S, D, A, T, hq⟩ := qOk_nat hp
    rw [hq] at hp ⊢
    simp only [Int.toNat_natCast]
    exact specTC_good s S D A T _ _ hp
theorem tcT_len (s : ByteArray) (q : QV) : (tcT s q).2.2.2.length ≤ 32 := by
  unfold tcT
  split
  · simp
  · split
    · rename_i hp
      obtain ⟨_, hz, _⟩ := qOk_b hp
      have h2 : q.size.toNat ≤ 16 := by unfold szB at hz; simp at hz; omega
      unfold tcR
      split
      · unfold twR
        simp only
        refine Nat.le_trans (rcH_len s _ _) ?_
        simp
        omega
      · simp
    · simp
set_option maxRecDepth 100000 in
set_option maxHeartbeats 4000000 in
theorem eqQueue_any (p : QV) (w : World) : Calls Try.prog 50 #[.agg #[.int .i64 p.size, .int .i64 p.desc, .int .i64 p.avail, .int .i64 p.used, .int .i64 p.taken, .int .i64 p.given], .agg #[.int .i64 p.size, .int .i64 p.desc, .int .i64 p.avail, .int .i64 p.used, .int .i64 p.taken, .int .i64 p.given]] w fun e w' => e = .returned (.bool true) ∧ Below w.heap.size w w' := by
  obtain ⟨sz, d, a, us, tk, gv⟩ := p
  simp only
  go_enter Try.func50, Try.ntmps50
  go_wp2_with fail
  go_ret
  exact ⟨rfl, (bx1 _ _).alloc (by simp) _⟩
end Go.Proofs.Ythhbfghbpapklab
