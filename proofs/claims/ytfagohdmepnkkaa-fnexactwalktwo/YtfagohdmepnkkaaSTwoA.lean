import Derived.Test.YtfagohdmepnkkaaTwoP
namespace Go.Proofs.Ytfagohdmepnkkaa
open Go.ChangeShapes Go.WideShapes Go.ChangeAt Go.RowKit

set_option maxRecDepth 100000 in
set_option maxHeartbeats 4000000 in
theorem specTwo_A (s : ByteArray) (host root va : Nat) (acc : Int) (user : Bool) (w : World) (hm : memOk s = true) (r0 : host ≤ 255) (r1 : root ≤ 255) (v1 : va ≤ 262143) (a1 : 1 ≤ acc) (a2 : acc ≤ 3) (k1 : Nat) (hk1 : Hid (k1 = root * 256 + 4 * (va / 8192))) (st1 : Int) (HP1 : Hid (PL w ⟨s, host, 0, 0⟩ k1 1 (-1) ⟨s, host, st1, (k1 : Int)⟩)) :
    Calls Try.prog 8 #[.string s, .int .i64 host, .int .i64 root, .int .i64 va, .int .i64 acc, .bool user] w fun e w' => e = .returned (twA ⟨3, (k1 : Int), 0, st1, s⟩) ∧ Below w.heap.size w w' := by
  have hc : Hid _ := memC_ok hm
  obtain ⟨hs0, hs1, hs2⟩ := memOk_b hm
  have HS : Hid (s.size ≤ 1099511627776) := (by show s.size ≤ 1099511627776; omega)
  have hv : (decide (262144 ≤ (va : Int))) = false := by
    simp
    omega
  have V1 : Hid (va ≤ 262143) := v1
  have i1 : (va : Int) / 8192 ≤ 31 := by omega
  have hNew : Hid _ := TW.new w s host
  clear hm v1 hs0 hs1 hs2
  go_enter Try.func8, Try.ntmps8
  go_wp2_with (first | (go_at_call 36; refine (specMemFault_any _ _ HS.out).mono ?_; rintro e u1 ⟨rfl, hu1⟩; rw [hu1, hc.out]; clear hu1 u1) | (go_at_call 37; refine (l03Acc_yes _ _ a1 a2).mono ?_; rintro e u2 ⟨rfl, hu2⟩; rw [hu2]; clear hu2 u2) | (go_at_call 38; refine Calls.mono (HP1.out _ _ hNew.out (by have := V1.out; have := hk1.out; omega)) ?_; rintro e v1 ⟨rfl, ht⟩; have HQ1 : Hid _ := ht; obtain ⟨b10, b11, b12, b13, b1f⟩ := HQ1.out.box.cells; (try simp only at b10 b11 b12 b13); clear ht HP1 hNew) | (go_at_call 39; refine Calls.mono (answer_tw HQ1.out _ _ _) ?_; rintro e y9 ⟨rfl, ht⟩; have HZ : Hid _ := ht; obtain ⟨m0, m1, m2, m3, m4, mf⟩ := cel5 ht.res; clear ht; simp only [twA]))
  refine bodyPost_ret (v := twA ⟨3, (k1 : Int), 0, st1, s⟩) (by simp [results, Try.results8, go_sem, twA, m0, m1, m2, m3, m4]) rfl ⟨rfl, ?_⟩
  have hl : w.heap.size ≤ w.heap.size := Nat.le_refl _
  exact ((((HZ.out.bel.setCell hl _).setCell hl _).setCell hl _).setCell hl _).setCell hl _
set_option maxRecDepth 100000 in
set_option maxHeartbeats 4000000 in
theorem specTwo_B1 (s : ByteArray) (host root va : Nat) (acc : Int) (user : Bool) (w : World) (hm : memOk s = true) (r0 : host ≤ 255) (r1 : root ≤ 255) (v1 : va ≤ 262143) (a1 : 1 ≤ acc) (a2 : acc ≤ 3) (k1 : Nat) (hk1 : Hid (k1 = root * 256 + 4 * (va / 8192))) (mem1 : ByteArray) (st1 : Int) (p1 : Nat) (y : Int) (hy : wv mem1 p1 = y) (hp1 : p1 + 4 ≤ mem1.size) (hm1 : mem1.size ≤ 65536) (s10 : 0 ≤ st1) (s11 : st1 ≤ 100) (HP1 : Hid (PL w ⟨s, host, 0, 0⟩ k1 1 (p1 : Int) ⟨mem1, host, st1, 0⟩)) (h16 : y % 16 = 1) (hT : 1024 ≤ y / 256) :
    Calls Try.prog 8 #[.string s, .int .i64 host, .int .i64 root, .int .i64 va, .int .i64 acc, .bool user] w fun e w' => e = .returned (twA ⟨2, 0, 0, st1 + 1, mem1⟩) ∧ Below w.heap.size w w' := by
  obtain ⟨y0, y1⟩ := wv_b mem1 p1
  have HW1 : Hid _ := fun w' => l01Word_any mem1 p1 w' hp1 hm1
  rw [hy] at y0 y1 HW1
  have e1 : bits .and .i64 y 1 = 1 := (and1 y y0 (by omega)).trans (by omega)
  have e14 : (bits .and .i64 y 14 == 0) = true := by
    rw [and14 y y0 (by omega)]
    simp
    omega
  clear hy hp1 hm1
  have hc : Hid _ := memC_ok hm
  obtain ⟨hs0, hs1, hs2⟩ := memOk_b hm
  have HS : Hid (s.size ≤ 1099511627776) := (by show s.size ≤ 1099511627776; omega)
  have hv : (decide (262144 ≤ (va : Int))) = false := by
    simp
    omega
  have V1 : Hid (va ≤ 262143) := v1
  have i1 : (va : Int) / 8192 ≤ 31 := by omega
  have hNew : Hid _ := TW.new w s host
  clear hm v1 hs0 hs1 hs2
  go_enter Try.func8, Try.ntmps8
  go_wp2_with (first | (go_at_call 36; refine (specMemFault_any _ _ HS.out).mono ?_; rintro e u1 ⟨rfl, hu1⟩; rw [hu1, hc.out]; clear hu1 u1) | (go_at_call 37; refine (l03Acc_yes _ _ a1 a2).mono ?_; rintro e u2 ⟨rfl, hu2⟩; rw [hu2]; clear hu2 u2) | (go_at_call 38; refine Calls.mono (HP1.out _ _ hNew.out (by have := V1.out; have := hk1.out; omega)) ?_; rintro e v1 ⟨rfl, ht⟩; have HQ1 : Hid _ := ht; obtain ⟨b10, b11, b12, b13, b1f⟩ := HQ1.out.box.cells; (try simp only at b10 b11 b12 b13); clear ht HP1 hNew) | (go_at_call 40; refine Calls.mono (HW1.out _) ?_; rintro e x1 ⟨rfl, q1, hx⟩; have HR1 : Hid (TW w ⟨mem1, host, st1 + 1, 0⟩ x1) := (by rw [hx]; exact (HQ1.out.put2 _).below (bdn (Below.refl _ _) q1)); obtain ⟨d10, d11, d12, d13, d1f⟩ := HR1.out.box.cells; (try simp only at d10 d11 d12 d13); clear hx HQ1 HW1 b10 b11 b12 b13 b1f) | (go_at_call 39; refine Calls.mono (answer_tw HR1.out _ _ _) ?_; rintro e y9 ⟨rfl, ht⟩; have HZ : Hid _ := ht; obtain ⟨m0, m1, m2, m3, m4, mf⟩ := cel5 ht.res; clear ht; simp only [twA]))
  refine bodyPost_ret (v := twA ⟨2, 0, 0, st1 + 1, mem1⟩) (by simp [results, Try.results8, go_sem, twA, m0, m1, m2, m3, m4]) rfl ⟨rfl, ?_⟩
  have hl : w.heap.size ≤ w.heap.size := Nat.le_refl _
  exact ((((HZ.out.bel.setCell hl _).setCell hl _).setCell hl _).setCell hl _).setCell hl _
set_option maxRecDepth 100000 in
set_option maxHeartbeats 4000000 in
theorem specTwo_B2 (s : ByteArray) (host root va : Nat) (acc : Int) (user : Bool) (w : World) (hm : memOk s = true) (r0 : host ≤ 255) (r1 : root ≤ 255) (v1 : va ≤ 262143) (a1 : 1 ≤ acc) (a2 : acc ≤ 3) (k1 : Nat) (hk1 : Hid (k1 = root * 256 + 4 * (va / 8192))) (mem1 : ByteArray) (st1 : Int) (p1 : Nat) (y : Int) (hy : wv mem1 p1 = y) (hp1 : p1 + 4 ≤ mem1.size) (hm1 : mem1.size ≤ 65536) (s10 : 0 ≤ st1) (s11 : st1 ≤ 100) (HP1 : Hid (PL w ⟨s, host, 0, 0⟩ k1 1 (p1 : Int) ⟨mem1, host, st1, 0⟩)) (h16 : y % 16 = 1) (T : Nat) (hT : y / 256 = (T : Int)) (hT2 : T < 1024) (k2 : Nat) (hk2 : Hid (k2 = T * 256 + 4 * (va / 256 % 32))) (st2 : Int) (HP2 : Hid (PL w ⟨mem1, host, st1 + 1, 0⟩ k2 1 (-1) ⟨mem1, host, st2, (k2 : Int)⟩)) :
    Calls Try.prog 8 #[.string s, .int .i64 host, .int .i64 root, .int .i64 va, .int .i64 acc, .bool user] w fun e w' => e = .returned (twA ⟨3, (k2 : Int), 0, st2, mem1⟩) ∧ Below w.heap.size w w' := by
  obtain ⟨y0, y1⟩ := wv_b mem1 p1
  have HW1 : Hid _ := fun w' => l01Word_any mem1 p1 w' hp1 hm1
  rw [hy] at y0 y1 HW1
  have e1 : bits .and .i64 y 1 = 1 := (and1 y y0 (by omega)).trans (by omega)
  have e14 : (bits .and .i64 y 14 == 0) = true := by
    rw [and14 y y0 (by omega)]
    simp
    omega
  clear hy hp1 hm1
  have hlt : ¬ 1024 ≤ y / 256 := by omega
  have htm : (va : Int) / 256 % 32 ≤ 31 := by omega
  have hc : Hid _ := memC_ok hm
  obtain ⟨hs0, hs1, hs2⟩ := memOk_b hm
  have HS : Hid (s.size ≤ 1099511627776) := (by show s.size ≤ 1099511627776; omega)
  have hv : (decide (262144 ≤ (va : Int))) = false := by
    simp
    omega
  have V1 : Hid (va ≤ 262143) := v1
  have i1 : (va : Int) / 8192 ≤ 31 := by omega
  have hNew : Hid _ := TW.new w s host
  clear hm v1 hs0 hs1 hs2
  go_enter Try.func8, Try.ntmps8
  go_wp2_with (first | (go_at_call 36; refine (specMemFault_any _ _ HS.out).mono ?_; rintro e u1 ⟨rfl, hu1⟩; rw [hu1, hc.out]; clear hu1 u1) | (go_at_call 37; refine (l03Acc_yes _ _ a1 a2).mono ?_; rintro e u2 ⟨rfl, hu2⟩; rw [hu2]; clear hu2 u2) | (go_at_call 38; refine Calls.mono (HP1.out _ _ hNew.out (by have := V1.out; have := hk1.out; omega)) ?_; rintro e v1 ⟨rfl, ht⟩; have HQ1 : Hid _ := ht; obtain ⟨b10, b11, b12, b13, b1f⟩ := HQ1.out.box.cells; (try simp only at b10 b11 b12 b13); clear ht HP1 hNew) | (go_at_call 40; refine Calls.mono (HW1.out _) ?_; rintro e x1 ⟨rfl, q1, hx⟩; have HR1 : Hid (TW w ⟨mem1, host, st1 + 1, 0⟩ x1) := (by rw [hx]; exact (HQ1.out.put2 _).below (bdn (Below.refl _ _) q1)); obtain ⟨d10, d11, d12, d13, d1f⟩ := HR1.out.box.cells; (try simp only at d10 d11 d12 d13); clear hx HQ1 HW1 b10 b11 b12 b13 b1f) | (go_at_call 38; refine Calls.mono (HP2.out _ _ HR1.out (by have := V1.out; have := hk2.out; omega)) ?_; rintro e v2 ⟨rfl, ht⟩; have HQ2 : Hid _ := ht; obtain ⟨b20, b21, b22, b23, b2f⟩ := HQ2.out.box.cells; (try simp only at b20 b21 b22 b23); clear ht HP2 HR1 d10 d11 d12 d13 d1f) | (go_at_call 39; refine Calls.mono (answer_tw HQ2.out _ _ _) ?_; rintro e y9 ⟨rfl, ht⟩; have HZ : Hid _ := ht; obtain ⟨m0, m1, m2, m3, m4, mf⟩ := cel5 ht.res; clear ht; simp only [twA]))
  refine bodyPost_ret (v := twA ⟨3, (k2 : Int), 0, st2, mem1⟩) (by simp [results, Try.results8, go_sem, twA, m0, m1, m2, m3, m4]) rfl ⟨rfl, ?_⟩
  have hl : w.heap.size ≤ w.heap.size := Nat.le_refl _
  exact ((((HZ.out.bel.setCell hl _).setCell hl _).setCell hl _).setCell hl _).setCell hl _
end Go.Proofs.Ytfagohdmepnkkaa
