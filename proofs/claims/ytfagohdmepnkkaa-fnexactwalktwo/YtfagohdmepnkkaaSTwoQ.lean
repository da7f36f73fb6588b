import Derived.Test.YtfagohdmepnkkaaTwoP
import Derived.Test.YtfagohdmepnkkaaTwoQ
namespace Go.Proofs.Ytfagohdmepnkkaa
open Go.ChangeShapes Go.WideShapes Go.ChangeAt Go.RowKit

set_option maxRecDepth 100000 in
set_option maxHeartbeats 4000000 in
theorem specTwo_B_even (s : ByteArray) (host root va : Nat) (acc : Int) (user : Bool) (w : World) (hm : memOk s = true) (r0 : host ≤ 255) (r1 : root ≤ 255) (v1 : va ≤ 262143) (a1 : 1 ≤ acc) (a2 : acc ≤ 3) (k1 : Nat) (hk1 : Hid (k1 = root * 256 + 4 * (va / 8192))) (mem1 : ByteArray) (st1 : Int) (p1 : Nat) (y : Int) (hy : wv mem1 p1 = y) (hp1 : p1 + 4 ≤ mem1.size) (hm1 : mem1.size ≤ 65536) (s10 : 0 ≤ st1) (s11 : st1 ≤ 100) (HP1 : Hid (PL w ⟨s, host, 0, 0⟩ k1 1 (p1 : Int) ⟨mem1, host, st1, 0⟩)) (h16 : y % 16 = 1) (T : Nat) (hT : y / 256 = (T : Int)) (hT2 : T < 1024) (k2 : Nat) (hk2 : Hid (k2 = T * 256 + 4 * (va / 256 % 32))) (mem2 : ByteArray) (st2 : Int) (p2 : Nat) (z : Int) (hz : wv mem2 p2 = z) (hp2 : p2 + 4 ≤ mem2.size) (hm2 : mem2.size ≤ 65536) (s20 : 0 ≤ st2) (s21 : st2 ≤ 100) (HP2 : Hid (PL w ⟨mem1, host, st1 + 1, 0⟩ k2 1 (p2 : Int) ⟨mem2, host, st2, 0⟩)) (f1 : z % 2 = 0) :
    Calls Try.prog 8 #[.string s, .int .i64 host, .int .i64 root, .int .i64 va, .int .i64 acc, .bool user] w fun e w' => e = .returned (twA ⟨1, 0, 0, st2 + 1, mem2⟩) ∧ Below w.heap.size w w' := by
  obtain ⟨y0, y1⟩ := wv_b mem1 p1
  have HW1 : Hid _ := fun w' => l01Word_any mem1 p1 w' hp1 hm1
  rw [hy] at y0 y1 HW1
  have e1 : bits .and .i64 y 1 = 1 := (and1 y y0 (by omega)).trans (by omega)
  have e14 : (bits .and .i64 y 14 == 0) = true := by
    rw [and14 y y0 (by omega)]
    simp
    omega
  clear hy hp1 hm1
  have hlt : ¬ 1024 ≤ y / 256 := by omega
  have htm : (va : Int) / 256 % 32 ≤ 31 := by omega
  obtain ⟨z0, z1⟩ := wv_b mem2 p2
  have HW2 : Hid _ := fun w' => l01Word_any mem2 p2 w' hp2 hm2
  rw [hz] at z0 z1 HW2
  clear hz hp2 hm2 h16
  have g1 : bits .and .i64 z 1 = 0 := (and1 z z0 (by omega)).trans f1
  have hc : Hid _ := memC_ok hm
  obtain ⟨hs0, hs1, hs2⟩ := memOk_b hm
  have HS : Hid (s.size ≤ 1099511627776) := (by show s.size ≤ 1099511627776; omega)
  have hv : (decide (262144 ≤ (va : Int))) = false := by
    simp
    omega
  have V1 : Hid (va ≤ 262143) := v1
  have i1 : (va : Int) / 8192 ≤ 31 := by omega
  have hNew : Hid _ := TW.new w s host
  clear hm v1 hs0 hs1 hs2
  go_enter Try.func8, Try.ntmps8
  go_wp2_with (first | (go_at_call 36; refine (specMemFault_any _ _ HS.out).mono ?_; rintro e u1 ⟨rfl, hu1⟩; rw [hu1, hc.out]; clear hu1 u1) | (go_at_call 37; refine (l03Acc_yes _ _ a1 a2).mono ?_; rintro e u2 ⟨rfl, hu2⟩; rw [hu2]; clear hu2 u2) | (go_at_call 38; refine Calls.mono (HP1.out _ _ hNew.out (by have := V1.out; have := hk1.out; omega)) ?_; rintro e v1 ⟨rfl, ht⟩; have HQ1 : Hid _ := ht; obtain ⟨b10, b11, b12, b13, b1f⟩ := HQ1.out.box.cells; (try simp only at b10 b11 b12 b13); clear ht HP1 hNew) | (go_at_call 40; refine Calls.mono (HW1.out _) ?_; rintro e x1 ⟨rfl, q1, hx⟩; have HR1 : Hid (TW w ⟨mem1, host, st1 + 1, 0⟩ x1) := (by rw [hx]; exact (HQ1.out.put2 _).below (bdn (Below.refl _ _) q1)); obtain ⟨d10, d11, d12, d13, d1f⟩ := HR1.out.box.cells; (try simp only at d10 d11 d12 d13); clear hx HQ1 HW1 b10 b11 b12 b13 b1f) | (go_at_call 38; refine Calls.mono (HP2.out _ _ HR1.out (by have := V1.out; have := hk2.out; omega)) ?_; rintro e v2 ⟨rfl, ht⟩; have HQ2 : Hid _ := ht; obtain ⟨b20, b21, b22, b23, b2f⟩ := HQ2.out.box.cells; (try simp only at b20 b21 b22 b23); clear ht HP2 HR1 d10 d11 d12 d13 d1f) | (go_at_call 40; refine Calls.mono (HW2.out _) ?_; rintro e x2 ⟨rfl, q2, hx⟩; have HR2 : Hid (TW w ⟨mem2, host, st2 + 1, 0⟩ x2) := (by rw [hx]; exact (HQ2.out.put2 _).below (bdn (Below.refl _ _) q2)); obtain ⟨d20, d21, d22, d23, d2f⟩ := HR2.out.box.cells; (try simp only at d20 d21 d22 d23); clear hx HQ2 HW2 b20 b21 b22 b23 b2f) | (go_at_call 39; refine Calls.mono (answer_tw HR2.out _ _ _) ?_; rintro e y9 ⟨rfl, ht⟩; have HZ : Hid _ := ht; obtain ⟨m0, m1, m2, m3, m4, mf⟩ := cel5 ht.res; clear ht; simp only [twA]))
  refine bodyPost_ret (v := twA ⟨1, 0, 0, st2 + 1, mem2⟩) (by simp [results, Try.results8, go_sem, twA, m0, m1, m2, m3, m4]) rfl ⟨rfl, ?_⟩
  have hl : w.heap.size ≤ w.heap.size := Nat.le_refl _
  exact ((((HZ.out.bel.setCell hl _).setCell hl _).setCell hl _).setCell hl _).setCell hl _
set_option maxRecDepth 100000 in
set_option maxHeartbeats 4000000 in
theorem specTwo_B_table (s : ByteArray) (host root va : Nat) (acc : Int) (user : Bool) (w : World) (hm : memOk s = true) (r0 : host ≤ 255) (r1 : root ≤ 255) (v1 : va ≤ 262143) (a1 : 1 ≤ acc) (a2 : acc ≤ 3) (k1 : Nat) (hk1 : Hid (k1 = root * 256 + 4 * (va / 8192))) (mem1 : ByteArray) (st1 : Int) (p1 : Nat) (y : Int) (hy : wv mem1 p1 = y) (hp1 : p1 + 4 ≤ mem1.size) (hm1 : mem1.size ≤ 65536) (s10 : 0 ≤ st1) (s11 : st1 ≤ 100) (HP1 : Hid (PL w ⟨s, host, 0, 0⟩ k1 1 (p1 : Int) ⟨mem1, host, st1, 0⟩)) (h16 : y % 16 = 1) (T : Nat) (hT : y / 256 = (T : Int)) (hT2 : T < 1024) (k2 : Nat) (hk2 : Hid (k2 = T * 256 + 4 * (va / 256 % 32))) (mem2 : ByteArray) (st2 : Int) (p2 : Nat) (z : Int) (hz : wv mem2 p2 = z) (hp2 : p2 + 4 ≤ mem2.size) (hm2 : mem2.size ≤ 65536) (s20 : 0 ≤ st2) (s21 : st2 ≤ 100) (HP2 : Hid (PL w ⟨mem1, host, st1 + 1, 0⟩ k2 1 (p2 : Int) ⟨mem2, host, st2, 0⟩)) (f1 : z % 16 = 1) :
    Calls Try.prog 8 #[.string s, .int .i64 host, .int .i64 root, .int .i64 va, .int .i64 acc, .bool user] w fun e w' => e = .returned (twA ⟨1, 0, 0, st2 + 1, mem2⟩) ∧ Below w.heap.size w w' := by
  obtain ⟨y0, y1⟩ := wv_b mem1 p1
  have HW1 : Hid _ := fun w' => l01Word_any mem1 p1 w' hp1 hm1
  rw [hy] at y0 y1 HW1
  have e1 : bits .and .i64 y 1 = 1 := (and1 y y0 (by omega)).trans (by omega)
  have e14 : (bits .and .i64 y 14 == 0) = true := by
    rw [and14 y y0 (by omega)]
    simp
    omega
  clear hy hp1 hm1
  have hlt : ¬ 1024 ≤ y / 256 := by omega
  have htm : (va : Int) / 256 % 32 ≤ 31 := by omega
  obtain ⟨z0, z1⟩ := wv_b mem2 p2
  have HW2 : Hid _ := fun w' => l01Word_any mem2 p2 w' hp2 hm2
  rw [hz] at z0 z1 HW2
  clear hz hp2 hm2 h16
  have g1 : bits .and .i64 z 1 = 1 := (and1 z z0 (by omega)).trans (by omega)
  have g14 : (bits .and .i64 z 14 == 0) = true := by
    rw [and14 z z0 (by omega)]
    simp
    omega
  have hc : Hid _ := memC_ok hm
  obtain ⟨hs0, hs1, hs2⟩ := memOk_b hm
  have HS : Hid (s.size ≤ 1099511627776) := (by show s.size ≤ 1099511627776; omega)
  have hv : (decide (262144 ≤ (va : Int))) = false := by
    simp
    omega
  have V1 : Hid (va ≤ 262143) := v1
  have i1 : (va : Int) / 8192 ≤ 31 := by omega
  have hNew : Hid _ := TW.new w s host
  clear hm v1 hs0 hs1 hs2
  go_enter Try.func8, Try.ntmps8
  go_wp2_with (first | (go_at_call 36; refine (specMemFault_any _ _ HS.out).mono ?_; rintro e u1 ⟨rfl, hu1⟩; rw [hu1, hc.out]; clear hu1 u1) | (go_at_call 37; refine (l03Acc_yes _ _ a1 a2).mono ?_; rintro e u2 ⟨rfl, hu2⟩; rw [hu2]; clear hu2 u2) | (go_at_call 38; refine Calls.mono (HP1.out _ _ hNew.out (by have := V1.out; have := hk1.out; omega)) ?_; rintro e v1 ⟨rfl, ht⟩; have HQ1 : Hid _ := ht; obtain ⟨b10, b11, b12, b13, b1f⟩ := HQ1.out.box.cells; (try simp only at b10 b11 b12 b13); clear ht HP1 hNew) | (go_at_call 40; refine Calls.mono (HW1.out _) ?_; rintro e x1 ⟨rfl, q1, hx⟩; have HR1 : Hid (TW w ⟨mem1, host, st1 + 1, 0⟩ x1) := (by rw [hx]; exact (HQ1.out.put2 _).below (bdn (Below.refl _ _) q1)); obtain ⟨d10, d11, d12, d13, d1f⟩ := HR1.out.box.cells; (try simp only at d10 d11 d12 d13); clear hx HQ1 HW1 b10 b11 b12 b13 b1f) | (go_at_call 38; refine Calls.mono (HP2.out _ _ HR1.out (by have := V1.out; have := hk2.out; omega)) ?_; rintro e v2 ⟨rfl, ht⟩; have HQ2 : Hid _ := ht; obtain ⟨b20, b21, b22, b23, b2f⟩ := HQ2.out.box.cells; (try simp only at b20 b21 b22 b23); clear ht HP2 HR1 d10 d11 d12 d13 d1f) | (go_at_call 40; refine Calls.mono (HW2.out _) ?_; rintro e x2 ⟨rfl, q2, hx⟩; have HR2 : Hid (TW w ⟨mem2, host, st2 + 1, 0⟩ x2) := (by rw [hx]; exact (HQ2.out.put2 _).below (bdn (Below.refl _ _) q2)); obtain ⟨d20, d21, d22, d23, d2f⟩ := HR2.out.box.cells; (try simp only at d20 d21 d22 d23); clear hx HQ2 HW2 b20 b21 b22 b23 b2f) | (go_at_call 39; refine Calls.mono (answer_tw HR2.out _ _ _) ?_; rintro e y9 ⟨rfl, ht⟩; have HZ : Hid _ := ht; obtain ⟨m0, m1, m2, m3, m4, mf⟩ := cel5 ht.res; clear ht; simp only [twA]))
  refine bodyPost_ret (v := twA ⟨1, 0, 0, st2 + 1, mem2⟩) (by simp [results, Try.results8, go_sem, twA, m0, m1, m2, m3, m4]) rfl ⟨rfl, ?_⟩
  have hl : w.heap.size ≤ w.heap.size := Nat.le_refl _
  exact ((((HZ.out.bel.setCell hl _).setCell hl _).setCell hl _).setCell hl _).setCell hl _
set_option maxRecDepth 100000 in
set_option maxHeartbeats 4000000 in
theorem specTwo_B_may (s : ByteArray) (host root va : Nat) (acc : Int) (user : Bool) (w : World) (hm : memOk s = true) (r0 : host ≤ 255) (r1 : root ≤ 255) (v1 : va ≤ 262143) (a1 : 1 ≤ acc) (a2 : acc ≤ 3) (k1 : Nat) (hk1 : Hid (k1 = root * 256 + 4 * (va / 8192))) (mem1 : ByteArray) (st1 : Int) (p1 : Nat) (y : Int) (hy : wv mem1 p1 = y) (hp1 : p1 + 4 ≤ mem1.size) (hm1 : mem1.size ≤ 65536) (s10 : 0 ≤ st1) (s11 : st1 ≤ 100) (HP1 : Hid (PL w ⟨s, host, 0, 0⟩ k1 1 (p1 : Int) ⟨mem1, host, st1, 0⟩)) (h16 : y % 16 = 1) (T : Nat) (hT : y / 256 = (T : Int)) (hT2 : T < 1024) (k2 : Nat) (hk2 : Hid (k2 = T * 256 + 4 * (va / 256 % 32))) (mem2 : ByteArray) (st2 : Int) (p2 : Nat) (z : Int) (hz : wv mem2 p2 = z) (hp2 : p2 + 4 ≤ mem2.size) (hm2 : mem2.size ≤ 65536) (s20 : 0 ≤ st2) (s21 : st2 ≤ 100) (HP2 : Hid (PL w ⟨mem1, host, st1 + 1, 0⟩ k2 1 (p2 : Int) ⟨mem2, host, st2, 0⟩)) (f1 : z % 2 = 1) (hC : ¬ z % 16 = 1) (f3 : mayV z acc user = false) :
    Calls Try.prog 8 #[.string s, .int .i64 host, .int .i64 root, .int .i64 va, .int .i64 acc, .bool user] w fun e w' => e = .returned (twA ⟨1, 0, 0, st2 + 1, mem2⟩) ∧ Below w.heap.size w w' := by
  obtain ⟨y0, y1⟩ := wv_b mem1 p1
  have HW1 : Hid _ := fun w' => l01Word_any mem1 p1 w' hp1 hm1
  rw [hy] at y0 y1 HW1
  have e1 : bits .and .i64 y 1 = 1 := (and1 y y0 (by omega)).trans (by omega)
  have e14 : (bits .and .i64 y 14 == 0) = true := by
    rw [and14 y y0 (by omega)]
    simp
    omega
  clear hy hp1 hm1
  have hlt : ¬ 1024 ≤ y / 256 := by omega
  have htm : (va : Int) / 256 % 32 ≤ 31 := by omega
  obtain ⟨z0, z1⟩ := wv_b mem2 p2
  have HW2 : Hid _ := fun w' => l01Word_any mem2 p2 w' hp2 hm2
  rw [hz] at z0 z1 HW2
  clear hz hp2 hm2 h16
  have g1 : bits .and .i64 z 1 = 1 := (and1 z z0 (by omega)).trans f1
  have g14 : (bits .and .i64 z 14 == 0) = false := by
    rw [and14 z z0 (by omega)]
    simp
    omega
  clear f1 hC
  have hc : Hid _ := memC_ok hm
  obtain ⟨hs0, hs1, hs2⟩ := memOk_b hm
  have HS : Hid (s.size ≤ 1099511627776) := (by show s.size ≤ 1099511627776; omega)
  have hv : (decide (262144 ≤ (va : Int))) = false := by
    simp
    omega
  have V1 : Hid (va ≤ 262143) := v1
  have i1 : (va : Int) / 8192 ≤ 31 := by omega
  have hNew : Hid _ := TW.new w s host
  clear hm v1 hs0 hs1 hs2
  go_enter Try.func8, Try.ntmps8
  go_wp2_with (first | (go_at_call 36; refine (specMemFault_any _ _ HS.out).mono ?_; rintro e u1 ⟨rfl, hu1⟩; rw [hu1, hc.out]; clear hu1 u1) | (go_at_call 37; refine (l03Acc_yes _ _ a1 a2).mono ?_; rintro e u2 ⟨rfl, hu2⟩; rw [hu2]; clear hu2 u2) | (go_at_call 38; refine Calls.mono (HP1.out _ _ hNew.out (by have := V1.out; have := hk1.out; omega)) ?_; rintro e v1 ⟨rfl, ht⟩; have HQ1 : Hid _ := ht; obtain ⟨b10, b11, b12, b13, b1f⟩ := HQ1.out.box.cells; (try simp only at b10 b11 b12 b13); clear ht HP1 hNew) | (go_at_call 40; refine Calls.mono (HW1.out _) ?_; rintro e x1 ⟨rfl, q1, hx⟩; have HR1 : Hid (TW w ⟨mem1, host, st1 + 1, 0⟩ x1) := (by rw [hx]; exact (HQ1.out.put2 _).below (bdn (Below.refl _ _) q1)); obtain ⟨d10, d11, d12, d13, d1f⟩ := HR1.out.box.cells; (try simp only at d10 d11 d12 d13); clear hx HQ1 HW1 b10 b11 b12 b13 b1f) | (go_at_call 38; refine Calls.mono (HP2.out _ _ HR1.out (by have := V1.out; have := hk2.out; omega)) ?_; rintro e v2 ⟨rfl, ht⟩; have HQ2 : Hid _ := ht; obtain ⟨b20, b21, b22, b23, b2f⟩ := HQ2.out.box.cells; (try simp only at b20 b21 b22 b23); clear ht HP2 HR1 d10 d11 d12 d13 d1f) | (go_at_call 40; refine Calls.mono (HW2.out _) ?_; rintro e x2 ⟨rfl, q2, hx⟩; have HR2 : Hid (TW w ⟨mem2, host, st2 + 1, 0⟩ x2) := (by rw [hx]; exact (HQ2.out.put2 _).below (bdn (Below.refl _ _) q2)); obtain ⟨d20, d21, d22, d23, d2f⟩ := HR2.out.box.cells; (try simp only at d20 d21 d22 d23); clear hx HQ2 HW2 b20 b21 b22 b23 b2f) | (go_at_call 41; refine (l03May_any _ _ _ _ z0 z1 a1 a2).mono ?_; rintro e u2 ⟨rfl, hu2⟩; rw [hu2]; clear hu2 u2) | (go_at_call 39; refine Calls.mono (answer_tw HR2.out _ _ _) ?_; rintro e y9 ⟨rfl, ht⟩; have HZ : Hid _ := ht; obtain ⟨m0, m1, m2, m3, m4, mf⟩ := cel5 ht.res; clear ht; simp only [twA]))
  refine bodyPost_ret (v := twA ⟨1, 0, 0, st2 + 1, mem2⟩) (by simp [results, Try.results8, go_sem, twA, m0, m1, m2, m3, m4]) rfl ⟨rfl, ?_⟩
  have hl : w.heap.size ≤ w.heap.size := Nat.le_refl _
  exact ((((HZ.out.bel.setCell hl _).setCell hl _).setCell hl _).setCell hl _).setCell hl _
set_option maxRecDepth 100000 in
set_option maxHeartbeats 4000000 in
theorem specTwo_B_far (s : ByteArray) (host root va : Nat) (acc : Int) (user : Bool) (w : World) (hm : memOk s = true) (r0 : host ≤ 255) (r1 : root ≤ 255) (v1 : va ≤ 262143) (a1 : 1 ≤ acc) (a2 : acc ≤ 3) (k1 : Nat) (hk1 : Hid (k1 = root * 256 + 4 * (va / 8192))) (mem1 : ByteArray) (st1 : Int) (p1 : Nat) (y : Int) (hy : wv mem1 p1 = y) (hp1 : p1 + 4 ≤ mem1.size) (hm1 : mem1.size ≤ 65536) (s10 : 0 ≤ st1) (s11 : st1 ≤ 100) (HP1 : Hid (PL w ⟨s, host, 0, 0⟩ k1 1 (p1 : Int) ⟨mem1, host, st1, 0⟩)) (h16 : y % 16 = 1) (T : Nat) (hT : y / 256 = (T : Int)) (hT2 : T < 1024) (k2 : Nat) (hk2 : Hid (k2 = T * 256 + 4 * (va / 256 % 32))) (mem2 : ByteArray) (st2 : Int) (p2 : Nat) (z : Int) (hz : wv mem2 p2 = z) (hp2 : p2 + 4 ≤ mem2.size) (hm2 : mem2.size ≤ 65536) (s20 : 0 ≤ st2) (s21 : st2 ≤ 100) (HP2 : Hid (PL w ⟨mem1, host, st1 + 1, 0⟩ k2 1 (p2 : Int) ⟨mem2, host, st2, 0⟩)) (f1 : z % 2 = 1) (hC : ¬ z % 16 = 1) (f3 : mayV z acc user = true) (f4 : 1024 ≤ z / 256) :
    Calls Try.prog 8 #[.string s, .int .i64 host, .int .i64 root, .int .i64 va, .int .i64 acc, .bool user] w fun e w' => e = .returned (twA ⟨2, 0, 0, st2 + 1, mem2⟩) ∧ Below w.heap.size w w' := by
  obtain ⟨y0, y1⟩ := wv_b mem1 p1
  have HW1 : Hid _ := fun w' => l01Word_any mem1 p1 w' hp1 hm1
  rw [hy] at y0 y1 HW1
  have e1 : bits .and .i64 y 1 = 1 := (and1 y y0 (by omega)).trans (by omega)
  have e14 : (bits .and .i64 y 14 == 0) = true := by
    rw [and14 y y0 (by omega)]
    simp
    omega
  clear hy hp1 hm1
  have hlt : ¬ 1024 ≤ y / 256 := by omega
  have htm : (va : Int) / 256 % 32 ≤ 31 := by omega
  obtain ⟨z0, z1⟩ := wv_b mem2 p2
  have HW2 : Hid _ := fun w' => l01Word_any mem2 p2 w' hp2 hm2
  rw [hz] at z0 z1 HW2
  clear hz hp2 hm2 h16
  have g1 : bits .and .i64 z 1 = 1 := (and1 z z0 (by omega)).trans f1
  have g14 : (bits .and .i64 z 14 == 0) = false := by
    rw [and14 z z0 (by omega)]
    simp
    omega
  clear f1 hC
  have hc : Hid _ := memC_ok hm
  obtain ⟨hs0, hs1, hs2⟩ := memOk_b hm
  have HS : Hid (s.size ≤ 1099511627776) := (by show s.size ≤ 1099511627776; omega)
  have hv : (decide (262144 ≤ (va : Int))) = false := by
    simp
    omega
  have V1 : Hid (va ≤ 262143) := v1
  have i1 : (va : Int) / 8192 ≤ 31 := by omega
  have hNew : Hid _ := TW.new w s host
  clear hm v1 hs0 hs1 hs2
  go_enter Try.func8, Try.ntmps8
  go_wp2_with (first | (go_at_call 36; refine (specMemFault_any _ _ HS.out).mono ?_; rintro e u1 ⟨rfl, hu1⟩; rw [hu1, hc.out]; clear hu1 u1) | (go_at_call 37; refine (l03Acc_yes _ _ a1 a2).mono ?_; rintro e u2 ⟨rfl, hu2⟩; rw [hu2]; clear hu2 u2) | (go_at_call 38; refine Calls.mono (HP1.out _ _ hNew.out (by have := V1.out; have := hk1.out; omega)) ?_; rintro e v1 ⟨rfl, ht⟩; have HQ1 : Hid _ := ht; obtain ⟨b10, b11, b12, b13, b1f⟩ := HQ1.out.box.cells; (try simp only at b10 b11 b12 b13); clear ht HP1 hNew) | (go_at_call 40; refine Calls.mono (HW1.out _) ?_; rintro e x1 ⟨rfl, q1, hx⟩; have HR1 : Hid (TW w ⟨mem1, host, st1 + 1, 0⟩ x1) := (by rw [hx]; exact (HQ1.out.put2 _).below (bdn (Below.refl _ _) q1)); obtain ⟨d10, d11, d12, d13, d1f⟩ := HR1.out.box.cells; (try simp only at d10 d11 d12 d13); clear hx HQ1 HW1 b10 b11 b12 b13 b1f) | (go_at_call 38; refine Calls.mono (HP2.out _ _ HR1.out (by have := V1.out; have := hk2.out; omega)) ?_; rintro e v2 ⟨rfl, ht⟩; have HQ2 : Hid _ := ht; obtain ⟨b20, b21, b22, b23, b2f⟩ := HQ2.out.box.cells; (try simp only at b20 b21 b22 b23); clear ht HP2 HR1 d10 d11 d12 d13 d1f) | (go_at_call 40; refine Calls.mono (HW2.out _) ?_; rintro e x2 ⟨rfl, q2, hx⟩; have HR2 : Hid (TW w ⟨mem2, host, st2 + 1, 0⟩ x2) := (by rw [hx]; exact (HQ2.out.put2 _).below (bdn (Below.refl _ _) q2)); obtain ⟨d20, d21, d22, d23, d2f⟩ := HR2.out.box.cells; (try simp only at d20 d21 d22 d23); clear hx HQ2 HW2 b20 b21 b22 b23 b2f) | (go_at_call 41; refine (l03May_any _ _ _ _ z0 z1 a1 a2).mono ?_; rintro e u2 ⟨rfl, hu2⟩; rw [hu2]; clear hu2 u2) | (go_at_call 39; refine Calls.mono (answer_tw HR2.out _ _ _) ?_; rintro e y9 ⟨rfl, ht⟩; have HZ : Hid _ := ht; obtain ⟨m0, m1, m2, m3, m4, mf⟩ := cel5 ht.res; clear ht; simp only [twA]))
  refine bodyPost_ret (v := twA ⟨2, 0, 0, st2 + 1, mem2⟩) (by simp [results, Try.results8, go_sem, twA, m0, m1, m2, m3, m4]) rfl ⟨rfl, ?_⟩
  have hl : w.heap.size ≤ w.heap.size := Nat.le_refl _
  exact ((((HZ.out.bel.setCell hl _).setCell hl _).setCell hl _).setCell hl _).setCell hl _

set_option maxRecDepth 100000 in
set_option maxHeartbeats 4000000 in
theorem specTwo_B1_nput (s : ByteArray) (host root va : Nat) (user : Bool) (w : World) (hm : memOk s = true) (r0 : host ≤ 255) (r1 : root ≤ 255) (v1 : va ≤ 262143) (k1 : Nat) (hk1 : Hid (k1 = root * 256 + 4 * (va / 8192))) (mem1 : ByteArray) (st1 : Int) (p1 : Nat) (y : Int) (hy : wv mem1 p1 = y) (hp1 : p1 + 4 ≤ mem1.size) (hm1 : mem1.size ≤ 65536) (s10 : 0 ≤ st1) (s11 : st1 ≤ 100) (HP1 : Hid (PL w ⟨s, host, 0, 0⟩ k1 1 (p1 : Int) ⟨mem1, host, st1, 0⟩)) (h16 : y % 16 = 1) (T : Nat) (hT : y / 256 = (T : Int)) (hT2 : T < 1024) (k2 : Nat) (hk2 : Hid (k2 = T * 256 + 4 * (va / 256 % 32))) (mem2 : ByteArray) (st2 : Int) (p2 : Nat) (z : Int) (hz : wv mem2 p2 = z) (hp2 : p2 + 4 ≤ mem2.size) (hm2 : mem2.size ≤ 65536) (s20 : 0 ≤ st2) (s21 : st2 ≤ 100) (HP2 : Hid (PL w ⟨mem1, host, st1 + 1, 0⟩ k2 1 (p2 : Int) ⟨mem2, host, st2, 0⟩)) (f1 : z % 2 = 1) (hC : ¬ z % 16 = 1) (f3 : mayV z 1 user = true) (f4 : z / 256 < 1024) (hne : (bits .or .i64 z 32 == z) = false) (st3 : Int) (HP3 : Hid (PL w ⟨mem2, host, st2 + 1, 0⟩ k2 2 (-1) ⟨mem2, host, st3, (k2 : Int)⟩)) :
    Calls Try.prog 8 #[.string s, .int .i64 host, .int .i64 root, .int .i64 va, .int .i64 1, .bool user] w fun e w' => e = .returned (twA ⟨3, (k2 : Int), 0, st3, mem2⟩) ∧ Below w.heap.size w w' := by
  have a1 : (1 : Int) ≤ 1 := by decide
  have a2 : (1 : Int) ≤ 3 := by decide
  obtain ⟨y0, y1⟩ := wv_b mem1 p1
  have HW1 : Hid _ := fun w' => l01Word_any mem1 p1 w' hp1 hm1
  rw [hy] at y0 y1 HW1
  have e1 : bits .and .i64 y 1 = 1 := (and1 y y0 (by omega)).trans (by omega)
  have e14 : (bits .and .i64 y 14 == 0) = true := by
    rw [and14 y y0 (by omega)]
    simp
    omega
  clear hy hp1 hm1
  have hlt : ¬ 1024 ≤ y / 256 := by omega
  have htm : (va : Int) / 256 % 32 ≤ 31 := by omega
  obtain ⟨z0, z1⟩ := wv_b mem2 p2
  have HW2 : Hid _ := fun w' => l01Word_any mem2 p2 w' hp2 hm2
  rw [hz] at z0 z1 HW2
  clear hz hp2 hm2 h16
  have g1 : bits .and .i64 z 1 = 1 := (and1 z z0 (by omega)).trans f1
  have g14 : (bits .and .i64 z 14 == 0) = false := by
    rw [and14 z z0 (by omega)]
    simp
    omega
  clear f1 hC
  have f5 : ¬ 1024 ≤ z / 256 := by omega
  have i2 : (va : Int) / 256 % 32 ≤ 31 := by omega
  have hc : Hid _ := memC_ok hm
  obtain ⟨hs0, hs1, hs2⟩ := memOk_b hm
  have HS : Hid (s.size ≤ 1099511627776) := (by show s.size ≤ 1099511627776; omega)
  have hv : (decide (262144 ≤ (va : Int))) = false := by
    simp
    omega
  have V1 : Hid (va ≤ 262143) := v1
  have i1 : (va : Int) / 8192 ≤ 31 := by omega
  have hNew : Hid _ := TW.new w s host
  clear hm v1 hs0 hs1 hs2
  go_enter Try.func8, Try.ntmps8
  go_wp2_with (first | (go_at_call 36; refine (specMemFault_any _ _ HS.out).mono ?_; rintro e u1 ⟨rfl, hu1⟩; rw [hu1, hc.out]; clear hu1 u1) | (go_at_call 37; refine (l03Acc_yes _ _ a1 a2).mono ?_; rintro e u2 ⟨rfl, hu2⟩; rw [hu2]; clear hu2 u2) | (go_at_call 38; refine Calls.mono (HP1.out _ _ hNew.out (by have := V1.out; have := hk1.out; omega)) ?_; rintro e v1 ⟨rfl, ht⟩; have HQ1 : Hid _ := ht; obtain ⟨b10, b11, b12, b13, b1f⟩ := HQ1.out.box.cells; (try simp only at b10 b11 b12 b13); clear ht HP1 hNew) | (go_at_call 40; refine Calls.mono (HW1.out _) ?_; rintro e x1 ⟨rfl, q1, hx⟩; have HR1 : Hid (TW w ⟨mem1, host, st1 + 1, 0⟩ x1) := (by rw [hx]; exact (HQ1.out.put2 _).below (bdn (Below.refl _ _) q1)); obtain ⟨d10, d11, d12, d13, d1f⟩ := HR1.out.box.cells; (try simp only at d10 d11 d12 d13); clear hx HQ1 HW1 b10 b11 b12 b13 b1f) | (go_at_call 38; refine Calls.mono (HP2.out _ _ HR1.out (by have := V1.out; have := hk2.out; omega)) ?_; rintro e v2 ⟨rfl, ht⟩; have HQ2 : Hid _ := ht; obtain ⟨b20, b21, b22, b23, b2f⟩ := HQ2.out.box.cells; (try simp only at b20 b21 b22 b23); clear ht HP2 HR1 d10 d11 d12 d13 d1f) | (go_at_call 40; refine Calls.mono (HW2.out _) ?_; rintro e x2 ⟨rfl, q2, hx⟩; have HR2 : Hid (TW w ⟨mem2, host, st2 + 1, 0⟩ x2) := (by rw [hx]; exact (HQ2.out.put2 _).below (bdn (Below.refl _ _) q2)); obtain ⟨d20, d21, d22, d23, d2f⟩ := HR2.out.box.cells; (try simp only at d20 d21 d22 d23); clear hx HQ2 HW2 b20 b21 b22 b23 b2f) | (go_at_call 41; refine (l03May_any _ _ _ _ z0 z1 a1 a2).mono ?_; rintro e u2 ⟨rfl, hu2⟩; rw [hu2]; clear hu2 u2) | (go_at_call 38; refine Calls.mono (HP3.out _ _ HR2.out (by have := V1.out; have := hk2.out; omega)) ?_; rintro e v3 ⟨rfl, ht⟩; have HQ3 : Hid _ := ht; obtain ⟨b30, b31, b32, b33, b3f⟩ := HQ3.out.box.cells; (try simp only at b30 b31 b32 b33); clear ht HP3 HR2 d20 d21 d22 d23 d2f) | (go_at_call 39; refine Calls.mono (answer_tw HQ3.out _ _ _) ?_; rintro e y9 ⟨rfl, ht⟩; have HZ : Hid _ := ht; obtain ⟨m0, m1, m2, m3, m4, mf⟩ := cel5 ht.res; clear ht; simp only [twA]))
  refine bodyPost_ret (v := twA ⟨3, (k2 : Int), 0, st3, mem2⟩) (by simp [results, Try.results8, go_sem, twA, m0, m1, m2, m3, m4]) rfl ⟨rfl, ?_⟩
  have hl : w.heap.size ≤ w.heap.size := Nat.le_refl _
  exact ((((HZ.out.bel.setCell hl _).setCell hl _).setCell hl _).setCell hl _).setCell hl _
set_option maxRecDepth 100000 in
set_option maxHeartbeats 4000000 in
theorem specTwo_B1_same_no (s : ByteArray) (host root va : Nat) (user : Bool) (w : World) (hm : memOk s = true) (r0 : host ≤ 255) (r1 : root ≤ 255) (v1 : va ≤ 262143) (k1 : Nat) (hk1 : Hid (k1 = root * 256 + 4 * (va / 8192))) (mem1 : ByteArray) (st1 : Int) (p1 : Nat) (y : Int) (hy : wv mem1 p1 = y) (hp1 : p1 + 4 ≤ mem1.size) (hm1 : mem1.size ≤ 65536) (s10 : 0 ≤ st1) (s11 : st1 ≤ 100) (HP1 : Hid (PL w ⟨s, host, 0, 0⟩ k1 1 (p1 : Int) ⟨mem1, host, st1, 0⟩)) (h16 : y % 16 = 1) (T : Nat) (hT : y / 256 = (T : Int)) (hT2 : T < 1024) (k2 : Nat) (hk2 : Hid (k2 = T * 256 + 4 * (va / 256 % 32))) (mem2 : ByteArray) (st2 : Int) (p2 : Nat) (z : Int) (hz : wv mem2 p2 = z) (hp2 : p2 + 4 ≤ mem2.size) (hm2 : mem2.size ≤ 65536) (s20 : 0 ≤ st2) (s21 : st2 ≤ 100) (HP2 : Hid (PL w ⟨mem1, host, st1 + 1, 0⟩ k2 1 (p2 : Int) ⟨mem2, host, st2, 0⟩)) (f1 : z % 2 = 1) (hC : ¬ z % 16 = 1) (f3 : mayV z 1 user = true) (f4 : z / 256 < 1024) (hsame : bits .or .i64 z 32 = z) (ga : Nat) (hga : Hid ((z / 256) * 256 + (va : Int) % 256 = (ga : Int))) (st4 : Int) (HP4 : Hid (PL w ⟨mem2, host, st2 + 1, 0⟩ ga 1 (-1) ⟨mem2, host, st4, (ga : Int)⟩)) :
    Calls Try.prog 8 #[.string s, .int .i64 host, .int .i64 root, .int .i64 va, .int .i64 1, .bool user] w fun e w' => e = .returned (twA ⟨3, (ga : Int), 0, st4, mem2⟩) ∧ Below w.heap.size w w' := by
  have a1 : (1 : Int) ≤ 1 := by decide
  have a2 : (1 : Int) ≤ 3 := by decide
  obtain ⟨y0, y1⟩ := wv_b mem1 p1
  have HW1 : Hid _ := fun w' => l01Word_any mem1 p1 w' hp1 hm1
  rw [hy] at y0 y1 HW1
  have e1 : bits .and .i64 y 1 = 1 := (and1 y y0 (by omega)).trans (by omega)
  have e14 : (bits .and .i64 y 14 == 0) = true := by
    rw [and14 y y0 (by omega)]
    simp
    omega
  clear hy hp1 hm1
  have hlt : ¬ 1024 ≤ y / 256 := by omega
  have htm : (va : Int) / 256 % 32 ≤ 31 := by omega
  obtain ⟨z0, z1⟩ := wv_b mem2 p2
  have HW2 : Hid _ := fun w' => l01Word_any mem2 p2 w' hp2 hm2
  rw [hz] at z0 z1 HW2
  clear hz hp2 hm2 h16
  have g1 : bits .and .i64 z 1 = 1 := (and1 z z0 (by omega)).trans f1
  have g14 : (bits .and .i64 z 14 == 0) = false := by
    rw [and14 z z0 (by omega)]
    simp
    omega
  clear f1 hC
  have f5 : ¬ 1024 ≤ z / 256 := by omega
  have i2 : (va : Int) / 256 % 32 ≤ 31 := by omega
  have hc : Hid _ := memC_ok hm
  obtain ⟨hs0, hs1, hs2⟩ := memOk_b hm
  have HS : Hid (s.size ≤ 1099511627776) := (by show s.size ≤ 1099511627776; omega)
  have hv : (decide (262144 ≤ (va : Int))) = false := by
    simp
    omega
  have V1 : Hid (va ≤ 262143) := v1
  have i1 : (va : Int) / 8192 ≤ 31 := by omega
  have hNew : Hid _ := TW.new w s host
  clear hm v1 hs0 hs1 hs2
  go_enter Try.func8, Try.ntmps8
  go_wp2_with (first | (go_at_call 36; refine (specMemFault_any _ _ HS.out).mono ?_; rintro e u1 ⟨rfl, hu1⟩; rw [hu1, hc.out]; clear hu1 u1) | (go_at_call 37; refine (l03Acc_yes _ _ a1 a2).mono ?_; rintro e u2 ⟨rfl, hu2⟩; rw [hu2]; clear hu2 u2) | (go_at_call 38; refine Calls.mono (HP1.out _ _ hNew.out (by have := V1.out; have := hk1.out; omega)) ?_; rintro e v1 ⟨rfl, ht⟩; have HQ1 : Hid _ := ht; obtain ⟨b10, b11, b12, b13, b1f⟩ := HQ1.out.box.cells; (try simp only at b10 b11 b12 b13); clear ht HP1 hNew) | (go_at_call 40; refine Calls.mono (HW1.out _) ?_; rintro e x1 ⟨rfl, q1, hx⟩; have HR1 : Hid (TW w ⟨mem1, host, st1 + 1, 0⟩ x1) := (by rw [hx]; exact (HQ1.out.put2 _).below (bdn (Below.refl _ _) q1)); obtain ⟨d10, d11, d12, d13, d1f⟩ := HR1.out.box.cells; (try simp only at d10 d11 d12 d13); clear hx HQ1 HW1 b10 b11 b12 b13 b1f) | (go_at_call 38; refine Calls.mono (HP2.out _ _ HR1.out (by have := V1.out; have := hk2.out; omega)) ?_; rintro e v2 ⟨rfl, ht⟩; have HQ2 : Hid _ := ht; obtain ⟨b20, b21, b22, b23, b2f⟩ := HQ2.out.box.cells; (try simp only at b20 b21 b22 b23); clear ht HP2 HR1 d10 d11 d12 d13 d1f) | (go_at_call 40; refine Calls.mono (HW2.out _) ?_; rintro e x2 ⟨rfl, q2, hx⟩; have HR2 : Hid (TW w ⟨mem2, host, st2 + 1, 0⟩ x2) := (by rw [hx]; exact (HQ2.out.put2 _).below (bdn (Below.refl _ _) q2)); obtain ⟨d20, d21, d22, d23, d2f⟩ := HR2.out.box.cells; (try simp only at d20 d21 d22 d23); clear hx HQ2 HW2 b20 b21 b22 b23 b2f) | (go_at_call 41; refine (l03May_any _ _ _ _ z0 z1 a1 a2).mono ?_; rintro e u2 ⟨rfl, hu2⟩; rw [hu2]; clear hu2 u2) | (go_at_call 38; refine Calls.mono (HP4.out _ _ HR2.out (by have := V1.out; have := hga.out; omega)) ?_; rintro e v4 ⟨rfl, ht⟩; have HQ4 : Hid _ := ht; obtain ⟨b40, b41, b42, b43, b4f⟩ := HQ4.out.box.cells; (try simp only at b40 b41 b42 b43); clear ht HP4 HR2 d20 d21 d22 d23 d2f) | (go_at_call 39; refine Calls.mono (answer_tw HQ4.out _ _ _) ?_; rintro e y9 ⟨rfl, ht⟩; have HZ : Hid _ := ht; obtain ⟨m0, m1, m2, m3, m4, mf⟩ := cel5 ht.res; clear ht; simp only [twA]))
  refine bodyPost_ret (v := twA ⟨3, (ga : Int), 0, st4, mem2⟩) (by simp [results, Try.results8, go_sem, twA, m0, m1, m2, m3, m4]) rfl ⟨rfl, ?_⟩
  have hl : w.heap.size ≤ w.heap.size := Nat.le_refl _
  exact ((((HZ.out.bel.setCell hl _).setCell hl _).setCell hl _).setCell hl _).setCell hl _
set_option maxRecDepth 100000 in
set_option maxHeartbeats 4000000 in
theorem specTwo_B1_same_ok (s : ByteArray) (host root va : Nat) (user : Bool) (w : World) (hm : memOk s = true) (r0 : host ≤ 255) (r1 : root ≤ 255) (v1 : va ≤ 262143) (k1 : Nat) (hk1 : Hid (k1 = root * 256 + 4 * (va / 8192))) (mem1 : ByteArray) (st1 : Int) (p1 : Nat) (y : Int) (hy : wv mem1 p1 = y) (hp1 : p1 + 4 ≤ mem1.size) (hm1 : mem1.size ≤ 65536) (s10 : 0 ≤ st1) (s11 : st1 ≤ 100) (HP1 : Hid (PL w ⟨s, host, 0, 0⟩ k1 1 (p1 : Int) ⟨mem1, host, st1, 0⟩)) (h16 : y % 16 = 1) (T : Nat) (hT : y / 256 = (T : Int)) (hT2 : T < 1024) (k2 : Nat) (hk2 : Hid (k2 = T * 256 + 4 * (va / 256 % 32))) (mem2 : ByteArray) (st2 : Int) (p2 : Nat) (z : Int) (hz : wv mem2 p2 = z) (hp2 : p2 + 4 ≤ mem2.size) (hm2 : mem2.size ≤ 65536) (s20 : 0 ≤ st2) (s21 : st2 ≤ 100) (HP2 : Hid (PL w ⟨mem1, host, st1 + 1, 0⟩ k2 1 (p2 : Int) ⟨mem2, host, st2, 0⟩)) (f1 : z % 2 = 1) (hC : ¬ z % 16 = 1) (f3 : mayV z 1 user = true) (f4 : z / 256 < 1024) (hsame : bits .or .i64 z 32 = z) (ga : Nat) (hga : Hid ((z / 256) * 256 + (va : Int) % 256 = (ga : Int))) (st4 : Int) (mem4 : ByteArray) (p4 : Nat) (HP4 : Hid (PL w ⟨mem2, host, st2 + 1, 0⟩ ga 1 (p4 : Int) ⟨mem4, host, st4, 0⟩)) :
    Calls Try.prog 8 #[.string s, .int .i64 host, .int .i64 root, .int .i64 va, .int .i64 1, .bool user] w fun e w' => e = .returned (twA ⟨0, (ga : Int), (p4 : Int), st4, mem4⟩) ∧ Below w.heap.size w w' := by
  have a1 : (1 : Int) ≤ 1 := by decide
  have a2 : (1 : Int) ≤ 3 := by decide
  obtain ⟨y0, y1⟩ := wv_b mem1 p1
  have HW1 : Hid _ := fun w' => l01Word_any mem1 p1 w' hp1 hm1
  rw [hy] at y0 y1 HW1
  have e1 : bits .and .i64 y 1 = 1 := (and1 y y0 (by omega)).trans (by omega)
  have e14 : (bits .and .i64 y 14 == 0) = true := by
    rw [and14 y y0 (by omega)]
    simp
    omega
  clear hy hp1 hm1
  have hlt : ¬ 1024 ≤ y / 256 := by omega
  have htm : (va : Int) / 256 % 32 ≤ 31 := by omega
  obtain ⟨z0, z1⟩ := wv_b mem2 p2
  have HW2 : Hid _ := fun w' => l01Word_any mem2 p2 w' hp2 hm2
  rw [hz] at z0 z1 HW2
  clear hz hp2 hm2 h16
  have g1 : bits .and .i64 z 1 = 1 := (and1 z z0 (by omega)).trans f1
  have g14 : (bits .and .i64 z 14 == 0) = false := by
    rw [and14 z z0 (by omega)]
    simp
    omega
  clear f1 hC
  have f5 : ¬ 1024 ≤ z / 256 := by omega
  have i2 : (va : Int) / 256 % 32 ≤ 31 := by omega
  have hc : Hid _ := memC_ok hm
  obtain ⟨hs0, hs1, hs2⟩ := memOk_b hm
  have HS : Hid (s.size ≤ 1099511627776) := (by show s.size ≤ 1099511627776; omega)
  have hv : (decide (262144 ≤ (va : Int))) = false := by
    simp
    omega
  have V1 : Hid (va ≤ 262143) := v1
  have i1 : (va : Int) / 8192 ≤ 31 := by omega
  have hNew : Hid _ := TW.new w s host
  clear hm v1 hs0 hs1 hs2
  go_enter Try.func8, Try.ntmps8
  go_wp2_with (first | (go_at_call 36; refine (specMemFault_any _ _ HS.out).mono ?_; rintro e u1 ⟨rfl, hu1⟩; rw [hu1, hc.out]; clear hu1 u1) | (go_at_call 37; refine (l03Acc_yes _ _ a1 a2).mono ?_; rintro e u2 ⟨rfl, hu2⟩; rw [hu2]; clear hu2 u2) | (go_at_call 38; refine Calls.mono (HP1.out _ _ hNew.out (by have := V1.out; have := hk1.out; omega)) ?_; rintro e v1 ⟨rfl, ht⟩; have HQ1 : Hid _ := ht; obtain ⟨b10, b11, b12, b13, b1f⟩ := HQ1.out.box.cells; (try simp only at b10 b11 b12 b13); clear ht HP1 hNew) | (go_at_call 40; refine Calls.mono (HW1.out _) ?_; rintro e x1 ⟨rfl, q1, hx⟩; have HR1 : Hid (TW w ⟨mem1, host, st1 + 1, 0⟩ x1) := (by rw [hx]; exact (HQ1.out.put2 _).below (bdn (Below.refl _ _) q1)); obtain ⟨d10, d11, d12, d13, d1f⟩ := HR1.out.box.cells; (try simp only at d10 d11 d12 d13); clear hx HQ1 HW1 b10 b11 b12 b13 b1f) | (go_at_call 38; refine Calls.mono (HP2.out _ _ HR1.out (by have := V1.out; have := hk2.out; omega)) ?_; rintro e v2 ⟨rfl, ht⟩; have HQ2 : Hid _ := ht; obtain ⟨b20, b21, b22, b23, b2f⟩ := HQ2.out.box.cells; (try simp only at b20 b21 b22 b23); clear ht HP2 HR1 d10 d11 d12 d13 d1f) | (go_at_call 40; refine Calls.mono (HW2.out _) ?_; rintro e x2 ⟨rfl, q2, hx⟩; have HR2 : Hid (TW w ⟨mem2, host, st2 + 1, 0⟩ x2) := (by rw [hx]; exact (HQ2.out.put2 _).below (bdn (Below.refl _ _) q2)); obtain ⟨d20, d21, d22, d23, d2f⟩ := HR2.out.box.cells; (try simp only at d20 d21 d22 d23); clear hx HQ2 HW2 b20 b21 b22 b23 b2f) | (go_at_call 41; refine (l03May_any _ _ _ _ z0 z1 a1 a2).mono ?_; rintro e u2 ⟨rfl, hu2⟩; rw [hu2]; clear hu2 u2) | (go_at_call 38; refine Calls.mono (HP4.out _ _ HR2.out (by have := V1.out; have := hga.out; omega)) ?_; rintro e v4 ⟨rfl, ht⟩; have HQ4 : Hid _ := ht; obtain ⟨b40, b41, b42, b43, b4f⟩ := HQ4.out.box.cells; (try simp only at b40 b41 b42 b43); clear ht HP4 HR2 d20 d21 d22 d23 d2f) | (go_at_call 39; refine Calls.mono (answer_tw HQ4.out _ _ _) ?_; rintro e y9 ⟨rfl, ht⟩; have HZ : Hid _ := ht; obtain ⟨m0, m1, m2, m3, m4, mf⟩ := cel5 ht.res; clear ht; simp only [twA]))
  refine bodyPost_ret (v := twA ⟨0, (ga : Int), (p4 : Int), st4, mem4⟩) (by simp [results, Try.results8, go_sem, twA, m0, m1, m2, m3, m4]; have := hga.out; omega) rfl ⟨rfl, ?_⟩
  have hl : w.heap.size ≤ w.heap.size := Nat.le_refl _
  exact ((((HZ.out.bel.setCell hl _).setCell hl _).setCell hl _).setCell hl _).setCell hl _
set_option maxRecDepth 100000 in
set_option maxHeartbeats 4000000 in
theorem specTwo_B1_put_no (s : ByteArray) (host root va : Nat) (user : Bool) (w : World) (hm : memOk s = true) (r0 : host ≤ 255) (r1 : root ≤ 255) (v1 : va ≤ 262143) (k1 : Nat) (hk1 : Hid (k1 = root * 256 + 4 * (va / 8192))) (mem1 : ByteArray) (st1 : Int) (p1 : Nat) (y : Int) (hy : wv mem1 p1 = y) (hp1 : p1 + 4 ≤ mem1.size) (hm1 : mem1.size ≤ 65536) (s10 : 0 ≤ st1) (s11 : st1 ≤ 100) (HP1 : Hid (PL w ⟨s, host, 0, 0⟩ k1 1 (p1 : Int) ⟨mem1, host, st1, 0⟩)) (h16 : y % 16 = 1) (T : Nat) (hT : y / 256 = (T : Int)) (hT2 : T < 1024) (k2 : Nat) (hk2 : Hid (k2 = T * 256 + 4 * (va / 256 % 32))) (mem2 : ByteArray) (st2 : Int) (p2 : Nat) (z : Int) (hz : wv mem2 p2 = z) (hp2 : p2 + 4 ≤ mem2.size) (hm2 : mem2.size ≤ 65536) (s20 : 0 ≤ st2) (s21 : st2 ≤ 100) (HP2 : Hid (PL w ⟨mem1, host, st1 + 1, 0⟩ k2 1 (p2 : Int) ⟨mem2, host, st2, 0⟩)) (f1 : z % 2 = 1) (hC : ¬ z % 16 = 1) (f3 : mayV z 1 user = true) (f4 : z / 256 < 1024) (hne : (bits .or .i64 z 32 == z) = false) (ga : Nat) (hga : Hid ((z / 256) * 256 + (va : Int) % 256 = (ga : Int))) (st4 : Int) (mem3 : ByteArray) (st3 : Int) (p3 : Nat) (hp3 : p3 + 4 ≤ mem3.size) (hm3 : mem3.size ≤ 65536) (HP3 : Hid (PL w ⟨mem2, host, st2 + 1, 0⟩ k2 2 (p3 : Int) ⟨mem3, host, st3, 0⟩)) (HP4 : Hid (PL w ⟨(setv mem3 p3 (bits .or .i64 z 32)), host, st3, 0⟩ ga 1 (-1) ⟨(setv mem3 p3 (bits .or .i64 z 32)), host, st4, (ga : Int)⟩)) :
    Calls Try.prog 8 #[.string s, .int .i64 host, .int .i64 root, .int .i64 va, .int .i64 1, .bool user] w fun e w' => e = .returned (twA ⟨3, (ga : Int), 0, st4, (setv mem3 p3 (bits .or .i64 z 32))⟩) ∧ Below w.heap.size w w' := by
  have a1 : (1 : Int) ≤ 1 := by decide
  have a2 : (1 : Int) ≤ 3 := by decide
  obtain ⟨y0, y1⟩ := wv_b mem1 p1
  have HW1 : Hid _ := fun w' => l01Word_any mem1 p1 w' hp1 hm1
  rw [hy] at y0 y1 HW1
  have e1 : bits .and .i64 y 1 = 1 := (and1 y y0 (by omega)).trans (by omega)
  have e14 : (bits .and .i64 y 14 == 0) = true := by
    rw [and14 y y0 (by omega)]
    simp
    omega
  clear hy hp1 hm1
  have hlt : ¬ 1024 ≤ y / 256 := by omega
  have htm : (va : Int) / 256 % 32 ≤ 31 := by omega
  obtain ⟨z0, z1⟩ := wv_b mem2 p2
  have HW2 : Hid _ := fun w' => l01Word_any mem2 p2 w' hp2 hm2
  rw [hz] at z0 z1 HW2
  clear hz hp2 hm2 h16
  have g1 : bits .and .i64 z 1 = 1 := (and1 z z0 (by omega)).trans f1
  have g14 : (bits .and .i64 z 14 == 0) = false := by
    rw [and14 z z0 (by omega)]
    simp
    omega
  clear f1 hC
  have f5 : ¬ 1024 ≤ z / 256 := by omega
  have i2 : (va : Int) / 256 % 32 ≤ 31 := by omega
  have HSW : Hid _ := fun w' => specSetWord_yes mem3 p3 (bits .or .i64 z 32) w' hp3 hm3
  clear hp3 hm3
  have hc : Hid _ := memC_ok hm
  obtain ⟨hs0, hs1, hs2⟩ := memOk_b hm
  have HS : Hid (s.size ≤ 1099511627776) := (by show s.size ≤ 1099511627776; omega)
  have hv : (decide (262144 ≤ (va : Int))) = false := by
    simp
    omega
  have V1 : Hid (va ≤ 262143) := v1
  have i1 : (va : Int) / 8192 ≤ 31 := by omega
  have hNew : Hid _ := TW.new w s host
  clear hm v1 hs0 hs1 hs2
  go_enter Try.func8, Try.ntmps8
  go_wp2_with (first | (go_at_call 36; refine (specMemFault_any _ _ HS.out).mono ?_; rintro e u1 ⟨rfl, hu1⟩; rw [hu1, hc.out]; clear hu1 u1) | (go_at_call 37; refine (l03Acc_yes _ _ a1 a2).mono ?_; rintro e u2 ⟨rfl, hu2⟩; rw [hu2]; clear hu2 u2) | (go_at_call 38; refine Calls.mono (HP1.out _ _ hNew.out (by have := V1.out; have := hk1.out; omega)) ?_; rintro e v1 ⟨rfl, ht⟩; have HQ1 : Hid _ := ht; obtain ⟨b10, b11, b12, b13, b1f⟩ := HQ1.out.box.cells; (try simp only at b10 b11 b12 b13); clear ht HP1 hNew) | (go_at_call 40; refine Calls.mono (HW1.out _) ?_; rintro e x1 ⟨rfl, q1, hx⟩; have HR1 : Hid (TW w ⟨mem1, host, st1 + 1, 0⟩ x1) := (by rw [hx]; exact (HQ1.out.put2 _).below (bdn (Below.refl _ _) q1)); obtain ⟨d10, d11, d12, d13, d1f⟩ := HR1.out.box.cells; (try simp only at d10 d11 d12 d13); clear hx HQ1 HW1 b10 b11 b12 b13 b1f) | (go_at_call 38; refine Calls.mono (HP2.out _ _ HR1.out (by have := V1.out; have := hk2.out; omega)) ?_; rintro e v2 ⟨rfl, ht⟩; have HQ2 : Hid _ := ht; obtain ⟨b20, b21, b22, b23, b2f⟩ := HQ2.out.box.cells; (try simp only at b20 b21 b22 b23); clear ht HP2 HR1 d10 d11 d12 d13 d1f) | (go_at_call 40; refine Calls.mono (HW2.out _) ?_; rintro e x2 ⟨rfl, q2, hx⟩; have HR2 : Hid (TW w ⟨mem2, host, st2 + 1, 0⟩ x2) := (by rw [hx]; exact (HQ2.out.put2 _).below (bdn (Below.refl _ _) q2)); obtain ⟨d20, d21, d22, d23, d2f⟩ := HR2.out.box.cells; (try simp only at d20 d21 d22 d23); clear hx HQ2 HW2 b20 b21 b22 b23 b2f) | (go_at_call 41; refine (l03May_any _ _ _ _ z0 z1 a1 a2).mono ?_; rintro e u2 ⟨rfl, hu2⟩; rw [hu2]; clear hu2 u2) | (go_at_call 38; refine Calls.mono (HP3.out _ _ HR2.out (by have := V1.out; have := hk2.out; omega)) ?_; rintro e v3 ⟨rfl, ht⟩; have HQ3 : Hid _ := ht; obtain ⟨b30, b31, b32, b33, b3f⟩ := HQ3.out.box.cells; (try simp only at b30 b31 b32 b33); clear ht HP3 HR2 d20 d21 d22 d23 d2f) | (go_at_call 42; refine Calls.mono (HSW.out _) ?_; rintro e y3 ⟨rfl, hy⟩; have HR3 : Hid _ := HQ3.out.below hy; obtain ⟨d30, d31, d32, d33, d3f⟩ := HR3.out.box.cells; (try simp only at d30 d31 d32 d33); clear hy HQ3 HSW b30 b31 b32 b33 b3f) | (go_at_call 38; refine Calls.mono (HP4.out _ _ (HR3.out.put0 _) (by have := V1.out; have := hga.out; omega)) ?_; rintro e v4 ⟨rfl, ht⟩; have HQ4 : Hid _ := ht; obtain ⟨b40, b41, b42, b43, b4f⟩ := HQ4.out.box.cells; (try simp only at b40 b41 b42 b43); clear ht HP4 HR3 d30 d31 d32 d33 d3f) | (go_at_call 39; refine Calls.mono (answer_tw HQ4.out _ _ _) ?_; rintro e y9 ⟨rfl, ht⟩; have HZ : Hid _ := ht; obtain ⟨m0, m1, m2, m3, m4, mf⟩ := cel5 ht.res; clear ht; simp only [twA]))
  refine bodyPost_ret (v := twA ⟨3, (ga : Int), 0, st4, (setv mem3 p3 (bits .or .i64 z 32))⟩) (by simp [results, Try.results8, go_sem, twA, m0, m1, m2, m3, m4]) rfl ⟨rfl, ?_⟩
  have hl : w.heap.size ≤ w.heap.size := Nat.le_refl _
  exact ((((HZ.out.bel.setCell hl _).setCell hl _).setCell hl _).setCell hl _).setCell hl _
set_option maxRecDepth 100000 in
set_option maxHeartbeats 4000000 in
theorem specTwo_B1_put_ok (s : ByteArray) (host root va : Nat) (user : Bool) (w : World) (hm : memOk s = true) (r0 : host ≤ 255) (r1 : root ≤ 255) (v1 : va ≤ 262143) (k1 : Nat) (hk1 : Hid (k1 = root * 256 + 4 * (va / 8192))) (mem1 : ByteArray) (st1 : Int) (p1 : Nat) (y : Int) (hy : wv mem1 p1 = y) (hp1 : p1 + 4 ≤ mem1.size) (hm1 : mem1.size ≤ 65536) (s10 : 0 ≤ st1) (s11 : st1 ≤ 100) (HP1 : Hid (PL w ⟨s, host, 0, 0⟩ k1 1 (p1 : Int) ⟨mem1, host, st1, 0⟩)) (h16 : y % 16 = 1) (T : Nat) (hT : y / 256 = (T : Int)) (hT2 : T < 1024) (k2 : Nat) (hk2 : Hid (k2 = T * 256 + 4 * (va / 256 % 32))) (mem2 : ByteArray) (st2 : Int) (p2 : Nat) (z : Int) (hz : wv mem2 p2 = z) (hp2 : p2 + 4 ≤ mem2.size) (hm2 : mem2.size ≤ 65536) (s20 : 0 ≤ st2) (s21 : st2 ≤ 100) (HP2 : Hid (PL w ⟨mem1, host, st1 + 1, 0⟩ k2 1 (p2 : Int) ⟨mem2, host, st2, 0⟩)) (f1 : z % 2 = 1) (hC : ¬ z % 16 = 1) (f3 : mayV z 1 user = true) (f4 : z / 256 < 1024) (hne : (bits .or .i64 z 32 == z) = false) (ga : Nat) (hga : Hid ((z / 256) * 256 + (va : Int) % 256 = (ga : Int))) (st4 : Int) (mem3 : ByteArray) (st3 : Int) (p3 : Nat) (hp3 : p3 + 4 ≤ mem3.size) (hm3 : mem3.size ≤ 65536) (HP3 : Hid (PL w ⟨mem2, host, st2 + 1, 0⟩ k2 2 (p3 : Int) ⟨mem3, host, st3, 0⟩)) (mem4 : ByteArray) (p4 : Nat) (HP4 : Hid (PL w ⟨(setv mem3 p3 (bits .or .i64 z 32)), host, st3, 0⟩ ga 1 (p4 : Int) ⟨mem4, host, st4, 0⟩)) :
    Calls Try.prog 8 #[.string s, .int .i64 host, .int .i64 root, .int .i64 va, .int .i64 1, .bool user] w fun e w' => e = .returned (twA ⟨0, (ga : Int), (p4 : Int), st4, mem4⟩) ∧ Below w.heap.size w w' := by
  have a1 : (1 : Int) ≤ 1 := by decide
  have a2 : (1 : Int) ≤ 3 := by decide
  obtain ⟨y0, y1⟩ := wv_b mem1 p1
  have HW1 : Hid _ := fun w' => l01Word_any mem1 p1 w' hp1 hm1
  rw [hy] at y0 y1 HW1
  have e1 : bits .and .i64 y 1 = 1 := (and1 y y0 (by omega)).trans (by omega)
  have e14 : (bits .and .i64 y 14 == 0) = true := by
    rw [and14 y y0 (by omega)]
    simp
    omega
  clear hy hp1 hm1
  have hlt : ¬ 1024 ≤ y / 256 := by omega
  have htm : (va : Int) / 256 % 32 ≤ 31 := by omega
  obtain ⟨z0, z1⟩ := wv_b mem2 p2
  have HW2 : Hid _ := fun w' => l01Word_any mem2 p2 w' hp2 hm2
  rw [hz] at z0 z1 HW2
  clear hz hp2 hm2 h16
  have g1 : bits .and .i64 z 1 = 1 := (and1 z z0 (by omega)).trans f1
  have g14 : (bits .and .i64 z 14 == 0) = false := by
    rw [and14 z z0 (by omega)]
    simp
    omega
  clear f1 hC
  have f5 : ¬ 1024 ≤ z / 256 := by omega
  have i2 : (va : Int) / 256 % 32 ≤ 31 := by omega
  have HSW : Hid _ := fun w' => specSetWord_yes mem3 p3 (bits .or .i64 z 32) w' hp3 hm3
  clear hp3 hm3
  have hc : Hid _ := memC_ok hm
  obtain ⟨hs0, hs1, hs2⟩ := memOk_b hm
  have HS : Hid (s.size ≤ 1099511627776) := (by show s.size ≤ 1099511627776; omega)
  have hv : (decide (262144 ≤ (va : Int))) = false := by
    simp
    omega
  have V1 : Hid (va ≤ 262143) := v1
  have i1 : (va : Int) / 8192 ≤ 31 := by omega
  have hNew : Hid _ := TW.new w s host
  clear hm v1 hs0 hs1 hs2
  go_enter Try.func8, Try.ntmps8
  go_wp2_with (first | (go_at_call 36; refine (specMemFault_any _ _ HS.out).mono ?_; rintro e u1 ⟨rfl, hu1⟩; rw [hu1, hc.out]; clear hu1 u1) | (go_at_call 37; refine (l03Acc_yes _ _ a1 a2).mono ?_; rintro e u2 ⟨rfl, hu2⟩; rw [hu2]; clear hu2 u2) | (go_at_call 38; refine Calls.mono (HP1.out _ _ hNew.out (by have := V1.out; have := hk1.out; omega)) ?_; rintro e v1 ⟨rfl, ht⟩; have HQ1 : Hid _ := ht; obtain ⟨b10, b11, b12, b13, b1f⟩ := HQ1.out.box.cells; (try simp only at b10 b11 b12 b13); clear ht HP1 hNew) | (go_at_call 40; refine Calls.mono (HW1.out _) ?_; rintro e x1 ⟨rfl, q1, hx⟩; have HR1 : Hid (TW w ⟨mem1, host, st1 + 1, 0⟩ x1) := (by rw [hx]; exact (HQ1.out.put2 _).below (bdn (Below.refl _ _) q1)); obtain ⟨d10, d11, d12, d13, d1f⟩ := HR1.out.box.cells; (try simp only at d10 d11 d12 d13); clear hx HQ1 HW1 b10 b11 b12 b13 b1f) | (go_at_call 38; refine Calls.mono (HP2.out _ _ HR1.out (by have := V1.out; have := hk2.out; omega)) ?_; rintro e v2 ⟨rfl, ht⟩; have HQ2 : Hid _ := ht; obtain ⟨b20, b21, b22, b23, b2f⟩ := HQ2.out.box.cells; (try simp only at b20 b21 b22 b23); clear ht HP2 HR1 d10 d11 d12 d13 d1f) | (go_at_call 40; refine Calls.mono (HW2.out _) ?_; rintro e x2 ⟨rfl, q2, hx⟩; have HR2 : Hid (TW w ⟨mem2, host, st2 + 1, 0⟩ x2) := (by rw [hx]; exact (HQ2.out.put2 _).below (bdn (Below.refl _ _) q2)); obtain ⟨d20, d21, d22, d23, d2f⟩ := HR2.out.box.cells; (try simp only at d20 d21 d22 d23); clear hx HQ2 HW2 b20 b21 b22 b23 b2f) | (go_at_call 41; refine (l03May_any _ _ _ _ z0 z1 a1 a2).mono ?_; rintro e u2 ⟨rfl, hu2⟩; rw [hu2]; clear hu2 u2) | (go_at_call 38; refine Calls.mono (HP3.out _ _ HR2.out (by have := V1.out; have := hk2.out; omega)) ?_; rintro e v3 ⟨rfl, ht⟩; have HQ3 : Hid _ := ht; obtain ⟨b30, b31, b32, b33, b3f⟩ := HQ3.out.box.cells; (try simp only at b30 b31 b32 b33); clear ht HP3 HR2 d20 d21 d22 d23 d2f) | (go_at_call 42; refine Calls.mono (HSW.out _) ?_; rintro e y3 ⟨rfl, hy⟩; have HR3 : Hid _ := HQ3.out.below hy; obtain ⟨d30, d31, d32, d33, d3f⟩ := HR3.out.box.cells; (try simp only at d30 d31 d32 d33); clear hy HQ3 HSW b30 b31 b32 b33 b3f) | (go_at_call 38; refine Calls.mono (HP4.out _ _ (HR3.out.put0 _) (by have := V1.out; have := hga.out; omega)) ?_; rintro e v4 ⟨rfl, ht⟩; have HQ4 : Hid _ := ht; obtain ⟨b40, b41, b42, b43, b4f⟩ := HQ4.out.box.cells; (try simp only at b40 b41 b42 b43); clear ht HP4 HR3 d30 d31 d32 d33 d3f) | (go_at_call 39; refine Calls.mono (answer_tw HQ4.out _ _ _) ?_; rintro e y9 ⟨rfl, ht⟩; have HZ : Hid _ := ht; obtain ⟨m0, m1, m2, m3, m4, mf⟩ := cel5 ht.res; clear ht; simp only [twA]))
  refine bodyPost_ret (v := twA ⟨0, (ga : Int), (p4 : Int), st4, mem4⟩) (by simp [results, Try.results8, go_sem, twA, m0, m1, m2, m3, m4]; have := hga.out; omega) rfl ⟨rfl, ?_⟩
  have hl : w.heap.size ≤ w.heap.size := Nat.le_refl _
  exact ((((HZ.out.bel.setCell hl _).setCell hl _).setCell hl _).setCell hl _).setCell hl _

set_option maxRecDepth 100000 in
set_option maxHeartbeats 4000000 in
theorem specTwo_B2_nput (s : ByteArray) (host root va : Nat) (user : Bool) (w : World) (hm : memOk s = true) (r0 : host ≤ 255) (r1 : root ≤ 255) (v1 : va ≤ 262143) (k1 : Nat) (hk1 : Hid (k1 = root * 256 + 4 * (va / 8192))) (mem1 : ByteArray) (st1 : Int) (p1 : Nat) (y : Int) (hy : wv mem1 p1 = y) (hp1 : p1 + 4 ≤ mem1.size) (hm1 : mem1.size ≤ 65536) (s10 : 0 ≤ st1) (s11 : st1 ≤ 100) (HP1 : Hid (PL w ⟨s, host, 0, 0⟩ k1 1 (p1 : Int) ⟨mem1, host, st1, 0⟩)) (h16 : y % 16 = 1) (T : Nat) (hT : y / 256 = (T : Int)) (hT2 : T < 1024) (k2 : Nat) (hk2 : Hid (k2 = T * 256 + 4 * (va / 256 % 32))) (mem2 : ByteArray) (st2 : Int) (p2 : Nat) (z : Int) (hz : wv mem2 p2 = z) (hp2 : p2 + 4 ≤ mem2.size) (hm2 : mem2.size ≤ 65536) (s20 : 0 ≤ st2) (s21 : st2 ≤ 100) (HP2 : Hid (PL w ⟨mem1, host, st1 + 1, 0⟩ k2 1 (p2 : Int) ⟨mem2, host, st2, 0⟩)) (f1 : z % 2 = 1) (hC : ¬ z % 16 = 1) (f3 : mayV z 2 user = true) (f4 : z / 256 < 1024) (hne : (bits .or .i64 (bits .or .i64 z 32) 64 == z) = false) (st3 : Int) (HP3 : Hid (PL w ⟨mem2, host, st2 + 1, 0⟩ k2 2 (-1) ⟨mem2, host, st3, (k2 : Int)⟩)) :
    Calls Try.prog 8 #[.string s, .int .i64 host, .int .i64 root, .int .i64 va, .int .i64 2, .bool user] w fun e w' => e = .returned (twA ⟨3, (k2 : Int), 0, st3, mem2⟩) ∧ Below w.heap.size w w' := by
  have a1 : (1 : Int) ≤ 2 := by decide
  have a2 : (2 : Int) ≤ 3 := by decide
  obtain ⟨y0, y1⟩ := wv_b mem1 p1
  have HW1 : Hid _ := fun w' => l01Word_any mem1 p1 w' hp1 hm1
  rw [hy] at y0 y1 HW1
  have e1 : bits .and .i64 y 1 = 1 := (and1 y y0 (by omega)).trans (by omega)
  have e14 : (bits .and .i64 y 14 == 0) = true := by
    rw [and14 y y0 (by omega)]
    simp
    omega
  clear hy hp1 hm1
  have hlt : ¬ 1024 ≤ y / 256 := by omega
  have htm : (va : Int) / 256 % 32 ≤ 31 := by omega
  obtain ⟨z0, z1⟩ := wv_b mem2 p2
  have HW2 : Hid _ := fun w' => l01Word_any mem2 p2 w' hp2 hm2
  rw [hz] at z0 z1 HW2
  clear hz hp2 hm2 h16
  have g1 : bits .and .i64 z 1 = 1 := (and1 z z0 (by omega)).trans f1
  have g14 : (bits .and .i64 z 14 == 0) = false := by
    rw [and14 z z0 (by omega)]
    simp
    omega
  clear f1 hC
  have f5 : ¬ 1024 ≤ z / 256 := by omega
  have i2 : (va : Int) / 256 % 32 ≤ 31 := by omega
  have hc : Hid _ := memC_ok hm
  obtain ⟨hs0, hs1, hs2⟩ := memOk_b hm
  have HS : Hid (s.size ≤ 1099511627776) := (by show s.size ≤ 1099511627776; omega)
  have hv : (decide (262144 ≤ (va : Int))) = false := by
    simp
    omega
  have V1 : Hid (va ≤ 262143) := v1
  have i1 : (va : Int) / 8192 ≤ 31 := by omega
  have hNew : Hid _ := TW.new w s host
  clear hm v1 hs0 hs1 hs2
  go_enter Try.func8, Try.ntmps8
  go_wp2_with (first | (go_at_call 36; refine (specMemFault_any _ _ HS.out).mono ?_; rintro e u1 ⟨rfl, hu1⟩; rw [hu1, hc.out]; clear hu1 u1) | (go_at_call 37; refine (l03Acc_yes _ _ a1 a2).mono ?_; rintro e u2 ⟨rfl, hu2⟩; rw [hu2]; clear hu2 u2) | (go_at_call 38; refine Calls.mono (HP1.out _ _ hNew.out (by have := V1.out; have := hk1.out; omega)) ?_; rintro e v1 ⟨rfl, ht⟩; have HQ1 : Hid _ := ht; obtain ⟨b10, b11, b12, b13, b1f⟩ := HQ1.out.box.cells; (try simp only at b10 b11 b12 b13); clear ht HP1 hNew) | (go_at_call 40; refine Calls.mono (HW1.out _) ?_; rintro e x1 ⟨rfl, q1, hx⟩; have HR1 : Hid (TW w ⟨mem1, host, st1 + 1, 0⟩ x1) := (by rw [hx]; exact (HQ1.out.put2 _).below (bdn (Below.refl _ _) q1)); obtain ⟨d10, d11, d12, d13, d1f⟩ := HR1.out.box.cells; (try simp only at d10 d11 d12 d13); clear hx HQ1 HW1 b10 b11 b12 b13 b1f) | (go_at_call 38; refine Calls.mono (HP2.out _ _ HR1.out (by have := V1.out; have := hk2.out; omega)) ?_; rintro e v2 ⟨rfl, ht⟩; have HQ2 : Hid _ := ht; obtain ⟨b20, b21, b22, b23, b2f⟩ := HQ2.out.box.cells; (try simp only at b20 b21 b22 b23); clear ht HP2 HR1 d10 d11 d12 d13 d1f) | (go_at_call 40; refine Calls.mono (HW2.out _) ?_; rintro e x2 ⟨rfl, q2, hx⟩; have HR2 : Hid (TW w ⟨mem2, host, st2 + 1, 0⟩ x2) := (by rw [hx]; exact (HQ2.out.put2 _).below (bdn (Below.refl _ _) q2)); obtain ⟨d20, d21, d22, d23, d2f⟩ := HR2.out.box.cells; (try simp only at d20 d21 d22 d23); clear hx HQ2 HW2 b20 b21 b22 b23 b2f) | (go_at_call 41; refine (l03May_any _ _ _ _ z0 z1 a1 a2).mono ?_; rintro e u2 ⟨rfl, hu2⟩; rw [hu2]; clear hu2 u2) | (go_at_call 38; refine Calls.mono (HP3.out _ _ HR2.out (by have := V1.out; have := hk2.out; omega)) ?_; rintro e v3 ⟨rfl, ht⟩; have HQ3 : Hid _ := ht; obtain ⟨b30, b31, b32, b33, b3f⟩ := HQ3.out.box.cells; (try simp only at b30 b31 b32 b33); clear ht HP3 HR2 d20 d21 d22 d23 d2f) | (go_at_call 39; refine Calls.mono (answer_tw HQ3.out _ _ _) ?_; rintro e y9 ⟨rfl, ht⟩; have HZ : Hid _ := ht; obtain ⟨m0, m1, m2, m3, m4, mf⟩ := cel5 ht.res; clear ht; simp only [twA]))
  refine bodyPost_ret (v := twA ⟨3, (k2 : Int), 0, st3, mem2⟩) (by simp [results, Try.results8, go_sem, twA, m0, m1, m2, m3, m4]) rfl ⟨rfl, ?_⟩
  have hl : w.heap.size ≤ w.heap.size := Nat.le_refl _
  exact ((((HZ.out.bel.setCell hl _).setCell hl _).setCell hl _).setCell hl _).setCell hl _
set_option maxRecDepth 100000 in
set_option maxHeartbeats 4000000 in
theorem specTwo_B2_same_no (s : ByteArray) (host root va : Nat) (user : Bool) (w : World) (hm : memOk s = true) (r0 : host ≤ 255) (r1 : root ≤ 255) (v1 : va ≤ 262143) (k1 : Nat) (hk1 : Hid (k1 = root * 256 + 4 * (va / 8192))) (mem1 : ByteArray) (st1 : Int) (p1 : Nat) (y : Int) (hy : wv mem1 p1 = y) (hp1 : p1 + 4 ≤ mem1.size) (hm1 : mem1.size ≤ 65536) (s10 : 0 ≤ st1) (s11 : st1 ≤ 100) (HP1 : Hid (PL w ⟨s, host, 0, 0⟩ k1 1 (p1 : Int) ⟨mem1, host, st1, 0⟩)) (h16 : y % 16 = 1) (T : Nat) (hT : y / 256 = (T : Int)) (hT2 : T < 1024) (k2 : Nat) (hk2 : Hid (k2 = T * 256 + 4 * (va / 256 % 32))) (mem2 : ByteArray) (st2 : Int) (p2 : Nat) (z : Int) (hz : wv mem2 p2 = z) (hp2 : p2 + 4 ≤ mem2.size) (hm2 : mem2.size ≤ 65536) (s20 : 0 ≤ st2) (s21 : st2 ≤ 100) (HP2 : Hid (PL w ⟨mem1, host, st1 + 1, 0⟩ k2 1 (p2 : Int) ⟨mem2, host, st2, 0⟩)) (f1 : z % 2 = 1) (hC : ¬ z % 16 = 1) (f3 : mayV z 2 user = true) (f4 : z / 256 < 1024) (hsame : bits .or .i64 (bits .or .i64 z 32) 64 = z) (ga : Nat) (hga : Hid ((z / 256) * 256 + (va : Int) % 256 = (ga : Int))) (st4 : Int) (HP4 : Hid (PL w ⟨mem2, host, st2 + 1, 0⟩ ga 2 (-1) ⟨mem2, host, st4, (ga : Int)⟩)) :
    Calls Try.prog 8 #[.string s, .int .i64 host, .int .i64 root, .int .i64 va, .int .i64 2, .bool user] w fun e w' => e = .returned (twA ⟨3, (ga : Int), 0, st4, mem2⟩) ∧ Below w.heap.size w w' := by
  have a1 : (1 : Int) ≤ 2 := by decide
  have a2 : (2 : Int) ≤ 3 := by decide
  obtain ⟨y0, y1⟩ := wv_b mem1 p1
  have HW1 : Hid _ := fun w' => l01Word_any mem1 p1 w' hp1 hm1
  rw [hy] at y0 y1 HW1
  have e1 : bits .and .i64 y 1 = 1 := (and1 y y0 (by omega)).trans (by omega)
  have e14 : (bits .and .i64 y 14 == 0) = true := by
    rw [and14 y y0 (by omega)]
    simp
    omega
  clear hy hp1 hm1
  have hlt : ¬ 1024 ≤ y / 256 := by omega
  have htm : (va : Int) / 256 % 32 ≤ 31 := by omega
  obtain ⟨z0, z1⟩ := wv_b mem2 p2
  have HW2 : Hid _ := fun w' => l01Word_any mem2 p2 w' hp2 hm2
  rw [hz] at z0 z1 HW2
  clear hz hp2 hm2 h16
  have g1 : bits .and .i64 z 1 = 1 := (and1 z z0 (by omega)).trans f1
  have g14 : (bits .and .i64 z 14 == 0) = false := by
    rw [and14 z z0 (by omega)]
    simp
    omega
  clear f1 hC
  have f5 : ¬ 1024 ≤ z / 256 := by omega
  have i2 : (va : Int) / 256 % 32 ≤ 31 := by omega
  have hc : Hid _ := memC_ok hm
  obtain ⟨hs0, hs1, hs2⟩ := memOk_b hm
  have HS : Hid (s.size ≤ 1099511627776) := (by show s.size ≤ 1099511627776; omega)
  have hv : (decide (262144 ≤ (va : Int))) = false := by
    simp
    omega
  have V1 : Hid (va ≤ 262143) := v1
  have i1 : (va : Int) / 8192 ≤ 31 := by omega
  have hNew : Hid _ := TW.new w s host
  clear hm v1 hs0 hs1 hs2
  go_enter Try.func8, Try.ntmps8
  go_wp2_with (first | (go_at_call 36; refine (specMemFault_any _ _ HS.out).mono ?_; rintro e u1 ⟨rfl, hu1⟩; rw [hu1, hc.out]; clear hu1 u1) | (go_at_call 37; refine (l03Acc_yes _ _ a1 a2).mono ?_; rintro e u2 ⟨rfl, hu2⟩; rw [hu2]; clear hu2 u2) | (go_at_call 38; refine Calls.mono (HP1.out _ _ hNew.out (by have := V1.out; have := hk1.out; omega)) ?_; rintro e v1 ⟨rfl, ht⟩; have HQ1 : Hid _ := ht; obtain ⟨b10, b11, b12, b13, b1f⟩ := HQ1.out.box.cells; (try simp only at b10 b11 b12 b13); clear ht HP1 hNew) | (go_at_call 40; refine Calls.mono (HW1.out _) ?_; rintro e x1 ⟨rfl, q1, hx⟩; have HR1 : Hid (TW w ⟨mem1, host, st1 + 1, 0⟩ x1) := (by rw [hx]; exact (HQ1.out.put2 _).below (bdn (Below.refl _ _) q1)); obtain ⟨d10, d11, d12, d13, d1f⟩ := HR1.out.box.cells; (try simp only at d10 d11 d12 d13); clear hx HQ1 HW1 b10 b11 b12 b13 b1f) | (go_at_call 38; refine Calls.mono (HP2.out _ _ HR1.out (by have := V1.out; have := hk2.out; omega)) ?_; rintro e v2 ⟨rfl, ht⟩; have HQ2 : Hid _ := ht; obtain ⟨b20, b21, b22, b23, b2f⟩ := HQ2.out.box.cells; (try simp only at b20 b21 b22 b23); clear ht HP2 HR1 d10 d11 d12 d13 d1f) | (go_at_call 40; refine Calls.mono (HW2.out _) ?_; rintro e x2 ⟨rfl, q2, hx⟩; have HR2 : Hid (TW w ⟨mem2, host, st2 + 1, 0⟩ x2) := (by rw [hx]; exact (HQ2.out.put2 _).below (bdn (Below.refl _ _) q2)); obtain ⟨d20, d21, d22, d23, d2f⟩ := HR2.out.box.cells; (try simp only at d20 d21 d22 d23); clear hx HQ2 HW2 b20 b21 b22 b23 b2f) | (go_at_call 41; refine (l03May_any _ _ _ _ z0 z1 a1 a2).mono ?_; rintro e u2 ⟨rfl, hu2⟩; rw [hu2]; clear hu2 u2) | (go_at_call 38; refine Calls.mono (HP4.out _ _ HR2.out (by have := V1.out; have := hga.out; omega)) ?_; rintro e v4 ⟨rfl, ht⟩; have HQ4 : Hid _ := ht; obtain ⟨b40, b41, b42, b43, b4f⟩ := HQ4.out.box.cells; (try simp only at b40 b41 b42 b43); clear ht HP4 HR2 d20 d21 d22 d23 d2f) | (go_at_call 39; refine Calls.mono (answer_tw HQ4.out _ _ _) ?_; rintro e y9 ⟨rfl, ht⟩; have HZ : Hid _ := ht; obtain ⟨m0, m1, m2, m3, m4, mf⟩ := cel5 ht.res; clear ht; simp only [twA]))
  refine bodyPost_ret (v := twA ⟨3, (ga : Int), 0, st4, mem2⟩) (by simp [results, Try.results8, go_sem, twA, m0, m1, m2, m3, m4]) rfl ⟨rfl, ?_⟩
  have hl : w.heap.size ≤ w.heap.size := Nat.le_refl _
  exact ((((HZ.out.bel.setCell hl _).setCell hl _).setCell hl _).setCell hl _).setCell hl _
set_option maxRecDepth 100000 in
set_option maxHeartbeats 4000000 in
theorem specTwo_B2_same_ok (s : ByteArray) (host root va : Nat) (user : Bool) (w : World) (hm : memOk s = true) (r0 : host ≤ 255) (r1 : root ≤ 255) (v1 : va ≤ 262143) (k1 : Nat) (hk1 : Hid (k1 = root * 256 + 4 * (va / 8192))) (mem1 : ByteArray) (st1 : Int) (p1 : Nat) (y : Int) (hy : wv mem1 p1 = y) (hp1 : p1 + 4 ≤ mem1.size) (hm1 : mem1.size ≤ 65536) (s10 : 0 ≤ st1) (s11 : st1 ≤ 100) (HP1 : Hid (PL w ⟨s, host, 0, 0⟩ k1 1 (p1 : Int) ⟨mem1, host, st1, 0⟩)) (h16 : y % 16 = 1) (T : Nat) (hT : y / 256 = (T : Int)) (hT2 : T < 1024) (k2 : Nat) (hk2 : Hid (k2 = T * 256 + 4 * (va / 256 % 32))) (mem2 : ByteArray) (st2 : Int) (p2 : Nat) (z : Int) (hz : wv mem2 p2 = z) (hp2 : p2 + 4 ≤ mem2.size) (hm2 : mem2.size ≤ 65536) (s20 : 0 ≤ st2) (s21 : st2 ≤ 100) (HP2 : Hid (PL w ⟨mem1, host, st1 + 1, 0⟩ k2 1 (p2 : Int) ⟨mem2, host, st2, 0⟩)) (f1 : z % 2 = 1) (hC : ¬ z % 16 = 1) (f3 : mayV z 2 user = true) (f4 : z / 256 < 1024) (hsame : bits .or .i64 (bits .or .i64 z 32) 64 = z) (ga : Nat) (hga : Hid ((z / 256) * 256 + (va : Int) % 256 = (ga : Int))) (st4 : Int) (mem4 : ByteArray) (p4 : Nat) (HP4 : Hid (PL w ⟨mem2, host, st2 + 1, 0⟩ ga 2 (p4 : Int) ⟨mem4, host, st4, 0⟩)) :
    Calls Try.prog 8 #[.string s, .int .i64 host, .int .i64 root, .int .i64 va, .int .i64 2, .bool user] w fun e w' => e = .returned (twA ⟨0, (ga : Int), (p4 : Int), st4, mem4⟩) ∧ Below w.heap.size w w' := by
  have a1 : (1 : Int) ≤ 2 := by decide
  have a2 : (2 : Int) ≤ 3 := by decide
  obtain ⟨y0, y1⟩ := wv_b mem1 p1
  have HW1 : Hid _ := fun w' => l01Word_any mem1 p1 w' hp1 hm1
  rw [hy] at y0 y1 HW1
  have e1 : bits .and .i64 y 1 = 1 := (and1 y y0 (by omega)).trans (by omega)
  have e14 : (bits .and .i64 y 14 == 0) = true := by
    rw [and14 y y0 (by omega)]
    simp
    omega
  clear hy hp1 hm1
  have hlt : ¬ 1024 ≤ y / 256 := by omega
  have htm : (va : Int) / 256 % 32 ≤ 31 := by omega
  obtain ⟨z0, z1⟩ := wv_b mem2 p2
  have HW2 : Hid _ := fun w' => l01Word_any mem2 p2 w' hp2 hm2
  rw [hz] at z0 z1 HW2
  clear hz hp2 hm2 h16
  have g1 : bits .and .i64 z 1 = 1 := (and1 z z0 (by omega)).trans f1
  have g14 : (bits .and .i64 z 14 == 0) = false := by
    rw [and14 z z0 (by omega)]
    simp
    omega
  clear f1 hC
  have f5 : ¬ 1024 ≤ z / 256 := by omega
  have i2 : (va : Int) / 256 % 32 ≤ 31 := by omega
  have hc : Hid _ := memC_ok hm
  obtain ⟨hs0, hs1, hs2⟩ := memOk_b hm
  have HS : Hid (s.size ≤ 1099511627776) := (by show s.size ≤ 1099511627776; omega)
  have hv : (decide (262144 ≤ (va : Int))) = false := by
    simp
    omega
  have V1 : Hid (va ≤ 262143) := v1
  have i1 : (va : Int) / 8192 ≤ 31 := by omega
  have hNew : Hid _ := TW.new w s host
  clear hm v1 hs0 hs1 hs2
  go_enter Try.func8, Try.ntmps8
  go_wp2_with (first | (go_at_call 36; refine (specMemFault_any _ _ HS.out).mono ?_; rintro e u1 ⟨rfl, hu1⟩; rw [hu1, hc.out]; clear hu1 u1) | (go_at_call 37; refine (l03Acc_yes _ _ a1 a2).mono ?_; rintro e u2 ⟨rfl, hu2⟩; rw [hu2]; clear hu2 u2) | (go_at_call 38; refine Calls.mono (HP1.out _ _ hNew.out (by have := V1.out; have := hk1.out; omega)) ?_; rintro e v1 ⟨rfl, ht⟩; have HQ1 : Hid _ := ht; obtain ⟨b10, b11, b12, b13, b1f⟩ := HQ1.out.box.cells; (try simp only at b10 b11 b12 b13); clear ht HP1 hNew) | (go_at_call 40; refine Calls.mono (HW1.out _) ?_; rintro e x1 ⟨rfl, q1, hx⟩; have HR1 : Hid (TW w ⟨mem1, host, st1 + 1, 0⟩ x1) := (by rw [hx]; exact (HQ1.out.put2 _).below (bdn (Below.refl _ _) q1)); obtain ⟨d10, d11, d12, d13, d1f⟩ := HR1.out.box.cells; (try simp only at d10 d11 d12 d13); clear hx HQ1 HW1 b10 b11 b12 b13 b1f) | (go_at_call 38; refine Calls.mono (HP2.out _ _ HR1.out (by have := V1.out; have := hk2.out; omega)) ?_; rintro e v2 ⟨rfl, ht⟩; have HQ2 : Hid _ := ht; obtain ⟨b20, b21, b22, b23, b2f⟩ := HQ2.out.box.cells; (try simp only at b20 b21 b22 b23); clear ht HP2 HR1 d10 d11 d12 d13 d1f) | (go_at_call 40; refine Calls.mono (HW2.out _) ?_; rintro e x2 ⟨rfl, q2, hx⟩; have HR2 : Hid (TW w ⟨mem2, host, st2 + 1, 0⟩ x2) := (by rw [hx]; exact (HQ2.out.put2 _).below (bdn (Below.refl _ _) q2)); obtain ⟨d20, d21, d22, d23, d2f⟩ := HR2.out.box.cells; (try simp only at d20 d21 d22 d23); clear hx HQ2 HW2 b20 b21 b22 b23 b2f) | (go_at_call 41; refine (l03May_any _ _ _ _ z0 z1 a1 a2).mono ?_; rintro e u2 ⟨rfl, hu2⟩; rw [hu2]; clear hu2 u2) | (go_at_call 38; refine Calls.mono (HP4.out _ _ HR2.out (by have := V1.out; have := hga.out; omega)) ?_; rintro e v4 ⟨rfl, ht⟩; have HQ4 : Hid _ := ht; obtain ⟨b40, b41, b42, b43, b4f⟩ := HQ4.out.box.cells; (try simp only at b40 b41 b42 b43); clear ht HP4 HR2 d20 d21 d22 d23 d2f) | (go_at_call 39; refine Calls.mono (answer_tw HQ4.out _ _ _) ?_; rintro e y9 ⟨rfl, ht⟩; have HZ : Hid _ := ht; obtain ⟨m0, m1, m2, m3, m4, mf⟩ := cel5 ht.res; clear ht; simp only [twA]))
  refine bodyPost_ret (v := twA ⟨0, (ga : Int), (p4 : Int), st4, mem4⟩) (by simp [results, Try.results8, go_sem, twA, m0, m1, m2, m3, m4]; have := hga.out; omega) rfl ⟨rfl, ?_⟩
  have hl : w.heap.size ≤ w.heap.size := Nat.le_refl _
  exact ((((HZ.out.bel.setCell hl _).setCell hl _).setCell hl _).setCell hl _).setCell hl _
set_option maxRecDepth 100000 in
set_option maxHeartbeats 4000000 in
theorem specTwo_B2_put_no (s : ByteArray) (host root va : Nat) (user : Bool) (w : World) (hm : memOk s = true) (r0 : host ≤ 255) (r1 : root ≤ 255) (v1 : va ≤ 262143) (k1 : Nat) (hk1 : Hid (k1 = root * 256 + 4 * (va / 8192))) (mem1 : ByteArray) (st1 : Int) (p1 : Nat) (y : Int) (hy : wv mem1 p1 = y) (hp1 : p1 + 4 ≤ mem1.size) (hm1 : mem1.size ≤ 65536) (s10 : 0 ≤ st1) (s11 : st1 ≤ 100) (HP1 : Hid (PL w ⟨s, host, 0, 0⟩ k1 1 (p1 : Int) ⟨mem1, host, st1, 0⟩)) (h16 : y % 16 = 1) (T : Nat) (hT : y / 256 = (T : Int)) (hT2 : T < 1024) (k2 : Nat) (hk2 : Hid (k2 = T * 256 + 4 * (va / 256 % 32))) (mem2 : ByteArray) (st2 : Int) (p2 : Nat) (z : Int) (hz : wv mem2 p2 = z) (hp2 : p2 + 4 ≤ mem2.size) (hm2 : mem2.size ≤ 65536) (s20 : 0 ≤ st2) (s21 : st2 ≤ 100) (HP2 : Hid (PL w ⟨mem1, host, st1 + 1, 0⟩ k2 1 (p2 : Int) ⟨mem2, host, st2, 0⟩)) (f1 : z % 2 = 1) (hC : ¬ z % 16 = 1) (f3 : mayV z 2 user = true) (f4 : z / 256 < 1024) (hne : (bits .or .i64 (bits .or .i64 z 32) 64 == z) = false) (ga : Nat) (hga : Hid ((z / 256) * 256 + (va : Int) % 256 = (ga : Int))) (st4 : Int) (mem3 : ByteArray) (st3 : Int) (p3 : Nat) (hp3 : p3 + 4 ≤ mem3.size) (hm3 : mem3.size ≤ 65536) (HP3 : Hid (PL w ⟨mem2, host, st2 + 1, 0⟩ k2 2 (p3 : Int) ⟨mem3, host, st3, 0⟩)) (HP4 : Hid (PL w ⟨(setv mem3 p3 (bits .or .i64 (bits .or .i64 z 32) 64)), host, st3, 0⟩ ga 2 (-1) ⟨(setv mem3 p3 (bits .or .i64 (bits .or .i64 z 32) 64)), host, st4, (ga : Int)⟩)) :
    Calls Try.prog 8 #[.string s, .int .i64 host, .int .i64 root, .int .i64 va, .int .i64 2, .bool user] w fun e w' => e = .returned (twA ⟨3, (ga : Int), 0, st4, (setv mem3 p3 (bits .or .i64 (bits .or .i64 z 32) 64))⟩) ∧ Below w.heap.size w w' := by
  have a1 : (1 : Int) ≤ 2 := by decide
  have a2 : (2 : Int) ≤ 3 := by decide
  obtain ⟨y0, y1⟩ := wv_b mem1 p1
  have HW1 : Hid _ := fun w' => l01Word_any mem1 p1 w' hp1 hm1
  rw [hy] at y0 y1 HW1
  have e1 : bits .and .i64 y 1 = 1 := (and1 y y0 (by omega)).trans (by omega)
  have e14 : (bits .and .i64 y 14 == 0) = true := by
    rw [and14 y y0 (by omega)]
    simp
    omega
  clear hy hp1 hm1
  have hlt : ¬ 1024 ≤ y / 256 := by omega
  have htm : (va : Int) / 256 % 32 ≤ 31 := by omega
  obtain ⟨z0, z1⟩ := wv_b mem2 p2
  have HW2 : Hid _ := fun w' => l01Word_any mem2 p2 w' hp2 hm2
  rw [hz] at z0 z1 HW2
  clear hz hp2 hm2 h16
  have g1 : bits .and .i64 z 1 = 1 := (and1 z z0 (by omega)).trans f1
  have g14 : (bits .and .i64 z 14 == 0) = false := by
    rw [and14 z z0 (by omega)]
    simp
    omega
  clear f1 hC
  have f5 : ¬ 1024 ≤ z / 256 := by omega
  have i2 : (va : Int) / 256 % 32 ≤ 31 := by omega
  have HSW : Hid _ := fun w' => specSetWord_yes mem3 p3 (bits .or .i64 (bits .or .i64 z 32) 64) w' hp3 hm3
  clear hp3 hm3
  have hc : Hid _ := memC_ok hm
  obtain ⟨hs0, hs1, hs2⟩ := memOk_b hm
  have HS : Hid (s.size ≤ 1099511627776) := (by show s.size ≤ 1099511627776; omega)
  have hv : (decide (262144 ≤ (va : Int))) = false := by
    simp
    omega
  have V1 : Hid (va ≤ 262143) := v1
  have i1 : (va : Int) / 8192 ≤ 31 := by omega
  have hNew : Hid _ := TW.new w s host
  clear hm v1 hs0 hs1 hs2
  go_enter Try.func8, Try.ntmps8
  go_wp2_with (first | (go_at_call 36; refine (specMemFault_any _ _ HS.out).mono ?_; rintro e u1 ⟨rfl, hu1⟩; rw [hu1, hc.out]; clear hu1 u1) | (go_at_call 37; refine (l03Acc_yes _ _ a1 a2).mono ?_; rintro e u2 ⟨rfl, hu2⟩; rw [hu2]; clear hu2 u2) | (go_at_call 38; refine Calls.mono (HP1.out _ _ hNew.out (by have := V1.out; have := hk1.out; omega)) ?_; rintro e v1 ⟨rfl, ht⟩; have HQ1 : Hid _ := ht; obtain ⟨b10, b11, b12, b13, b1f⟩ := HQ1.out.box.cells; (try simp only at b10 b11 b12 b13); clear ht HP1 hNew) | (go_at_call 40; refine Calls.mono (HW1.out _) ?_; rintro e x1 ⟨rfl, q1, hx⟩; have HR1 : Hid (TW w ⟨mem1, host, st1 + 1, 0⟩ x1) := (by rw [hx]; exact (HQ1.out.put2 _).below (bdn (Below.refl _ _) q1)); obtain ⟨d10, d11, d12, d13, d1f⟩ := HR1.out.box.cells; (try simp only at d10 d11 d12 d13); clear hx HQ1 HW1 b10 b11 b12 b13 b1f) | (go_at_call 38; refine Calls.mono (HP2.out _ _ HR1.out (by have := V1.out; have := hk2.out; omega)) ?_; rintro e v2 ⟨rfl, ht⟩; have HQ2 : Hid _ := ht; obtain ⟨b20, b21, b22, b23, b2f⟩ := HQ2.out.box.cells; (try simp only at b20 b21 b22 b23); clear ht HP2 HR1 d10 d11 d12 d13 d1f) | (go_at_call 40; refine Calls.mono (HW2.out _) ?_; rintro e x2 ⟨rfl, q2, hx⟩; have HR2 : Hid (TW w ⟨mem2, host, st2 + 1, 0⟩ x2) := (by rw [hx]; exact (HQ2.out.put2 _).below (bdn (Below.refl _ _) q2)); obtain ⟨d20, d21, d22, d23, d2f⟩ := HR2.out.box.cells; (try simp only at d20 d21 d22 d23); clear hx HQ2 HW2 b20 b21 b22 b23 b2f) | (go_at_call 41; refine (l03May_any _ _ _ _ z0 z1 a1 a2).mono ?_; rintro e u2 ⟨rfl, hu2⟩; rw [hu2]; clear hu2 u2) | (go_at_call 38; refine Calls.mono (HP3.out _ _ HR2.out (by have := V1.out; have := hk2.out; omega)) ?_; rintro e v3 ⟨rfl, ht⟩; have HQ3 : Hid _ := ht; obtain ⟨b30, b31, b32, b33, b3f⟩ := HQ3.out.box.cells; (try simp only at b30 b31 b32 b33); clear ht HP3 HR2 d20 d21 d22 d23 d2f) | (go_at_call 42; refine Calls.mono (HSW.out _) ?_; rintro e y3 ⟨rfl, hy⟩; have HR3 : Hid _ := HQ3.out.below hy; obtain ⟨d30, d31, d32, d33, d3f⟩ := HR3.out.box.cells; (try simp only at d30 d31 d32 d33); clear hy HQ3 HSW b30 b31 b32 b33 b3f) | (go_at_call 38; refine Calls.mono (HP4.out _ _ (HR3.out.put0 _) (by have := V1.out; have := hga.out; omega)) ?_; rintro e v4 ⟨rfl, ht⟩; have HQ4 : Hid _ := ht; obtain ⟨b40, b41, b42, b43, b4f⟩ := HQ4.out.box.cells; (try simp only at b40 b41 b42 b43); clear ht HP4 HR3 d30 d31 d32 d33 d3f) | (go_at_call 39; refine Calls.mono (answer_tw HQ4.out _ _ _) ?_; rintro e y9 ⟨rfl, ht⟩; have HZ : Hid _ := ht; obtain ⟨m0, m1, m2, m3, m4, mf⟩ := cel5 ht.res; clear ht; simp only [twA]))
  refine bodyPost_ret (v := twA ⟨3, (ga : Int), 0, st4, (setv mem3 p3 (bits .or .i64 (bits .or .i64 z 32) 64))⟩) (by simp [results, Try.results8, go_sem, twA, m0, m1, m2, m3, m4]) rfl ⟨rfl, ?_⟩
  have hl : w.heap.size ≤ w.heap.size := Nat.le_refl _
  exact ((((HZ.out.bel.setCell hl _).setCell hl _).setCell hl _).setCell hl _).setCell hl _
set_option maxRecDepth 100000 in
set_option maxHeartbeats 4000000 in
theorem specTwo_B2_put_ok (s : ByteArray) (host root va : Nat) (user : Bool) (w : World) (hm : memOk s = true) (r0 : host ≤ 255) (r1 : root ≤ 255) (v1 : va ≤ 262143) (k1 : Nat) (hk1 : Hid (k1 = root * 256 + 4 * (va / 8192))) (mem1 : ByteArray) (st1 : Int) (p1 : Nat) (y : Int) (hy : wv mem1 p1 = y) (hp1 : p1 + 4 ≤ mem1.size) (hm1 : mem1.size ≤ 65536) (s10 : 0 ≤ st1) (s11 : st1 ≤ 100) (HP1 : Hid (PL w ⟨s, host, 0, 0⟩ k1 1 (p1 : Int) ⟨mem1, host, st1, 0⟩)) (h16 : y % 16 = 1) (T : Nat) (hT : y / 256 = (T : Int)) (hT2 : T < 1024) (k2 : Nat) (hk2 : Hid (k2 = T * 256 + 4 * (va / 256 % 32))) (mem2 : ByteArray) (st2 : Int) (p2 : Nat) (z : Int) (hz : wv mem2 p2 = z) (hp2 : p2 + 4 ≤ mem2.size) (hm2 : mem2.size ≤ 65536) (s20 : 0 ≤ st2) (s21 : st2 ≤ 100) (HP2 : Hid (PL w ⟨mem1, host, st1 + 1, 0⟩ k2 1 (p2 : Int) ⟨mem2, host, st2, 0⟩)) (f1 : z % 2 = 1) (hC : ¬ z % 16 = 1) (f3 : mayV z 2 user = true) (f4 : z / 256 < 1024) (hne : (bits .or .i64 (bits .or .i64 z 32) 64 == z) = false) (ga : Nat) (hga : Hid ((z / 256) * 256 + (va : Int) % 256 = (ga : Int))) (st4 : Int) (mem3 : ByteArray) (st3 : Int) (p3 : Nat) (hp3 : p3 + 4 ≤ mem3.size) (hm3 : mem3.size ≤ 65536) (HP3 : Hid (PL w ⟨mem2, host, st2 + 1, 0⟩ k2 2 (p3 : Int) ⟨mem3, host, st3, 0⟩)) (mem4 : ByteArray) (p4 : Nat) (HP4 : Hid (PL w ⟨(setv mem3 p3 (bits .or .i64 (bits .or .i64 z 32) 64)), host, st3, 0⟩ ga 2 (p4 : Int) ⟨mem4, host, st4, 0⟩)) :
    Calls Try.prog 8 #[.string s, .int .i64 host, .int .i64 root, .int .i64 va, .int .i64 2, .bool user] w fun e w' => e = .returned (twA ⟨0, (ga : Int), (p4 : Int), st4, mem4⟩) ∧ Below w.heap.size w w' := by
  have a1 : (1 : Int) ≤ 2 := by decide
  have a2 : (2 : Int) ≤ 3 := by decide
  obtain ⟨y0, y1⟩ := wv_b mem1 p1
  have HW1 : Hid _ := fun w' => l01Word_any mem1 p1 w' hp1 hm1
  rw [hy] at y0 y1 HW1
  have e1 : bits .and .i64 y 1 = 1 := (and1 y y0 (by omega)).trans (by omega)
  have e14 : (bits .and .i64 y 14 == 0) = true := by
    rw [and14 y y0 (by omega)]
    simp
    omega
  clear hy hp1 hm1
  have hlt : ¬ 1024 ≤ y / 256 := by omega
  have htm : (va : Int) / 256 % 32 ≤ 31 := by omega
  obtain ⟨z0, z1⟩ := wv_b mem2 p2
  have HW2 : Hid _ := fun w' => l01Word_any mem2 p2 w' hp2 hm2
  rw [hz] at z0 z1 HW2
  clear hz hp2 hm2 h16
  have g1 : bits .and .i64 z 1 = 1 := (and1 z z0 (by omega)).trans f1
  have g14 : (bits .and .i64 z 14 == 0) = false := by
    rw [and14 z z0 (by omega)]
    simp
    omega
  clear f1 hC
  have f5 : ¬ 1024 ≤ z / 256 := by omega
  have i2 : (va : Int) / 256 % 32 ≤ 31 := by omega
  have HSW : Hid _ := fun w' => specSetWord_yes mem3 p3 (bits .or .i64 (bits .or .i64 z 32) 64) w' hp3 hm3
  clear hp3 hm3
  have hc : Hid _ := memC_ok hm
  obtain ⟨hs0, hs1, hs2⟩ := memOk_b hm
  have HS : Hid (s.size ≤ 1099511627776) := (by show s.size ≤ 1099511627776; omega)
  have hv : (decide (262144 ≤ (va : Int))) = false := by
    simp
    omega
  have V1 : Hid (va ≤ 262143) := v1
  have i1 : (va : Int) / 8192 ≤ 31 := by omega
  have hNew : Hid _ := TW.new w s host
  clear hm v1 hs0 hs1 hs2
  go_enter Try.func8, Try.ntmps8
  go_wp2_with (first | (go_at_call 36; refine (specMemFault_any _ _ HS.out).mono ?_; rintro e u1 ⟨rfl, hu1⟩; rw [hu1, hc.out]; clear hu1 u1) | (go_at_call 37; refine (l03Acc_yes _ _ a1 a2).mono ?_; rintro e u2 ⟨rfl, hu2⟩; rw [hu2]; clear hu2 u2) | (go_at_call 38; refine Calls.mono (HP1.out _ _ hNew.out (by have := V1.out; have := hk1.out; omega)) ?_; rintro e v1 ⟨rfl, ht⟩; have HQ1 : Hid _ := ht; obtain ⟨b10, b11, b12, b13, b1f⟩ := HQ1.out.box.cells; (try simp only at b10 b11 b12 b13); clear ht HP1 hNew) | (go_at_call 40; refine Calls.mono (HW1.out _) ?_; rintro e x1 ⟨rfl, q1, hx⟩; have HR1 : Hid (TW w ⟨mem1, host, st1 + 1, 0⟩ x1) := (by rw [hx]; exact (HQ1.out.put2 _).below (bdn (Below.refl _ _) q1)); obtain ⟨d10, d11, d12, d13, d1f⟩ := HR1.out.box.cells; (try simp only at d10 d11 d12 d13); clear hx HQ1 HW1 b10 b11 b12 b13 b1f) | (go_at_call 38; refine Calls.mono (HP2.out _ _ HR1.out (by have := V1.out; have := hk2.out; omega)) ?_; rintro e v2 ⟨rfl, ht⟩; have HQ2 : Hid _ := ht; obtain ⟨b20, b21, b22, b23, b2f⟩ := HQ2.out.box.cells; (try simp only at b20 b21 b22 b23); clear ht HP2 HR1 d10 d11 d12 d13 d1f) | (go_at_call 40; refine Calls.mono (HW2.out _) ?_; rintro e x2 ⟨rfl, q2, hx⟩; have HR2 : Hid (TW w ⟨mem2, host, st2 + 1, 0⟩ x2) := (by rw [hx]; exact (HQ2.out.put2 _).below (bdn (Below.refl _ _) q2)); obtain ⟨d20, d21, d22, d23, d2f⟩ := HR2.out.box.cells; (try simp only at d20 d21 d22 d23); clear hx HQ2 HW2 b20 b21 b22 b23 b2f) | (go_at_call 41; refine (l03May_any _ _ _ _ z0 z1 a1 a2).mono ?_; rintro e u2 ⟨rfl, hu2⟩; rw [hu2]; clear hu2 u2) | (go_at_call 38; refine Calls.mono (HP3.out _ _ HR2.out (by have := V1.out; have := hk2.out; omega)) ?_; rintro e v3 ⟨rfl, ht⟩; have HQ3 : Hid _ := ht; obtain ⟨b30, b31, b32, b33, b3f⟩ := HQ3.out.box.cells; (try simp only at b30 b31 b32 b33); clear ht HP3 HR2 d20 d21 d22 d23 d2f) | (go_at_call 42; refine Calls.mono (HSW.out _) ?_; rintro e y3 ⟨rfl, hy⟩; have HR3 : Hid _ := HQ3.out.below hy; obtain ⟨d30, d31, d32, d33, d3f⟩ := HR3.out.box.cells; (try simp only at d30 d31 d32 d33); clear hy HQ3 HSW b30 b31 b32 b33 b3f) | (go_at_call 38; refine Calls.mono (HP4.out _ _ (HR3.out.put0 _) (by have := V1.out; have := hga.out; omega)) ?_; rintro e v4 ⟨rfl, ht⟩; have HQ4 : Hid _ := ht; obtain ⟨b40, b41, b42, b43, b4f⟩ := HQ4.out.box.cells; (try simp only at b40 b41 b42 b43); clear ht HP4 HR3 d30 d31 d32 d33 d3f) | (go_at_call 39; refine Calls.mono (answer_tw HQ4.out _ _ _) ?_; rintro e y9 ⟨rfl, ht⟩; have HZ : Hid _ := ht; obtain ⟨m0, m1, m2, m3, m4, mf⟩ := cel5 ht.res; clear ht; simp only [twA]))
  refine bodyPost_ret (v := twA ⟨0, (ga : Int), (p4 : Int), st4, mem4⟩) (by simp [results, Try.results8, go_sem, twA, m0, m1, m2, m3, m4]; have := hga.out; omega) rfl ⟨rfl, ?_⟩
  have hl : w.heap.size ≤ w.heap.size := Nat.le_refl _
  exact ((((HZ.out.bel.setCell hl _).setCell hl _).setCell hl _).setCell hl _).setCell hl _

set_option maxRecDepth 100000 in
set_option maxHeartbeats 4000000 in
theorem specTwo_B3_nput (s : ByteArray) (host root va : Nat) (user : Bool) (w : World) (hm : memOk s = true) (r0 : host ≤ 255) (r1 : root ≤ 255) (v1 : va ≤ 262143) (k1 : Nat) (hk1 : Hid (k1 = root * 256 + 4 * (va / 8192))) (mem1 : ByteArray) (st1 : Int) (p1 : Nat) (y : Int) (hy : wv mem1 p1 = y) (hp1 : p1 + 4 ≤ mem1.size) (hm1 : mem1.size ≤ 65536) (s10 : 0 ≤ st1) (s11 : st1 ≤ 100) (HP1 : Hid (PL w ⟨s, host, 0, 0⟩ k1 1 (p1 : Int) ⟨mem1, host, st1, 0⟩)) (h16 : y % 16 = 1) (T : Nat) (hT : y / 256 = (T : Int)) (hT2 : T < 1024) (k2 : Nat) (hk2 : Hid (k2 = T * 256 + 4 * (va / 256 % 32))) (mem2 : ByteArray) (st2 : Int) (p2 : Nat) (z : Int) (hz : wv mem2 p2 = z) (hp2 : p2 + 4 ≤ mem2.size) (hm2 : mem2.size ≤ 65536) (s20 : 0 ≤ st2) (s21 : st2 ≤ 100) (HP2 : Hid (PL w ⟨mem1, host, st1 + 1, 0⟩ k2 1 (p2 : Int) ⟨mem2, host, st2, 0⟩)) (f1 : z % 2 = 1) (hC : ¬ z % 16 = 1) (f3 : mayV z 3 user = true) (f4 : z / 256 < 1024) (hne : (bits .or .i64 z 32 == z) = false) (st3 : Int) (HP3 : Hid (PL w ⟨mem2, host, st2 + 1, 0⟩ k2 2 (-1) ⟨mem2, host, st3, (k2 : Int)⟩)) :
    Calls Try.prog 8 #[.string s, .int .i64 host, .int .i64 root, .int .i64 va, .int .i64 3, .bool user] w fun e w' => e = .returned (twA ⟨3, (k2 : Int), 0, st3, mem2⟩) ∧ Below w.heap.size w w' := by
  have a1 : (1 : Int) ≤ 3 := by decide
  have a2 : (3 : Int) ≤ 3 := by decide
  obtain ⟨y0, y1⟩ := wv_b mem1 p1
  have HW1 : Hid _ := fun w' => l01Word_any mem1 p1 w' hp1 hm1
  rw [hy] at y0 y1 HW1
  have e1 : bits .and .i64 y 1 = 1 := (and1 y y0 (by omega)).trans (by omega)
  have e14 : (bits .and .i64 y 14 == 0) = true := by
    rw [and14 y y0 (by omega)]
    simp
    omega
  clear hy hp1 hm1
  have hlt : ¬ 1024 ≤ y / 256 := by omega
  have htm : (va : Int) / 256 % 32 ≤ 31 := by omega
  obtain ⟨z0, z1⟩ := wv_b mem2 p2
  have HW2 : Hid _ := fun w' => l01Word_any mem2 p2 w' hp2 hm2
  rw [hz] at z0 z1 HW2
  clear hz hp2 hm2 h16
  have g1 : bits .and .i64 z 1 = 1 := (and1 z z0 (by omega)).trans f1
  have g14 : (bits .and .i64 z 14 == 0) = false := by
    rw [and14 z z0 (by omega)]
    simp
    omega
  clear f1 hC
  have f5 : ¬ 1024 ≤ z / 256 := by omega
  have i2 : (va : Int) / 256 % 32 ≤ 31 := by omega
  have hc : Hid _ := memC_ok hm
  obtain ⟨hs0, hs1, hs2⟩ := memOk_b hm
  have HS : Hid (s.size ≤ 1099511627776) := (by show s.size ≤ 1099511627776; omega)
  have hv : (decide (262144 ≤ (va : Int))) = false := by
    simp
    omega
  have V1 : Hid (va ≤ 262143) := v1
  have i1 : (va : Int) / 8192 ≤ 31 := by omega
  have hNew : Hid _ := TW.new w s host
  clear hm v1 hs0 hs1 hs2
  go_enter Try.func8, Try.ntmps8
  go_wp2_with (first | (go_at_call 36; refine (specMemFault_any _ _ HS.out).mono ?_; rintro e u1 ⟨rfl, hu1⟩; rw [hu1, hc.out]; clear hu1 u1) | (go_at_call 37; refine (l03Acc_yes _ _ a1 a2).mono ?_; rintro e u2 ⟨rfl, hu2⟩; rw [hu2]; clear hu2 u2) | (go_at_call 38; refine Calls.mono (HP1.out _ _ hNew.out (by have := V1.out; have := hk1.out; omega)) ?_; rintro e v1 ⟨rfl, ht⟩; have HQ1 : Hid _ := ht; obtain ⟨b10, b11, b12, b13, b1f⟩ := HQ1.out.box.cells; (try simp only at b10 b11 b12 b13); clear ht HP1 hNew) | (go_at_call 40; refine Calls.mono (HW1.out _) ?_; rintro e x1 ⟨rfl, q1, hx⟩; have HR1 : Hid (TW w ⟨mem1, host, st1 + 1, 0⟩ x1) := (by rw [hx]; exact (HQ1.out.put2 _).below (bdn (Below.refl _ _) q1)); obtain ⟨d10, d11, d12, d13, d1f⟩ := HR1.out.box.cells; (try simp only at d10 d11 d12 d13); clear hx HQ1 HW1 b10 b11 b12 b13 b1f) | (go_at_call 38; refine Calls.mono (HP2.out _ _ HR1.out (by have := V1.out; have := hk2.out; omega)) ?_; rintro e v2 ⟨rfl, ht⟩; have HQ2 : Hid _ := ht; obtain ⟨b20, b21, b22, b23, b2f⟩ := HQ2.out.box.cells; (try simp only at b20 b21 b22 b23); clear ht HP2 HR1 d10 d11 d12 d13 d1f) | (go_at_call 40; refine Calls.mono (HW2.out _) ?_; rintro e x2 ⟨rfl, q2, hx⟩; have HR2 : Hid (TW w ⟨mem2, host, st2 + 1, 0⟩ x2) := (by rw [hx]; exact (HQ2.out.put2 _).below (bdn (Below.refl _ _) q2)); obtain ⟨d20, d21, d22, d23, d2f⟩ := HR2.out.box.cells; (try simp only at d20 d21 d22 d23); clear hx HQ2 HW2 b20 b21 b22 b23 b2f) | (go_at_call 41; refine (l03May_any _ _ _ _ z0 z1 a1 a2).mono ?_; rintro e u2 ⟨rfl, hu2⟩; rw [hu2]; clear hu2 u2) | (go_at_call 38; refine Calls.mono (HP3.out _ _ HR2.out (by have := V1.out; have := hk2.out; omega)) ?_; rintro e v3 ⟨rfl, ht⟩; have HQ3 : Hid _ := ht; obtain ⟨b30, b31, b32, b33, b3f⟩ := HQ3.out.box.cells; (try simp only at b30 b31 b32 b33); clear ht HP3 HR2 d20 d21 d22 d23 d2f) | (go_at_call 39; refine Calls.mono (answer_tw HQ3.out _ _ _) ?_; rintro e y9 ⟨rfl, ht⟩; have HZ : Hid _ := ht; obtain ⟨m0, m1, m2, m3, m4, mf⟩ := cel5 ht.res; clear ht; simp only [twA]))
  refine bodyPost_ret (v := twA ⟨3, (k2 : Int), 0, st3, mem2⟩) (by simp [results, Try.results8, go_sem, twA, m0, m1, m2, m3, m4]) rfl ⟨rfl, ?_⟩
  have hl : w.heap.size ≤ w.heap.size := Nat.le_refl _
  exact ((((HZ.out.bel.setCell hl _).setCell hl _).setCell hl _).setCell hl _).setCell hl _
set_option maxRecDepth 100000 in
set_option maxHeartbeats 4000000 in
theorem specTwo_B3_same_no (s : ByteArray) (host root va : Nat) (user : Bool) (w : World) (hm : memOk s = true) (r0 : host ≤ 255) (r1 : root ≤ 255) (v1 : va ≤ 262143) (k1 : Nat) (hk1 : Hid (k1 = root * 256 + 4 * (va / 8192))) (mem1 : ByteArray) (st1 : Int) (p1 : Nat) (y : Int) (hy : wv mem1 p1 = y) (hp1 : p1 + 4 ≤ mem1.size) (hm1 : mem1.size ≤ 65536) (s10 : 0 ≤ st1) (s11 : st1 ≤ 100) (HP1 : Hid (PL w ⟨s, host, 0, 0⟩ k1 1 (p1 : Int) ⟨mem1, host, st1, 0⟩)) (h16 : y % 16 = 1) (T : Nat) (hT : y / 256 = (T : Int)) (hT2 : T < 1024) (k2 : Nat) (hk2 : Hid (k2 = T * 256 + 4 * (va / 256 % 32))) (mem2 : ByteArray) (st2 : Int) (p2 : Nat) (z : Int) (hz : wv mem2 p2 = z) (hp2 : p2 + 4 ≤ mem2.size) (hm2 : mem2.size ≤ 65536) (s20 : 0 ≤ st2) (s21 : st2 ≤ 100) (HP2 : Hid (PL w ⟨mem1, host, st1 + 1, 0⟩ k2 1 (p2 : Int) ⟨mem2, host, st2, 0⟩)) (f1 : z % 2 = 1) (hC : ¬ z % 16 = 1) (f3 : mayV z 3 user = true) (f4 : z / 256 < 1024) (hsame : bits .or .i64 z 32 = z) (ga : Nat) (hga : Hid ((z / 256) * 256 + (va : Int) % 256 = (ga : Int))) (st4 : Int) (HP4 : Hid (PL w ⟨mem2, host, st2 + 1, 0⟩ ga 1 (-1) ⟨mem2, host, st4, (ga : Int)⟩)) :
    Calls Try.prog 8 #[.string s, .int .i64 host, .int .i64 root, .int .i64 va, .int .i64 3, .bool user] w fun e w' => e = .returned (twA ⟨3, (ga : Int), 0, st4, mem2⟩) ∧ Below w.heap.size w w' := by
  have a1 : (1 : Int) ≤ 3 := by decide
  have a2 : (3 : Int) ≤ 3 := by decide
  obtain ⟨y0, y1⟩ := wv_b mem1 p1
  have HW1 : Hid _ := fun w' => l01Word_any mem1 p1 w' hp1 hm1
  rw [hy] at y0 y1 HW1
  have e1 : bits .and .i64 y 1 = 1 := (and1 y y0 (by omega)).trans (by omega)
  have e14 : (bits .and .i64 y 14 == 0) = true := by
    rw [and14 y y0 (by omega)]
    simp
    omega
  clear hy hp1 hm1
  have hlt : ¬ 1024 ≤ y / 256 := by omega
  have htm : (va : Int) / 256 % 32 ≤ 31 := by omega
  obtain ⟨z0, z1⟩ := wv_b mem2 p2
  have HW2 : Hid _ := fun w' => l01Word_any mem2 p2 w' hp2 hm2
  rw [hz] at z0 z1 HW2
  clear hz hp2 hm2 h16
  have g1 : bits .and .i64 z 1 = 1 := (and1 z z0 (by omega)).trans f1
  have g14 : (bits .and .i64 z 14 == 0) = false := by
    rw [and14 z z0 (by omega)]
    simp
    omega
  clear f1 hC
  have f5 : ¬ 1024 ≤ z / 256 := by omega
  have i2 : (va : Int) / 256 % 32 ≤ 31 := by omega
  have hc : Hid _ := memC_ok hm
  obtain ⟨hs0, hs1, hs2⟩ := memOk_b hm
  have HS : Hid (s.size ≤ 1099511627776) := (by show s.size ≤ 1099511627776; omega)
  have hv : (decide (262144 ≤ (va : Int))) = false := by
    simp
    omega
  have V1 : Hid (va ≤ 262143) := v1
  have i1 : (va : Int) / 8192 ≤ 31 := by omega
  have hNew : Hid _ := TW.new w s host
  clear hm v1 hs0 hs1 hs2
  go_enter Try.func8, Try.ntmps8
  go_wp2_with (first | (go_at_call 36; refine (specMemFault_any _ _ HS.out).mono ?_; rintro e u1 ⟨rfl, hu1⟩; rw [hu1, hc.out]; clear hu1 u1) | (go_at_call 37; refine (l03Acc_yes _ _ a1 a2).mono ?_; rintro e u2 ⟨rfl, hu2⟩; rw [hu2]; clear hu2 u2) | (go_at_call 38; refine Calls.mono (HP1.out _ _ hNew.out (by have := V1.out; have := hk1.out; omega)) ?_; rintro e v1 ⟨rfl, ht⟩; have HQ1 : Hid _ := ht; obtain ⟨b10, b11, b12, b13, b1f⟩ := HQ1.out.box.cells; (try simp only at b10 b11 b12 b13); clear ht HP1 hNew) | (go_at_call 40; refine Calls.mono (HW1.out _) ?_; rintro e x1 ⟨rfl, q1, hx⟩; have HR1 : Hid (TW w ⟨mem1, host, st1 + 1, 0⟩ x1) := (by rw [hx]; exact (HQ1.out.put2 _).below (bdn (Below.refl _ _) q1)); obtain ⟨d10, d11, d12, d13, d1f⟩ := HR1.out.box.cells; (try simp only at d10 d11 d12 d13); clear hx HQ1 HW1 b10 b11 b12 b13 b1f) | (go_at_call 38; refine Calls.mono (HP2.out _ _ HR1.out (by have := V1.out; have := hk2.out; omega)) ?_; rintro e v2 ⟨rfl, ht⟩; have HQ2 : Hid _ := ht; obtain ⟨b20, b21, b22, b23, b2f⟩ := HQ2.out.box.cells; (try simp only at b20 b21 b22 b23); clear ht HP2 HR1 d10 d11 d12 d13 d1f) | (go_at_call 40; refine Calls.mono (HW2.out _) ?_; rintro e x2 ⟨rfl, q2, hx⟩; have HR2 : Hid (TW w ⟨mem2, host, st2 + 1, 0⟩ x2) := (by rw [hx]; exact (HQ2.out.put2 _).below (bdn (Below.refl _ _) q2)); obtain ⟨d20, d21, d22, d23, d2f⟩ := HR2.out.box.cells; (try simp only at d20 d21 d22 d23); clear hx HQ2 HW2 b20 b21 b22 b23 b2f) | (go_at_call 41; refine (l03May_any _ _ _ _ z0 z1 a1 a2).mono ?_; rintro e u2 ⟨rfl, hu2⟩; rw [hu2]; clear hu2 u2) | (go_at_call 38; refine Calls.mono (HP4.out _ _ HR2.out (by have := V1.out; have := hga.out; omega)) ?_; rintro e v4 ⟨rfl, ht⟩; have HQ4 : Hid _ := ht; obtain ⟨b40, b41, b42, b43, b4f⟩ := HQ4.out.box.cells; (try simp only at b40 b41 b42 b43); clear ht HP4 HR2 d20 d21 d22 d23 d2f) | (go_at_call 39; refine Calls.mono (answer_tw HQ4.out _ _ _) ?_; rintro e y9 ⟨rfl, ht⟩; have HZ : Hid _ := ht; obtain ⟨m0, m1, m2, m3, m4, mf⟩ := cel5 ht.res; clear ht; simp only [twA]))
  refine bodyPost_ret (v := twA ⟨3, (ga : Int), 0, st4, mem2⟩) (by simp [results, Try.results8, go_sem, twA, m0, m1, m2, m3, m4]) rfl ⟨rfl, ?_⟩
  have hl : w.heap.size ≤ w.heap.size := Nat.le_refl _
  exact ((((HZ.out.bel.setCell hl _).setCell hl _).setCell hl _).setCell hl _).setCell hl _
set_option maxRecDepth 100000 in
set_option maxHeartbeats 4000000 in
theorem specTwo_B3_same_ok (s : ByteArray) (host root va : Nat) (user : Bool) (w : World) (hm : memOk s = true) (r0 : host ≤ 255) (r1 : root ≤ 255) (v1 : va ≤ 262143) (k1 : Nat) (hk1 : Hid (k1 = root * 256 + 4 * (va / 8192))) (mem1 : ByteArray) (st1 : Int) (p1 : Nat) (y : Int) (hy : wv mem1 p1 = y) (hp1 : p1 + 4 ≤ mem1.size) (hm1 : mem1.size ≤ 65536) (s10 : 0 ≤ st1) (s11 : st1 ≤ 100) (HP1 : Hid (PL w ⟨s, host, 0, 0⟩ k1 1 (p1 : Int) ⟨mem1, host, st1, 0⟩)) (h16 : y % 16 = 1) (T : Nat) (hT : y / 256 = (T : Int)) (hT2 : T < 1024) (k2 : Nat) (hk2 : Hid (k2 = T * 256 + 4 * (va / 256 % 32))) (mem2 : ByteArray) (st2 : Int) (p2 : Nat) (z : Int) (hz : wv mem2 p2 = z) (hp2 : p2 + 4 ≤ mem2.size) (hm2 : mem2.size ≤ 65536) (s20 : 0 ≤ st2) (s21 : st2 ≤ 100) (HP2 : Hid (PL w ⟨mem1, host, st1 + 1, 0⟩ k2 1 (p2 : Int) ⟨mem2, host, st2, 0⟩)) (f1 : z % 2 = 1) (hC : ¬ z % 16 = 1) (f3 : mayV z 3 user = true) (f4 : z / 256 < 1024) (hsame : bits .or .i64 z 32 = z) (ga : Nat) (hga : Hid ((z / 256) * 256 + (va : Int) % 256 = (ga : Int))) (st4 : Int) (mem4 : ByteArray) (p4 : Nat) (HP4 : Hid (PL w ⟨mem2, host, st2 + 1, 0⟩ ga 1 (p4 : Int) ⟨mem4, host, st4, 0⟩)) :
    Calls Try.prog 8 #[.string s, .int .i64 host, .int .i64 root, .int .i64 va, .int .i64 3, .bool user] w fun e w' => e = .returned (twA ⟨0, (ga : Int), (p4 : Int), st4, mem4⟩) ∧ Below w.heap.size w w' := by
  have a1 : (1 : Int) ≤ 3 := by decide
  have a2 : (3 : Int) ≤ 3 := by decide
  obtain ⟨y0, y1⟩ := wv_b mem1 p1
  have HW1 : Hid _ := fun w' => l01Word_any mem1 p1 w' hp1 hm1
  rw [hy] at y0 y1 HW1
  have e1 : bits .and .i64 y 1 = 1 := (and1 y y0 (by omega)).trans (by omega)
  have e14 : (bits .and .i64 y 14 == 0) = true := by
    rw [and14 y y0 (by omega)]
    simp
    omega
  clear hy hp1 hm1
  have hlt : ¬ 1024 ≤ y / 256 := by omega
  have htm : (va : Int) / 256 % 32 ≤ 31 := by omega
  obtain ⟨z0, z1⟩ := wv_b mem2 p2
  have HW2 : Hid _ := fun w' => l01Word_any mem2 p2 w' hp2 hm2
  rw [hz] at z0 z1 HW2
  clear hz hp2 hm2 h16
  have g1 : bits .and .i64 z 1 = 1 := (and1 z z0 (by omega)).trans f1
  have g14 : (bits .and .i64 z 14 == 0) = false := by
    rw [and14 z z0 (by omega)]
    simp
    omega
  clear f1 hC
  have f5 : ¬ 1024 ≤ z / 256 := by omega
  have i2 : (va : Int) / 256 % 32 ≤ 31 := by omega
  have hc : Hid _ := memC_ok hm
  obtain ⟨hs0, hs1, hs2⟩ := memOk_b hm
  have HS : Hid (s.size ≤ 1099511627776) := (by show s.size ≤ 1099511627776; omega)
  have hv : (decide (262144 ≤ (va : Int))) = false := by
    simp
    omega
  have V1 : Hid (va ≤ 262143) := v1
  have i1 : (va : Int) / 8192 ≤ 31 := by omega
  have hNew : Hid _ := TW.new w s host
  clear hm v1 hs0 hs1 hs2
  go_enter Try.func8, Try.ntmps8
  go_wp2_with (first | (go_at_call 36; refine (specMemFault_any _ _ HS.out).mono ?_; rintro e u1 ⟨rfl, hu1⟩; rw [hu1, hc.out]; clear hu1 u1) | (go_at_call 37; refine (l03Acc_yes _ _ a1 a2).mono ?_; rintro e u2 ⟨rfl, hu2⟩; rw [hu2]; clear hu2 u2) | (go_at_call 38; refine Calls.mono (HP1.out _ _ hNew.out (by have := V1.out; have := hk1.out; omega)) ?_; rintro e v1 ⟨rfl, ht⟩; have HQ1 : Hid _ := ht; obtain ⟨b10, b11, b12, b13, b1f⟩ := HQ1.out.box.cells; (try simp only at b10 b11 b12 b13); clear ht HP1 hNew) | (go_at_call 40; refine Calls.mono (HW1.out _) ?_; rintro e x1 ⟨rfl, q1, hx⟩; have HR1 : Hid (TW w ⟨mem1, host, st1 + 1, 0⟩ x1) := (by rw [hx]; exact (HQ1.out.put2 _).below (bdn (Below.refl _ _) q1)); obtain ⟨d10, d11, d12, d13, d1f⟩ := HR1.out.box.cells; (try simp only at d10 d11 d12 d13); clear hx HQ1 HW1 b10 b11 b12 b13 b1f) | (go_at_call 38; refine Calls.mono (HP2.out _ _ HR1.out (by have := V1.out; have := hk2.out; omega)) ?_; rintro e v2 ⟨rfl, ht⟩; have HQ2 : Hid _ := ht; obtain ⟨b20, b21, b22, b23, b2f⟩ := HQ2.out.box.cells; (try simp only at b20 b21 b22 b23); clear ht HP2 HR1 d10 d11 d12 d13 d1f) | (go_at_call 40; refine Calls.mono (HW2.out _) ?_; rintro e x2 ⟨rfl, q2, hx⟩; have HR2 : Hid (TW w ⟨mem2, host, st2 + 1, 0⟩ x2) := (by rw [hx]; exact (HQ2.out.put2 _).below (bdn (Below.refl _ _) q2)); obtain ⟨d20, d21, d22, d23, d2f⟩ := HR2.out.box.cells; (try simp only at d20 d21 d22 d23); clear hx HQ2 HW2 b20 b21 b22 b23 b2f) | (go_at_call 41; refine (l03May_any _ _ _ _ z0 z1 a1 a2).mono ?_; rintro e u2 ⟨rfl, hu2⟩; rw [hu2]; clear hu2 u2) | (go_at_call 38; refine Calls.mono (HP4.out _ _ HR2.out (by have := V1.out; have := hga.out; omega)) ?_; rintro e v4 ⟨rfl, ht⟩; have HQ4 : Hid _ := ht; obtain ⟨b40, b41, b42, b43, b4f⟩ := HQ4.out.box.cells; (try simp only at b40 b41 b42 b43); clear ht HP4 HR2 d20 d21 d22 d23 d2f) | (go_at_call 39; refine Calls.mono (answer_tw HQ4.out _ _ _) ?_; rintro e y9 ⟨rfl, ht⟩; have HZ : Hid _ := ht; obtain ⟨m0, m1, m2, m3, m4, mf⟩ := cel5 ht.res; clear ht; simp only [twA]))
  refine bodyPost_ret (v := twA ⟨0, (ga : Int), (p4 : Int), st4, mem4⟩) (by simp [results, Try.results8, go_sem, twA, m0, m1, m2, m3, m4]; have := hga.out; omega) rfl ⟨rfl, ?_⟩
  have hl : w.heap.size ≤ w.heap.size := Nat.le_refl _
  exact ((((HZ.out.bel.setCell hl _).setCell hl _).setCell hl _).setCell hl _).setCell hl _
set_option maxRecDepth 100000 in
set_option maxHeartbeats 4000000 in
theorem specTwo_B3_put_no (s : ByteArray) (host root va : Nat) (user : Bool) (w : World) (hm : memOk s = true) (r0 : host ≤ 255) (r1 : root ≤ 255) (v1 : va ≤ 262143) (k1 : Nat) (hk1 : Hid (k1 = root * 256 + 4 * (va / 8192))) (mem1 : ByteArray) (st1 : Int) (p1 : Nat) (y : Int) (hy : wv mem1 p1 = y) (hp1 : p1 + 4 ≤ mem1.size) (hm1 : mem1.size ≤ 65536) (s10 : 0 ≤ st1) (s11 : st1 ≤ 100) (HP1 : Hid (PL w ⟨s, host, 0, 0⟩ k1 1 (p1 : Int) ⟨mem1, host, st1, 0⟩)) (h16 : y % 16 = 1) (T : Nat) (hT : y / 256 = (T : Int)) (hT2 : T < 1024) (k2 : Nat) (hk2 : Hid (k2 = T * 256 + 4 * (va / 256 % 32))) (mem2 : ByteArray) (st2 : Int) (p2 : Nat) (z : Int) (hz : wv mem2 p2 = z) (hp2 : p2 + 4 ≤ mem2.size) (hm2 : mem2.size ≤ 65536) (s20 : 0 ≤ st2) (s21 : st2 ≤ 100) (HP2 : Hid (PL w ⟨mem1, host, st1 + 1, 0⟩ k2 1 (p2 : Int) ⟨mem2, host, st2, 0⟩)) (f1 : z % 2 = 1) (hC : ¬ z % 16 = 1) (f3 : mayV z 3 user = true) (f4 : z / 256 < 1024) (hne : (bits .or .i64 z 32 == z) = false) (ga : Nat) (hga : Hid ((z / 256) * 256 + (va : Int) % 256 = (ga : Int))) (st4 : Int) (mem3 : ByteArray) (st3 : Int) (p3 : Nat) (hp3 : p3 + 4 ≤ mem3.size) (hm3 : mem3.size ≤ 65536) (HP3 : Hid (PL w ⟨mem2, host, st2 + 1, 0⟩ k2 2 (p3 : Int) ⟨mem3, host, st3, 0⟩)) (HP4 : Hid (PL w ⟨(setv mem3 p3 (bits .or .i64 z 32)), host, st3, 0⟩ ga 1 (-1) ⟨(setv mem3 p3 (bits .or .i64 z 32)), host, st4, (ga : Int)⟩)) :
    Calls Try.prog 8 #[.string s, .int .i64 host, .int .i64 root, .int .i64 va, .int .i64 3, .bool user] w fun e w' => e = .returned (twA ⟨3, (ga : Int), 0, st4, (setv mem3 p3 (bits .or .i64 z 32))⟩) ∧ Below w.heap.size w w' := by
  have a1 : (1 : Int) ≤ 3 := by decide
  have a2 : (3 : Int) ≤ 3 := by decide
  obtain ⟨y0, y1⟩ := wv_b mem1 p1
  have HW1 : Hid _ := fun w' => l01Word_any mem1 p1 w' hp1 hm1
  rw [hy] at y0 y1 HW1
  have e1 : bits .and .i64 y 1 = 1 := (and1 y y0 (by omega)).trans (by omega)
  have e14 : (bits .and .i64 y 14 == 0) = true := by
    rw [and14 y y0 (by omega)]
    simp
    omega
  clear hy hp1 hm1
  have hlt : ¬ 1024 ≤ y / 256 := by omega
  have htm : (va : Int) / 256 % 32 ≤ 31 := by omega
  obtain ⟨z0, z1⟩ := wv_b mem2 p2
  have HW2 : Hid _ := fun w' => l01Word_any mem2 p2 w' hp2 hm2
  rw [hz] at z0 z1 HW2
  clear hz hp2 hm2 h16
  have g1 : bits .and .i64 z 1 = 1 := (and1 z z0 (by omega)).trans f1
  have g14 : (bits .and .i64 z 14 == 0) = false := by
    rw [and14 z z0 (by omega)]
    simp
    omega
  clear f1 hC
  have f5 : ¬ 1024 ≤ z / 256 := by omega
  have i2 : (va : Int) / 256 % 32 ≤ 31 := by omega
  have HSW : Hid _ := fun w' => specSetWord_yes mem3 p3 (bits .or .i64 z 32) w' hp3 hm3
  clear hp3 hm3
  have hc : Hid _ := memC_ok hm
  obtain ⟨hs0, hs1, hs2⟩ := memOk_b hm
  have HS : Hid (s.size ≤ 1099511627776) := (by show s.size ≤ 1099511627776; omega)
  have hv : (decide (262144 ≤ (va : Int))) = false := by
    simp
    omega
  have V1 : Hid (va ≤ 262143) := v1
  have i1 : (va : Int) / 8192 ≤ 31 := by omega
  have hNew : Hid _ := TW.new w s host
  clear hm v1 hs0 hs1 hs2
  go_enter Try.func8, Try.ntmps8
  go_wp2_with (first | (go_at_call 36; refine (specMemFault_any _ _ HS.out).mono ?_; rintro e u1 ⟨rfl, hu1⟩; rw [hu1, hc.out]; clear hu1 u1) | (go_at_call 37; refine (l03Acc_yes _ _ a1 a2).mono ?_; rintro e u2 ⟨rfl, hu2⟩; rw [hu2]; clear hu2 u2) | (go_at_call 38; refine Calls.mono (HP1.out _ _ hNew.out (by have := V1.out; have := hk1.out; omega)) ?_; rintro e v1 ⟨rfl, ht⟩; have HQ1 : Hid _ := ht; obtain ⟨b10, b11, b12, b13, b1f⟩ := HQ1.out.box.cells; (try simp only at b10 b11 b12 b13); clear ht HP1 hNew) | (go_at_call 40; refine Calls.mono (HW1.out _) ?_; rintro e x1 ⟨rfl, q1, hx⟩; have HR1 : Hid (TW w ⟨mem1, host, st1 + 1, 0⟩ x1) := (by rw [hx]; exact (HQ1.out.put2 _).below (bdn (Below.refl _ _) q1)); obtain ⟨d10, d11, d12, d13, d1f⟩ := HR1.out.box.cells; (try simp only at d10 d11 d12 d13); clear hx HQ1 HW1 b10 b11 b12 b13 b1f) | (go_at_call 38; refine Calls.mono (HP2.out _ _ HR1.out (by have := V1.out; have := hk2.out; omega)) ?_; rintro e v2 ⟨rfl, ht⟩; have HQ2 : Hid _ := ht; obtain ⟨b20, b21, b22, b23, b2f⟩ := HQ2.out.box.cells; (try simp only at b20 b21 b22 b23); clear ht HP2 HR1 d10 d11 d12 d13 d1f) | (go_at_call 40; refine Calls.mono (HW2.out _) ?_; rintro e x2 ⟨rfl, q2, hx⟩; have HR2 : Hid (TW w ⟨mem2, host, st2 + 1, 0⟩ x2) := (by rw [hx]; exact (HQ2.out.put2 _).below (bdn (Below.refl _ _) q2)); obtain ⟨d20, d21, d22, d23, d2f⟩ := HR2.out.box.cells; (try simp only at d20 d21 d22 d23); clear hx HQ2 HW2 b20 b21 b22 b23 b2f) | (go_at_call 41; refine (l03May_any _ _ _ _ z0 z1 a1 a2).mono ?_; rintro e u2 ⟨rfl, hu2⟩; rw [hu2]; clear hu2 u2) | (go_at_call 38; refine Calls.mono (HP3.out _ _ HR2.out (by have := V1.out; have := hk2.out; omega)) ?_; rintro e v3 ⟨rfl, ht⟩; have HQ3 : Hid _ := ht; obtain ⟨b30, b31, b32, b33, b3f⟩ := HQ3.out.box.cells; (try simp only at b30 b31 b32 b33); clear ht HP3 HR2 d20 d21 d22 d23 d2f) | (go_at_call 42; refine Calls.mono (HSW.out _) ?_; rintro e y3 ⟨rfl, hy⟩; have HR3 : Hid _ := HQ3.out.below hy; obtain ⟨d30, d31, d32, d33, d3f⟩ := HR3.out.box.cells; (try simp only at d30 d31 d32 d33); clear hy HQ3 HSW b30 b31 b32 b33 b3f) | (go_at_call 38; refine Calls.mono (HP4.out _ _ (HR3.out.put0 _) (by have := V1.out; have := hga.out; omega)) ?_; rintro e v4 ⟨rfl, ht⟩; have HQ4 : Hid _ := ht; obtain ⟨b40, b41, b42, b43, b4f⟩ := HQ4.out.box.cells; (try simp only at b40 b41 b42 b43); clear ht HP4 HR3 d30 d31 d32 d33 d3f) | (go_at_call 39; refine Calls.mono (answer_tw HQ4.out _ _ _) ?_; rintro e y9 ⟨rfl, ht⟩; have HZ : Hid _ := ht; obtain ⟨m0, m1, m2, m3, m4, mf⟩ := cel5 ht.res; clear ht; simp only [twA]))
  refine bodyPost_ret (v := twA ⟨3, (ga : Int), 0, st4, (setv mem3 p3 (bits .or .i64 z 32))⟩) (by simp [results, Try.results8, go_sem, twA, m0, m1, m2, m3, m4]) rfl ⟨rfl, ?_⟩
  have hl : w.heap.size ≤ w.heap.size := Nat.le_refl _
  exact ((((HZ.out.bel.setCell hl _).setCell hl _).setCell hl _).setCell hl _).setCell hl _
set_option maxRecDepth 100000 in
set_option maxHeartbeats 4000000 in
theorem specTwo_B3_put_ok (s : ByteArray) (host root va : Nat) (user : Bool) (w : World) (hm : memOk s = true) (r0 : host ≤ 255) (r1 : root ≤ 255) (v1 : va ≤ 262143) (k1 : Nat) (hk1 : Hid (k1 = root * 256 + 4 * (va / 8192))) (mem1 : ByteArray) (st1 : Int) (p1 : Nat) (y : Int) (hy : wv mem1 p1 = y) (hp1 : p1 + 4 ≤ mem1.size) (hm1 : mem1.size ≤ 65536) (s10 : 0 ≤ st1) (s11 : st1 ≤ 100) (HP1 : Hid (PL w ⟨s, host, 0, 0⟩ k1 1 (p1 : Int) ⟨mem1, host, st1, 0⟩)) (h16 : y % 16 = 1) (T : Nat) (hT : y / 256 = (T : Int)) (hT2 : T < 1024) (k2 : Nat) (hk2 : Hid (k2 = T * 256 + 4 * (va / 256 % 32))) (mem2 : ByteArray) (st2 : Int) (p2 : Nat) (z : Int) (hz : wv mem2 p2 = z) (hp2 : p2 + 4 ≤ mem2.size) (hm2 : mem2.size ≤ 65536) (s20 : 0 ≤ st2) (s21 : st2 ≤ 100) (HP2 : Hid (PL w ⟨mem1, host, st1 + 1, 0⟩ k2 1 (p2 : Int) ⟨mem2, host, st2, 0⟩)) (f1 : z % 2 = 1) (hC : ¬ z % 16 = 1) (f3 : mayV z 3 user = true) (f4 : z / 256 < 1024) (hne : (bits .or .i64 z 32 == z) = false) (ga : Nat) (hga : Hid ((z / 256) * 256 + (va : Int) % 256 = (ga : Int))) (st4 : Int) (mem3 : ByteArray) (st3 : Int) (p3 : Nat) (hp3 : p3 + 4 ≤ mem3.size) (hm3 : mem3.size ≤ 65536) (HP3 : Hid (PL w ⟨mem2, host, st2 + 1, 0⟩ k2 2 (p3 : Int) ⟨mem3, host, st3, 0⟩)) (mem4 : ByteArray) (p4 : Nat) (HP4 : Hid (PL w ⟨(setv mem3 p3 (bits .or .i64 z 32)), host, st3, 0⟩ ga 1 (p4 : Int) ⟨mem4, host, st4, 0⟩)) :
    Calls Try.prog 8 #[.string s, .int .i64 host, .int .i64 root, .int .i64 va, .int .i64 3, .bool user] w fun e w' => e = .returned (twA ⟨0, (ga : Int), (p4 : Int), st4, mem4⟩) ∧ Below w.heap.size w w' := by
  have a1 : (1 : Int) ≤ 3 := by decide
  have a2 : (3 : Int) ≤ 3 := by decide
  obtain ⟨y0, y1⟩ := wv_b mem1 p1
  have HW1 : Hid _ := fun w' => l01Word_any mem1 p1 w' hp1 hm1
  rw [hy] at y0 y1 HW1
  have e1 : bits .and .i64 y 1 = 1 := (and1 y y0 (by omega)).trans (by omega)
  have e14 : (bits .and .i64 y 14 == 0) = true := by
    rw [and14 y y0 (by omega)]
    simp
    omega
  clear hy hp1 hm1
  have hlt : ¬ 1024 ≤ y / 256 := by omega
  have htm : (va : Int) / 256 % 32 ≤ 31 := by omega
  obtain ⟨z0, z1⟩ := wv_b mem2 p2
  have HW2 : Hid _ := fun w' => l01Word_any mem2 p2 w' hp2 hm2
  rw [hz] at z0 z1 HW2
  clear hz hp2 hm2 h16
  have g1 : bits .and .i64 z 1 = 1 := (and1 z z0 (by omega)).trans f1
  have g14 : (bits .and .i64 z 14 == 0) = false := by
    rw [and14 z z0 (by omega)]
    simp
    omega
  clear f1 hC
  have f5 : ¬ 1024 ≤ z / 256 := by omega
  have i2 : (va : Int) / 256 % 32 ≤ 31 := by omega
  have HSW : Hid _ := fun w' => specSetWord_yes mem3 p3 (bits .or .i64 z 32) w' hp3 hm3
  clear hp3 hm3
  have hc : Hid _ := memC_ok hm
  obtain ⟨hs0, hs1, hs2⟩ := memOk_b hm
  have HS : Hid (s.size ≤ 1099511627776) := (by show s.size ≤ 1099511627776; omega)
  have hv : (decide (262144 ≤ (va : Int))) = false := by
    simp
    omega
  have V1 : Hid (va ≤ 262143) := v1
  have i1 : (va : Int) / 8192 ≤ 31 := by omega
  have hNew : Hid _ := TW.new w s host
  clear hm v1 hs0 hs1 hs2
  go_enter Try.func8, Try.ntmps8
  go_wp2_with (first | (go_at_call 36; refine (specMemFault_any _ _ HS.out).mono ?_; rintro e u1 ⟨rfl, hu1⟩; rw [hu1, hc.out]; clear hu1 u1) | (go_at_call 37; refine (l03Acc_yes _ _ a1 a2).mono ?_; rintro e u2 ⟨rfl, hu2⟩; rw [hu2]; clear hu2 u2) | (go_at_call 38; refine Calls.mono (HP1.out _ _ hNew.out (by have := V1.out; have := hk1.out; omega)) ?_; rintro e v1 ⟨rfl, ht⟩; have HQ1 : Hid _ := ht; obtain ⟨b10, b11, b12, b13, b1f⟩ := HQ1.out.box.cells; (try simp only at b10 b11 b12 b13); clear ht HP1 hNew) | (go_at_call 40; refine Calls.mono (HW1.out _) ?_; rintro e x1 ⟨rfl, q1, hx⟩; have HR1 : Hid (TW w ⟨mem1, host, st1 + 1, 0⟩ x1) := (by rw [hx]; exact (HQ1.out.put2 _).below (bdn (Below.refl _ _) q1)); obtain ⟨d10, d11, d12, d13, d1f⟩ := HR1.out.box.cells; (try simp only at d10 d11 d12 d13); clear hx HQ1 HW1 b10 b11 b12 b13 b1f) | (go_at_call 38; refine Calls.mono (HP2.out _ _ HR1.out (by have := V1.out; have := hk2.out; omega)) ?_; rintro e v2 ⟨rfl, ht⟩; have HQ2 : Hid _ := ht; obtain ⟨b20, b21, b22, b23, b2f⟩ := HQ2.out.box.cells; (try simp only at b20 b21 b22 b23); clear ht HP2 HR1 d10 d11 d12 d13 d1f) | (go_at_call 40; refine Calls.mono (HW2.out _) ?_; rintro e x2 ⟨rfl, q2, hx⟩; have HR2 : Hid (TW w ⟨mem2, host, st2 + 1, 0⟩ x2) := (by rw [hx]; exact (HQ2.out.put2 _).below (bdn (Below.refl _ _) q2)); obtain ⟨d20, d21, d22, d23, d2f⟩ := HR2.out.box.cells; (try simp only at d20 d21 d22 d23); clear hx HQ2 HW2 b20 b21 b22 b23 b2f) | (go_at_call 41; refine (l03May_any _ _ _ _ z0 z1 a1 a2).mono ?_; rintro e u2 ⟨rfl, hu2⟩; rw [hu2]; clear hu2 u2) | (go_at_call 38; refine Calls.mono (HP3.out _ _ HR2.out (by have := V1.out; have := hk2.out; omega)) ?_; rintro e v3 ⟨rfl, ht⟩; have HQ3 : Hid _ := ht; obtain ⟨b30, b31, b32, b33, b3f⟩ := HQ3.out.box.cells; (try simp only at b30 b31 b32 b33); clear ht HP3 HR2 d20 d21 d22 d23 d2f) | (go_at_call 42; refine Calls.mono (HSW.out _) ?_; rintro e y3 ⟨rfl, hy⟩; have HR3 : Hid _ := HQ3.out.below hy; obtain ⟨d30, d31, d32, d33, d3f⟩ := HR3.out.box.cells; (try simp only at d30 d31 d32 d33); clear hy HQ3 HSW b30 b31 b32 b33 b3f) | (go_at_call 38; refine Calls.mono (HP4.out _ _ (HR3.out.put0 _) (by have := V1.out; have := hga.out; omega)) ?_; rintro e v4 ⟨rfl, ht⟩; have HQ4 : Hid _ := ht; obtain ⟨b40, b41, b42, b43, b4f⟩ := HQ4.out.box.cells; (try simp only at b40 b41 b42 b43); clear ht HP4 HR3 d30 d31 d32 d33 d3f) | (go_at_call 39; refine Calls.mono (answer_tw HQ4.out _ _ _) ?_; rintro e y9 ⟨rfl, ht⟩; have HZ : Hid _ := ht; obtain ⟨m0, m1, m2, m3, m4, mf⟩ := cel5 ht.res; clear ht; simp only [twA]))
  refine bodyPost_ret (v := twA ⟨0, (ga : Int), (p4 : Int), st4, mem4⟩) (by simp [results, Try.results8, go_sem, twA, m0, m1, m2, m3, m4]; have := hga.out; omega) rfl ⟨rfl, ?_⟩
  have hl : w.heap.size ≤ w.heap.size := Nat.le_refl _
  exact ((((HZ.out.bel.setCell hl _).setCell hl _).setCell hl _).setCell hl _).setCell hl _

theorem specTwo_B (s : ByteArray) (host root va : Nat) (acc : Int) (user : Bool) (w : World) (hm : memOk s = true) (r0 : host ≤ 255) (r1 : root ≤ 255) (v1 : va ≤ 262143) (a1 : 1 ≤ acc) (a2 : acc ≤ 3) (k1 : Nat) (hk1 : Hid (k1 = root * 256 + 4 * (va / 8192))) (mem1 : ByteArray) (st1 : Int) (p1 : Nat) (y : Int) (hy : wv mem1 p1 = y) (hp1 : p1 + 4 ≤ mem1.size) (hm1 : mem1.size ≤ 65536) (s10 : 0 ≤ st1) (s11 : st1 ≤ 100) (HP1 : Hid (PL w ⟨s, host, 0, 0⟩ k1 1 (p1 : Int) ⟨mem1, host, st1, 0⟩)) (h16 : y % 16 = 1) (T : Nat) (hT : y / 256 = (T : Int)) (hT2 : T < 1024) (k2 : Nat) (hk2 : Hid (k2 = T * 256 + 4 * (va / 256 % 32))) (mem2 : ByteArray) (st2 : Int) (p2 : Nat) (z : Int) (hz : wv mem2 p2 = z) (hp2 : p2 + 4 ≤ mem2.size) (hm2 : mem2.size ≤ 65536) (s20 : 0 ≤ st2) (s21 : st2 ≤ 100) (HP2 : Hid (PL w ⟨mem1, host, st1 + 1, 0⟩ k2 1 (p2 : Int) ⟨mem2, host, st2, 0⟩)) (hmM : memOk mem2 = true) (kb : k2 ≤ 262143) (k4 : k2 % 4 = 0) :
    Calls Try.prog 8 #[.string s, .int .i64 host, .int .i64 root, .int .i64 va, .int .i64 acc, .bool user] w fun e w' => e = .returned (twA (tailT mem2 host k2 z false va acc user (st2 + 1))) ∧ Below w.heap.size w w' := by
  obtain ⟨z0, z1⟩ := wv_b mem2 p2
  rw [hz] at z0 z1
  have hms := memOk_b hmM
  have bad : goodV z acc user false = false → tailT mem2 host k2 z false va acc user (st2 + 1) = ⟨1, 0, 0, (st2 + 1), mem2⟩ := fun h => if_neg (by rw [h]; decide)
  by_cases f1 : z % 2 = 0
  · rw [bad (by simp [goodV, f1])]
    exact specTwo_B_even s host root va acc user w hm r0 r1 v1 a1 a2 k1 hk1 mem1 st1 p1 y hy hp1 hm1 s10 s11 HP1 h16 T hT hT2 k2 hk2 mem2 st2 p2 z hz hp2 hm2 s20 s21 HP2 f1
  have f1 : z % 2 = 1 := by omega
  by_cases hC : z % 16 = 1
  · have hmay : mayV z acc user = false := by
      have e1 : z / 2 % 2 = 0 := by omega
      have e2 : z / 4 % 2 = 0 := by omega
      have e3 : z / 8 % 2 = 0 := by omega
      simp [mayV, e1, e2, e3]
    rw [bad (by simp [goodV, hmay])]
    exact specTwo_B_table s host root va acc user w hm r0 r1 v1 a1 a2 k1 hk1 mem1 st1 p1 y hy hp1 hm1 s10 s11 HP1 h16 T hT hT2 k2 hk2 mem2 st2 p2 z hz hp2 hm2 s20 s21 HP2 hC
  by_cases f3 : mayV z acc user = true
  case neg =>
    have f3 : mayV z acc user = false := by simpa using f3
    rw [bad (by simp [goodV, f3])]
    exact specTwo_B_may s host root va acc user w hm r0 r1 v1 a1 a2 k1 hk1 mem1 st1 p1 y hy hp1 hm1 s10 s11 HP1 h16 T hT hT2 k2 hk2 mem2 st2 p2 z hz hp2 hm2 s20 s21 HP2 f1 hC f3
  have hg : goodV z acc user false = true := by simp [goodV, f1, f3]
  by_cases f4 : (z / 256) < 1024
  case neg =>
    have E : tailT mem2 host k2 z false va acc user (st2 + 1) = ⟨2, 0, 0, (st2 + 1), mem2⟩ := (if_pos hg).trans (if_neg f4)
    rw [E]
    exact specTwo_B_far s host root va acc user w hm r0 r1 v1 a1 a2 k1 hk1 mem1 st1 p1 y hy hp1 hm1 s10 s11 HP1 h16 T hT hT2 k2 hk2 mem2 st2 p2 z hz hp2 hm2 s20 s21 HP2 f1 hC f3 (by omega)
  obtain ⟨ga, hga⟩ : ∃ ga : Nat, (z / 256) * 256 + (va : Int) % 256 = (ga : Int) := Int.eq_ofNat_of_zero_le (by omega)
  have hgb : ga ≤ 262143 := by omega
  have hgt : ((z / 256) * 256 + (va : Int) % 256).toNat = ga := by rw [hga]; rfl
  have E : tailT mem2 host k2 z false va acc user (st2 + 1) = if putA z acc = z then lastT mem2 host ga acc (st2 + 1)
      else if (walkV mem2 host k2 2 false).fault = 0 then lastT (setv (walkV mem2 host k2 2 false).mem (walkV mem2 host k2 2 false).pa.toNat (putA z acc)) host ga acc ((st2 + 1) + (walkV mem2 host k2 2 false).reads.length)
      else ⟨3, k2, 0, (st2 + 1) + (walkV mem2 host k2 2 false).reads.length, mem2⟩ := by
    rw [← hgt]
    exact (if_pos hg).trans (if_pos f4)
  rw [E]
  clear E bad hg
  have hpa3 := fun hf => walkV_pa mem2 host k2 2 false hf k4
  have hsz3 := walkV_size mem2 host k2 2 false kb
  have hln3 := walkV_len mem2 host k2 2 false
  have HP3y := fun hf => PL_yes w mem2 host (st2 + 1) 0 k2 2 hmM r0 kb (by decide) (by decide) (by omega) (by omega) hf
  have HP3n := fun hf => PL_no w mem2 host (st2 + 1) 0 k2 2 hmM r0 kb (by decide) (by decide) (by omega) (by omega) hf
  obtain ⟨r3, hr3⟩ : ∃ r, walkV mem2 host k2 2 false = r := ⟨_, rfl⟩
  rw [hr3] at hpa3 hsz3 hln3 HP3y HP3n ⊢
  clear hr3
  obtain rfl | rfl | rfl : acc = 1 ∨ acc = 2 ∨ acc = 3 := by omega
  · have hpa : putA z 1 = bits .or .i64 z 32 := rfl
    rw [hpa]
    by_cases hsame : bits .or .i64 z 32 = z
    · rw [if_pos hsame]
      by_cases hf4 : (walkV mem2 host ga 1 false).fault = 0
      · have EL : lastT mem2 host ga 1 (st2 + 1) = ⟨0, ga, (walkV mem2 host ga 1 false).pa, (st2 + 1) + (walkV mem2 host ga 1 false).reads.length, (walkV mem2 host ga 1 false).mem⟩ := if_pos hf4
        rw [EL]
        have HP4 := PL_yes w mem2 host (st2 + 1) 0 ga 1 hmM r0 hgb (by decide) (by decide) (by omega) (by omega) hf4
        obtain ⟨p4, hp4⟩ := Int.eq_ofNat_of_zero_le (walkV_pa0 mem2 host ga 1 false hf4)
        rw [hp4] at HP4 ⊢
        exact specTwo_B1_same_ok s host root va user w hm r0 r1 v1 k1 hk1 mem1 st1 p1 y hy hp1 hm1 s10 s11 HP1 h16 T hT hT2 k2 hk2 mem2 st2 p2 z hz hp2 hm2 s20 s21 HP2 f1 hC f3 f4 hsame ga hga _ _ p4 HP4
      · have EL : lastT mem2 host ga 1 (st2 + 1) = ⟨3, ga, 0, (st2 + 1) + (walkV mem2 host ga 1 false).reads.length, mem2⟩ := if_neg hf4
        rw [EL]
        have HP4 := PL_no w mem2 host (st2 + 1) 0 ga 1 hmM r0 hgb (by decide) (by decide) (by omega) (by omega) hf4
        exact specTwo_B1_same_no s host root va user w hm r0 r1 v1 k1 hk1 mem1 st1 p1 y hy hp1 hm1 s10 s11 HP1 h16 T hT hT2 k2 hk2 mem2 st2 p2 z hz hp2 hm2 s20 s21 HP2 f1 hC f3 f4 hsame ga hga _ HP4
    · rw [if_neg hsame]
      have hne : (bits .or .i64 z 32 == z) = false := by simpa using hsame
      by_cases hf3 : r3.fault = 0
      · rw [if_pos hf3]
        obtain ⟨q0, q1, q2⟩ := hpa3 hf3
        obtain ⟨p3, hp3⟩ := Int.eq_ofNat_of_zero_le q0
        have HP3 := HP3y hf3
        rw [hp3] at HP3 q1 ⊢
        have ht : Int.toNat (p3 : Int) = p3 := rfl
        rw [ht]
        have hmS : memOk (setv r3.mem p3 (bits .or .i64 z 32)) = true := memOk_size hmM (by rw [setv_size _ _ _ (by omega)]; exact hsz3)
        by_cases hf4 : (walkV (setv r3.mem p3 (bits .or .i64 z 32)) host ga 1 false).fault = 0
        · have EL : lastT (setv r3.mem p3 (bits .or .i64 z 32)) host ga 1 ((st2 + 1) + (r3.reads.length : Int)) = ⟨0, ga, (walkV (setv r3.mem p3 (bits .or .i64 z 32)) host ga 1 false).pa, ((st2 + 1) + (r3.reads.length : Int)) + (walkV (setv r3.mem p3 (bits .or .i64 z 32)) host ga 1 false).reads.length, (walkV (setv r3.mem p3 (bits .or .i64 z 32)) host ga 1 false).mem⟩ := if_pos hf4
          rw [EL]
          have HP4 := PL_yes w (setv r3.mem p3 (bits .or .i64 z 32)) host ((st2 + 1) + (r3.reads.length : Int)) 0 ga 1 hmS r0 hgb (by decide) (by decide) (by omega) (by omega) hf4
          obtain ⟨p4, hp4⟩ := Int.eq_ofNat_of_zero_le (walkV_pa0 (setv r3.mem p3 (bits .or .i64 z 32)) host ga 1 false hf4)
          rw [hp4] at HP4 ⊢
          exact specTwo_B1_put_ok s host root va user w hm r0 r1 v1 k1 hk1 mem1 st1 p1 y hy hp1 hm1 s10 s11 HP1 h16 T hT hT2 k2 hk2 mem2 st2 p2 z hz hp2 hm2 s20 s21 HP2 f1 hC f3 f4 hne ga hga _ r3.mem _ p3 (by omega) (by omega) HP3 _ p4 HP4
        · have EL : lastT (setv r3.mem p3 (bits .or .i64 z 32)) host ga 1 ((st2 + 1) + (r3.reads.length : Int)) = ⟨3, ga, 0, ((st2 + 1) + (r3.reads.length : Int)) + (walkV (setv r3.mem p3 (bits .or .i64 z 32)) host ga 1 false).reads.length, (setv r3.mem p3 (bits .or .i64 z 32))⟩ := if_neg hf4
          rw [EL]
          have HP4 := PL_no w (setv r3.mem p3 (bits .or .i64 z 32)) host ((st2 + 1) + (r3.reads.length : Int)) 0 ga 1 hmS r0 hgb (by decide) (by decide) (by omega) (by omega) hf4
          exact specTwo_B1_put_no s host root va user w hm r0 r1 v1 k1 hk1 mem1 st1 p1 y hy hp1 hm1 s10 s11 HP1 h16 T hT hT2 k2 hk2 mem2 st2 p2 z hz hp2 hm2 s20 s21 HP2 f1 hC f3 f4 hne ga hga _ r3.mem _ p3 (by omega) (by omega) HP3 HP4
      · rw [if_neg hf3]
        exact specTwo_B1_nput s host root va user w hm r0 r1 v1 k1 hk1 mem1 st1 p1 y hy hp1 hm1 s10 s11 HP1 h16 T hT hT2 k2 hk2 mem2 st2 p2 z hz hp2 hm2 s20 s21 HP2 f1 hC f3 f4 hne _ (HP3n hf3)
  · have hpa : putA z 2 = bits .or .i64 (bits .or .i64 z 32) 64 := rfl
    rw [hpa]
    by_cases hsame : bits .or .i64 (bits .or .i64 z 32) 64 = z
    · rw [if_pos hsame]
      by_cases hf4 : (walkV mem2 host ga 2 false).fault = 0
      · have EL : lastT mem2 host ga 2 (st2 + 1) = ⟨0, ga, (walkV mem2 host ga 2 false).pa, (st2 + 1) + (walkV mem2 host ga 2 false).reads.length, (walkV mem2 host ga 2 false).mem⟩ := if_pos hf4
        rw [EL]
        have HP4 := PL_yes w mem2 host (st2 + 1) 0 ga 2 hmM r0 hgb (by decide) (by decide) (by omega) (by omega) hf4
        obtain ⟨p4, hp4⟩ := Int.eq_ofNat_of_zero_le (walkV_pa0 mem2 host ga 2 false hf4)
        rw [hp4] at HP4 ⊢
        exact specTwo_B2_same_ok s host root va user w hm r0 r1 v1 k1 hk1 mem1 st1 p1 y hy hp1 hm1 s10 s11 HP1 h16 T hT hT2 k2 hk2 mem2 st2 p2 z hz hp2 hm2 s20 s21 HP2 f1 hC f3 f4 hsame ga hga _ _ p4 HP4
      · have EL : lastT mem2 host ga 2 (st2 + 1) = ⟨3, ga, 0, (st2 + 1) + (walkV mem2 host ga 2 false).reads.length, mem2⟩ := if_neg hf4
        rw [EL]
        have HP4 := PL_no w mem2 host (st2 + 1) 0 ga 2 hmM r0 hgb (by decide) (by decide) (by omega) (by omega) hf4
        exact specTwo_B2_same_no s host root va user w hm r0 r1 v1 k1 hk1 mem1 st1 p1 y hy hp1 hm1 s10 s11 HP1 h16 T hT hT2 k2 hk2 mem2 st2 p2 z hz hp2 hm2 s20 s21 HP2 f1 hC f3 f4 hsame ga hga _ HP4
    · rw [if_neg hsame]
      have hne : (bits .or .i64 (bits .or .i64 z 32) 64 == z) = false := by simpa using hsame
      by_cases hf3 : r3.fault = 0
      · rw [if_pos hf3]
        obtain ⟨q0, q1, q2⟩ := hpa3 hf3
        obtain ⟨p3, hp3⟩ := Int.eq_ofNat_of_zero_le q0
        have HP3 := HP3y hf3
        rw [hp3] at HP3 q1 ⊢
        have ht : Int.toNat (p3 : Int) = p3 := rfl
        rw [ht]
        have hmS : memOk (setv r3.mem p3 (bits .or .i64 (bits .or .i64 z 32) 64)) = true := memOk_size hmM (by rw [setv_size _ _ _ (by omega)]; exact hsz3)
        by_cases hf4 : (walkV (setv r3.mem p3 (bits .or .i64 (bits .or .i64 z 32) 64)) host ga 2 false).fault = 0
        · have EL : lastT (setv r3.mem p3 (bits .or .i64 (bits .or .i64 z 32) 64)) host ga 2 ((st2 + 1) + (r3.reads.length : Int)) = ⟨0, ga, (walkV (setv r3.mem p3 (bits .or .i64 (bits .or .i64 z 32) 64)) host ga 2 false).pa, ((st2 + 1) + (r3.reads.length : Int)) + (walkV (setv r3.mem p3 (bits .or .i64 (bits .or .i64 z 32) 64)) host ga 2 false).reads.length, (walkV (setv r3.mem p3 (bits .or .i64 (bits .or .i64 z 32) 64)) host ga 2 false).mem⟩ := if_pos hf4
          rw [EL]
          have HP4 := PL_yes w (setv r3.mem p3 (bits .or .i64 (bits .or .i64 z 32) 64)) host ((st2 + 1) + (r3.reads.length : Int)) 0 ga 2 hmS r0 hgb (by decide) (by decide) (by omega) (by omega) hf4
          obtain ⟨p4, hp4⟩ := Int.eq_ofNat_of_zero_le (walkV_pa0 (setv r3.mem p3 (bits .or .i64 (bits .or .i64 z 32) 64)) host ga 2 false hf4)
          rw [hp4] at HP4 ⊢
          exact specTwo_B2_put_ok s host root va user w hm r0 r1 v1 k1 hk1 mem1 st1 p1 y hy hp1 hm1 s10 s11 HP1 h16 T hT hT2 k2 hk2 mem2 st2 p2 z hz hp2 hm2 s20 s21 HP2 f1 hC f3 f4 hne ga hga _ r3.mem _ p3 (by omega) (by omega) HP3 _ p4 HP4
        · have EL : lastT (setv r3.mem p3 (bits .or .i64 (bits .or .i64 z 32) 64)) host ga 2 ((st2 + 1) + (r3.reads.length : Int)) = ⟨3, ga, 0, ((st2 + 1) + (r3.reads.length : Int)) + (walkV (setv r3.mem p3 (bits .or .i64 (bits .or .i64 z 32) 64)) host ga 2 false).reads.length, (setv r3.mem p3 (bits .or .i64 (bits .or .i64 z 32) 64))⟩ := if_neg hf4
          rw [EL]
          have HP4 := PL_no w (setv r3.mem p3 (bits .or .i64 (bits .or .i64 z 32) 64)) host ((st2 + 1) + (r3.reads.length : Int)) 0 ga 2 hmS r0 hgb (by decide) (by decide) (by omega) (by omega) hf4
          exact specTwo_B2_put_no s host root va user w hm r0 r1 v1 k1 hk1 mem1 st1 p1 y hy hp1 hm1 s10 s11 HP1 h16 T hT hT2 k2 hk2 mem2 st2 p2 z hz hp2 hm2 s20 s21 HP2 f1 hC f3 f4 hne ga hga _ r3.mem _ p3 (by omega) (by omega) HP3 HP4
      · rw [if_neg hf3]
        exact specTwo_B2_nput s host root va user w hm r0 r1 v1 k1 hk1 mem1 st1 p1 y hy hp1 hm1 s10 s11 HP1 h16 T hT hT2 k2 hk2 mem2 st2 p2 z hz hp2 hm2 s20 s21 HP2 f1 hC f3 f4 hne _ (HP3n hf3)
  · have hpa : putA z 3 = bits .or .i64 z 32 := rfl
    rw [hpa]
    by_cases hsame : bits .or .i64 z 32 = z
    · rw [if_pos hsame]
      by_cases hf4 : (walkV mem2 host ga 1 false).fault = 0
      · have EL : lastT mem2 host ga 3 (st2 + 1) = ⟨0, ga, (walkV mem2 host ga 1 false).pa, (st2 + 1) + (walkV mem2 host ga 1 false).reads.length, (walkV mem2 host ga 1 false).mem⟩ := if_pos hf4
        rw [EL]
        have HP4 := PL_yes w mem2 host (st2 + 1) 0 ga 1 hmM r0 hgb (by decide) (by decide) (by omega) (by omega) hf4
        obtain ⟨p4, hp4⟩ := Int.eq_ofNat_of_zero_le (walkV_pa0 mem2 host ga 1 false hf4)
        rw [hp4] at HP4 ⊢
        exact specTwo_B3_same_ok s host root va user w hm r0 r1 v1 k1 hk1 mem1 st1 p1 y hy hp1 hm1 s10 s11 HP1 h16 T hT hT2 k2 hk2 mem2 st2 p2 z hz hp2 hm2 s20 s21 HP2 f1 hC f3 f4 hsame ga hga _ _ p4 HP4
      · have EL : lastT mem2 host ga 3 (st2 + 1) = ⟨3, ga, 0, (st2 + 1) + (walkV mem2 host ga 1 false).reads.length, mem2⟩ := if_neg hf4
        rw [EL]
        have HP4 := PL_no w mem2 host (st2 + 1) 0 ga 1 hmM r0 hgb (by decide) (by decide) (by omega) (by omega) hf4
        exact specTwo_B3_same_no s host root va user w hm r0 r1 v1 k1 hk1 mem1 st1 p1 y hy hp1 hm1 s10 s11 HP1 h16 T hT hT2 k2 hk2 mem2 st2 p2 z hz hp2 hm2 s20 s21 HP2 f1 hC f3 f4 hsame ga hga _ HP4
    · rw [if_neg hsame]
      have hne : (bits .or .i64 z 32 == z) = false := by simpa using hsame
      by_cases hf3 : r3.fault = 0
      · rw [if_pos hf3]
        obtain ⟨q0, q1, q2⟩ := hpa3 hf3
        obtain ⟨p3, hp3⟩ := Int.eq_ofNat_of_zero_le q0
        have HP3 := HP3y hf3
        rw [hp3] at HP3 q1 ⊢
        have ht : Int.toNat (p3 : Int) = p3 := rfl
        rw [ht]
        have hmS : memOk (setv r3.mem p3 (bits .or .i64 z 32)) = true := memOk_size hmM (by rw [setv_size _ _ _ (by omega)]; exact hsz3)
        by_cases hf4 : (walkV (setv r3.mem p3 (bits .or .i64 z 32)) host ga 1 false).fault = 0
        · have EL : lastT (setv r3.mem p3 (bits .or .i64 z 32)) host ga 3 ((st2 + 1) + (r3.reads.length : Int)) = ⟨0, ga, (walkV (setv r3.mem p3 (bits .or .i64 z 32)) host ga 1 false).pa, ((st2 + 1) + (r3.reads.length : Int)) + (walkV (setv r3.mem p3 (bits .or .i64 z 32)) host ga 1 false).reads.length, (walkV (setv r3.mem p3 (bits .or .i64 z 32)) host ga 1 false).mem⟩ := if_pos hf4
          rw [EL]
          have HP4 := PL_yes w (setv r3.mem p3 (bits .or .i64 z 32)) host ((st2 + 1) + (r3.reads.length : Int)) 0 ga 1 hmS r0 hgb (by decide) (by decide) (by omega) (by omega) hf4
          obtain ⟨p4, hp4⟩ := Int.eq_ofNat_of_zero_le (walkV_pa0 (setv r3.mem p3 (bits .or .i64 z 32)) host ga 1 false hf4)
          rw [hp4] at HP4 ⊢
          exact specTwo_B3_put_ok s host root va user w hm r0 r1 v1 k1 hk1 mem1 st1 p1 y hy hp1 hm1 s10 s11 HP1 h16 T hT hT2 k2 hk2 mem2 st2 p2 z hz hp2 hm2 s20 s21 HP2 f1 hC f3 f4 hne ga hga _ r3.mem _ p3 (by omega) (by omega) HP3 _ p4 HP4
        · have EL : lastT (setv r3.mem p3 (bits .or .i64 z 32)) host ga 3 ((st2 + 1) + (r3.reads.length : Int)) = ⟨3, ga, 0, ((st2 + 1) + (r3.reads.length : Int)) + (walkV (setv r3.mem p3 (bits .or .i64 z 32)) host ga 1 false).reads.length, (setv r3.mem p3 (bits .or .i64 z 32))⟩ := if_neg hf4
          rw [EL]
          have HP4 := PL_no w (setv r3.mem p3 (bits .or .i64 z 32)) host ((st2 + 1) + (r3.reads.length : Int)) 0 ga 1 hmS r0 hgb (by decide) (by decide) (by omega) (by omega) hf4
          exact specTwo_B3_put_no s host root va user w hm r0 r1 v1 k1 hk1 mem1 st1 p1 y hy hp1 hm1 s10 s11 HP1 h16 T hT hT2 k2 hk2 mem2 st2 p2 z hz hp2 hm2 s20 s21 HP2 f1 hC f3 f4 hne ga hga _ r3.mem _ p3 (by omega) (by omega) HP3 HP4
      · rw [if_neg hf3]
        exact specTwo_B3_nput s host root va user w hm r0 r1 v1 k1 hk1 mem1 st1 p1 y hy hp1 hm1 s10 s11 HP1 h16 T hT hT2 k2 hk2 mem2 st2 p2 z hz hp2 hm2 s20 s21 HP2 f1 hC f3 f4 hne _ (HP3n hf3)
end Go.Proofs.Ytfagohdmepnkkaa
