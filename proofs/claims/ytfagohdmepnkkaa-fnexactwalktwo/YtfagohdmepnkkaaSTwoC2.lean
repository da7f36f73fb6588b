import Derived.Test.YtfagohdmepnkkaaTwoP
namespace Go.Proofs.Ytfagohdmepnkkaa
open Go.ChangeShapes Go.WideShapes Go.ChangeAt Go.RowKit

set_option maxRecDepth 100000 in
set_option maxHeartbeats 4000000 in
theorem specTwo_C2_nput (s : ByteArray) (host root va : Nat) (user : Bool) (w : World) (hm : memOk s = true) (r0 : host ≤ 255) (r1 : root ≤ 255) (v1 : va ≤ 262143) (k1 : Nat) (hk1 : Hid (k1 = root * 256 + 4 * (va / 8192))) (mem1 : ByteArray) (st1 : Int) (p1 : Nat) (z : Int) (hz : wv mem1 p1 = z) (hp1 : p1 + 4 ≤ mem1.size) (hm1 : mem1.size ≤ 65536) (s10 : 0 ≤ st1) (s11 : st1 ≤ 100) (HP1 : Hid (PL w ⟨s, host, 0, 0⟩ k1 1 (p1 : Int) ⟨mem1, host, st1, 0⟩)) (f1 : z % 2 = 1) (hC : ¬ z % 16 = 1) (f2 : z / 256 % 32 = 0) (f3 : mayV z 2 user = true) (f4 : z / 256 + (va : Int) / 256 % 32 < 1024) (hne : (bits .or .i64 (bits .or .i64 z 32) 64 == z) = false) (st3 : Int) (HP3 : Hid (PL w ⟨mem1, host, st1 + 1, 0⟩ k1 2 (-1) ⟨mem1, host, st3, (k1 : Int)⟩)) :
    Calls Try.prog 8 #[.string s, .int .i64 host, .int .i64 root, .int .i64 va, .int .i64 2, .bool user] w fun e w' => e = .returned (twA ⟨3, (k1 : Int), 0, st3, mem1⟩) ∧ Below w.heap.size w w' := by
  have a1 : (1 : Int) ≤ 2 := by decide
  have a2 : (2 : Int) ≤ 3 := by decide
  obtain ⟨z0, z1⟩ := wv_b mem1 p1
  have HW1 : Hid _ := fun w' => l01Word_any mem1 p1 w' hp1 hm1
  rw [hz] at z0 z1 HW1
  clear hz hp1 hm1
  have g1 : bits .and .i64 z 1 = 1 := (and1 z z0 (by omega)).trans f1
  have g14 : (bits .and .i64 z 14 == 0) = false := by
    rw [and14 z z0 (by omega)]
    simp
    omega
  clear f1 hC
  have f5 : ¬ 1024 ≤ z / 256 + (va : Int) / 256 % 32 := by omega
  have i2 : (va : Int) / 256 % 32 ≤ 31 := by omega
  have hc : Hid _ := memC_ok hm
  obtain ⟨hs0, hs1, hs2⟩ := memOk_b hm
  have HS : Hid (s.size ≤ 1099511627776) := (by show s.size ≤ 1099511627776; omega)
  have hv : (decide (262144 ≤ (va : Int))) = false := by
    simp
    omega
  have V1 : Hid (va ≤ 262143) := v1
  have i1 : (va : Int) / 8192 ≤ 31 := by omega
  have hNew : Hid _ := TW.new w s host
  clear hm v1 hs0 hs1 hs2
  go_enter Try.func8, Try.ntmps8
  go_wp2_with (first | (go_at_call 36; refine (specMemFault_any _ _ HS.out).mono ?_; rintro e u1 ⟨rfl, hu1⟩; rw [hu1, hc.out]; clear hu1 u1) | (go_at_call 37; refine (l03Acc_yes _ _ a1 a2).mono ?_; rintro e u2 ⟨rfl, hu2⟩; rw [hu2]; clear hu2 u2) | (go_at_call 38; refine Calls.mono (HP1.out _ _ hNew.out (by have := V1.out; have := hk1.out; omega)) ?_; rintro e v1 ⟨rfl, ht⟩; have HQ1 : Hid _ := ht; obtain ⟨b10, b11, b12, b13, b1f⟩ := HQ1.out.box.cells; (try simp only at b10 b11 b12 b13); clear ht HP1 hNew) | (go_at_call 40; refine Calls.mono (HW1.out _) ?_; rintro e x1 ⟨rfl, q1, hx⟩; have HR1 : Hid (TW w ⟨mem1, host, st1 + 1, 0⟩ x1) := (by rw [hx]; exact (HQ1.out.put2 _).below (bdn (Below.refl _ _) q1)); obtain ⟨d10, d11, d12, d13, d1f⟩ := HR1.out.box.cells; (try simp only at d10 d11 d12 d13); clear hx HQ1 HW1 b10 b11 b12 b13 b1f) | (go_at_call 41; refine (l03May_any _ _ _ _ z0 z1 a1 a2).mono ?_; rintro e u2 ⟨rfl, hu2⟩; rw [hu2]; clear hu2 u2) | (go_at_call 38; refine Calls.mono (HP3.out _ _ HR1.out (by have := V1.out; have := hk1.out; omega)) ?_; rintro e v3 ⟨rfl, ht⟩; have HQ3 : Hid _ := ht; obtain ⟨b30, b31, b32, b33, b3f⟩ := HQ3.out.box.cells; (try simp only at b30 b31 b32 b33); clear ht HP3 HR1 d10 d11 d12 d13 d1f) | (go_at_call 39; refine Calls.mono (answer_tw HQ3.out _ _ _) ?_; rintro e y9 ⟨rfl, ht⟩; have HZ : Hid _ := ht; obtain ⟨m0, m1, m2, m3, m4, mf⟩ := cel5 ht.res; clear ht; simp only [twA]))
  refine bodyPost_ret (v := twA ⟨3, (k1 : Int), 0, st3, mem1⟩) (by simp [results, Try.results8, go_sem, twA, m0, m1, m2, m3, m4]) rfl ⟨rfl, ?_⟩
  have hl : w.heap.size ≤ w.heap.size := Nat.le_refl _
  exact ((((HZ.out.bel.setCell hl _).setCell hl _).setCell hl _).setCell hl _).setCell hl _
set_option maxRecDepth 100000 in
set_option maxHeartbeats 4000000 in
theorem specTwo_C2_same_no (s : ByteArray) (host root va : Nat) (user : Bool) (w : World) (hm : memOk s = true) (r0 : host ≤ 255) (r1 : root ≤ 255) (v1 : va ≤ 262143) (k1 : Nat) (hk1 : Hid (k1 = root * 256 + 4 * (va / 8192))) (mem1 : ByteArray) (st1 : Int) (p1 : Nat) (z : Int) (hz : wv mem1 p1 = z) (hp1 : p1 + 4 ≤ mem1.size) (hm1 : mem1.size ≤ 65536) (s10 : 0 ≤ st1) (s11 : st1 ≤ 100) (HP1 : Hid (PL w ⟨s, host, 0, 0⟩ k1 1 (p1 : Int) ⟨mem1, host, st1, 0⟩)) (f1 : z % 2 = 1) (hC : ¬ z % 16 = 1) (f2 : z / 256 % 32 = 0) (f3 : mayV z 2 user = true) (f4 : z / 256 + (va : Int) / 256 % 32 < 1024) (hsame : bits .or .i64 (bits .or .i64 z 32) 64 = z) (ga : Nat) (hga : Hid ((z / 256 + (va : Int) / 256 % 32) * 256 + (va : Int) % 256 = (ga : Int))) (st4 : Int) (HP4 : Hid (PL w ⟨mem1, host, st1 + 1, 0⟩ ga 2 (-1) ⟨mem1, host, st4, (ga : Int)⟩)) :
    Calls Try.prog 8 #[.string s, .int .i64 host, .int .i64 root, .int .i64 va, .int .i64 2, .bool user] w fun e w' => e = .returned (twA ⟨3, (ga : Int), 0, st4, mem1⟩) ∧ Below w.heap.size w w' := by
  have a1 : (1 : Int) ≤ 2 := by decide
  have a2 : (2 : Int) ≤ 3 := by decide
  obtain ⟨z0, z1⟩ := wv_b mem1 p1
  have HW1 : Hid _ := fun w' => l01Word_any mem1 p1 w' hp1 hm1
  rw [hz] at z0 z1 HW1
  clear hz hp1 hm1
  have g1 : bits .and .i64 z 1 = 1 := (and1 z z0 (by omega)).trans f1
  have g14 : (bits .and .i64 z 14 == 0) = false := by
    rw [and14 z z0 (by omega)]
    simp
    omega
  clear f1 hC
  have f5 : ¬ 1024 ≤ z / 256 + (va : Int) / 256 % 32 := by omega
  have i2 : (va : Int) / 256 % 32 ≤ 31 := by omega
  have hc : Hid _ := memC_ok hm
  obtain ⟨hs0, hs1, hs2⟩ := memOk_b hm
  have HS : Hid (s.size ≤ 1099511627776) := (by show s.size ≤ 1099511627776; omega)
  have hv : (decide (262144 ≤ (va : Int))) = false := by
    simp
    omega
  have V1 : Hid (va ≤ 262143) := v1
  have i1 : (va : Int) / 8192 ≤ 31 := by omega
  have hNew : Hid _ := TW.new w s host
  clear hm v1 hs0 hs1 hs2
  go_enter Try.func8, Try.ntmps8
  go_wp2_with (first | (go_at_call 36; refine (specMemFault_any _ _ HS.out).mono ?_; rintro e u1 ⟨rfl, hu1⟩; rw [hu1, hc.out]; clear hu1 u1) | (go_at_call 37; refine (l03Acc_yes _ _ a1 a2).mono ?_; rintro e u2 ⟨rfl, hu2⟩; rw [hu2]; clear hu2 u2) | (go_at_call 38; refine Calls.mono (HP1.out _ _ hNew.out (by have := V1.out; have := hk1.out; omega)) ?_; rintro e v1 ⟨rfl, ht⟩; have HQ1 : Hid _ := ht; obtain ⟨b10, b11, b12, b13, b1f⟩ := HQ1.out.box.cells; (try simp only at b10 b11 b12 b13); clear ht HP1 hNew) | (go_at_call 40; refine Calls.mono (HW1.out _) ?_; rintro e x1 ⟨rfl, q1, hx⟩; have HR1 : Hid (TW w ⟨mem1, host, st1 + 1, 0⟩ x1) := (by rw [hx]; exact (HQ1.out.put2 _).below (bdn (Below.refl _ _) q1)); obtain ⟨d10, d11, d12, d13, d1f⟩ := HR1.out.box.cells; (try simp only at d10 d11 d12 d13); clear hx HQ1 HW1 b10 b11 b12 b13 b1f) | (go_at_call 41; refine (l03May_any _ _ _ _ z0 z1 a1 a2).mono ?_; rintro e u2 ⟨rfl, hu2⟩; rw [hu2]; clear hu2 u2) | (go_at_call 38; refine Calls.mono (HP4.out _ _ HR1.out (by have := V1.out; have := hga.out; omega)) ?_; rintro e v4 ⟨rfl, ht⟩; have HQ4 : Hid _ := ht; obtain ⟨b40, b41, b42, b43, b4f⟩ := HQ4.out.box.cells; (try simp only at b40 b41 b42 b43); clear ht HP4 HR1 d10 d11 d12 d13 d1f) | (go_at_call 39; refine Calls.mono (answer_tw HQ4.out _ _ _) ?_; rintro e y9 ⟨rfl, ht⟩; have HZ : Hid _ := ht; obtain ⟨m0, m1, m2, m3, m4, mf⟩ := cel5 ht.res; clear ht; simp only [twA]))
  refine bodyPost_ret (v := twA ⟨3, (ga : Int), 0, st4, mem1⟩) (by simp [results, Try.results8, go_sem, twA, m0, m1, m2, m3, m4]) rfl ⟨rfl, ?_⟩
  have hl : w.heap.size ≤ w.heap.size := Nat.le_refl _
  exact ((((HZ.out.bel.setCell hl _).setCell hl _).setCell hl _).setCell hl _).setCell hl _
set_option maxRecDepth 100000 in
set_option maxHeartbeats 4000000 in
theorem specTwo_C2_same_ok (s : ByteArray) (host root va : Nat) (user : Bool) (w : World) (hm : memOk s = true) (r0 : host ≤ 255) (r1 : root ≤ 255) (v1 : va ≤ 262143) (k1 : Nat) (hk1 : Hid (k1 = root * 256 + 4 * (va / 8192))) (mem1 : ByteArray) (st1 : Int) (p1 : Nat) (z : Int) (hz : wv mem1 p1 = z) (hp1 : p1 + 4 ≤ mem1.size) (hm1 : mem1.size ≤ 65536) (s10 : 0 ≤ st1) (s11 : st1 ≤ 100) (HP1 : Hid (PL w ⟨s, host, 0, 0⟩ k1 1 (p1 : Int) ⟨mem1, host, st1, 0⟩)) (f1 : z % 2 = 1) (hC : ¬ z % 16 = 1) (f2 : z / 256 % 32 = 0) (f3 : mayV z 2 user = true) (f4 : z / 256 + (va : Int) / 256 % 32 < 1024) (hsame : bits .or .i64 (bits .or .i64 z 32) 64 = z) (ga : Nat) (hga : Hid ((z / 256 + (va : Int) / 256 % 32) * 256 + (va : Int) % 256 = (ga : Int))) (st4 : Int) (mem4 : ByteArray) (p4 : Nat) (HP4 : Hid (PL w ⟨mem1, host, st1 + 1, 0⟩ ga 2 (p4 : Int) ⟨mem4, host, st4, 0⟩)) :
    Calls Try.prog 8 #[.string s, .int .i64 host, .int .i64 root, .int .i64 va, .int .i64 2, .bool user] w fun e w' => e = .returned (twA ⟨0, (ga : Int), (p4 : Int), st4, mem4⟩) ∧ Below w.heap.size w w' := by
  have a1 : (1 : Int) ≤ 2 := by decide
  have a2 : (2 : Int) ≤ 3 := by decide
  obtain ⟨z0, z1⟩ := wv_b mem1 p1
  have HW1 : Hid _ := fun w' => l01Word_any mem1 p1 w' hp1 hm1
  rw [hz] at z0 z1 HW1
  clear hz hp1 hm1
  have g1 : bits .and .i64 z 1 = 1 := (and1 z z0 (by omega)).trans f1
  have g14 : (bits .and .i64 z 14 == 0) = false := by
    rw [and14 z z0 (by omega)]
    simp
    omega
  clear f1 hC
  have f5 : ¬ 1024 ≤ z / 256 + (va : Int) / 256 % 32 := by omega
  have i2 : (va : Int) / 256 % 32 ≤ 31 := by omega
  have hc : Hid _ := memC_ok hm
  obtain ⟨hs0, hs1, hs2⟩ := memOk_b hm
  have HS : Hid (s.size ≤ 1099511627776) := (by show s.size ≤ 1099511627776; omega)
  have hv : (decide (262144 ≤ (va : Int))) = false := by
    simp
    omega
  have V1 : Hid (va ≤ 262143) := v1
  have i1 : (va : Int) / 8192 ≤ 31 := by omega
  have hNew : Hid _ := TW.new w s host
  clear hm v1 hs0 hs1 hs2
  go_enter Try.func8, Try.ntmps8
  go_wp2_with (first | (go_at_call 36; refine (specMemFault_any _ _ HS.out).mono ?_; rintro e u1 ⟨rfl, hu1⟩; rw [hu1, hc.out]; clear hu1 u1) | (go_at_call 37; refine (l03Acc_yes _ _ a1 a2).mono ?_; rintro e u2 ⟨rfl, hu2⟩; rw [hu2]; clear hu2 u2) | (go_at_call 38; refine Calls.mono (HP1.out _ _ hNew.out (by have := V1.out; have := hk1.out; omega)) ?_; rintro e v1 ⟨rfl, ht⟩; have HQ1 : Hid _ := ht; obtain ⟨b10, b11, b12, b13, b1f⟩ := HQ1.out.box.cells; (try simp only at b10 b11 b12 b13); clear ht HP1 hNew) | (go_at_call 40; refine Calls.mono (HW1.out _) ?_; rintro e x1 ⟨rfl, q1, hx⟩; have HR1 : Hid (TW w ⟨mem1, host, st1 + 1, 0⟩ x1) := (by rw [hx]; exact (HQ1.out.put2 _).below (bdn (Below.refl _ _) q1)); obtain ⟨d10, d11, d12, d13, d1f⟩ := HR1.out.box.cells; (try simp only at d10 d11 d12 d13); clear hx HQ1 HW1 b10 b11 b12 b13 b1f) | (go_at_call 41; refine (l03May_any _ _ _ _ z0 z1 a1 a2).mono ?_; rintro e u2 ⟨rfl, hu2⟩; rw [hu2]; clear hu2 u2) | (go_at_call 38; refine Calls.mono (HP4.out _ _ HR1.out (by have := V1.out; have := hga.out; omega)) ?_; rintro e v4 ⟨rfl, ht⟩; have HQ4 : Hid _ := ht; obtain ⟨b40, b41, b42, b43, b4f⟩ := HQ4.out.box.cells; (try simp only at b40 b41 b42 b43); clear ht HP4 HR1 d10 d11 d12 d13 d1f) | (go_at_call 39; refine Calls.mono (answer_tw HQ4.out _ _ _) ?_; rintro e y9 ⟨rfl, ht⟩; have HZ : Hid _ := ht; obtain ⟨m0, m1, m2, m3, m4, mf⟩ := cel5 ht.res; clear ht; simp only [twA]))
  refine bodyPost_ret (v := twA ⟨0, (ga : Int), (p4 : Int), st4, mem4⟩) (by simp [results, Try.results8, go_sem, twA, m0, m1, m2, m3, m4]; have := hga.out; omega) rfl ⟨rfl, ?_⟩
  have hl : w.heap.size ≤ w.heap.size := Nat.le_refl _
  exact ((((HZ.out.bel.setCell hl _).setCell hl _).setCell hl _).setCell hl _).setCell hl _
set_option maxRecDepth 100000 in
set_option maxHeartbeats 4000000 in
theorem specTwo_C2_put_no (s : ByteArray) (host root va : Nat) (user : Bool) (w : World) (hm : memOk s = true) (r0 : host ≤ 255) (r1 : root ≤ 255) (v1 : va ≤ 262143) (k1 : Nat) (hk1 : Hid (k1 = root * 256 + 4 * (va / 8192))) (mem1 : ByteArray) (st1 : Int) (p1 : Nat) (z : Int) (hz : wv mem1 p1 = z) (hp1 : p1 + 4 ≤ mem1.size) (hm1 : mem1.size ≤ 65536) (s10 : 0 ≤ st1) (s11 : st1 ≤ 100) (HP1 : Hid (PL w ⟨s, host, 0, 0⟩ k1 1 (p1 : Int) ⟨mem1, host, st1, 0⟩)) (f1 : z % 2 = 1) (hC : ¬ z % 16 = 1) (f2 : z / 256 % 32 = 0) (f3 : mayV z 2 user = true) (f4 : z / 256 + (va : Int) / 256 % 32 < 1024) (hne : (bits .or .i64 (bits .or .i64 z 32) 64 == z) = false) (ga : Nat) (hga : Hid ((z / 256 + (va : Int) / 256 % 32) * 256 + (va : Int) % 256 = (ga : Int))) (st4 : Int) (mem3 : ByteArray) (st3 : Int) (p3 : Nat) (hp3 : p3 + 4 ≤ mem3.size) (hm3 : mem3.size ≤ 65536) (HP3 : Hid (PL w ⟨mem1, host, st1 + 1, 0⟩ k1 2 (p3 : Int) ⟨mem3, host, st3, 0⟩)) (HP4 : Hid (PL w ⟨(setv mem3 p3 (bits .or .i64 (bits .or .i64 z 32) 64)), host, st3, 0⟩ ga 2 (-1) ⟨(setv mem3 p3 (bits .or .i64 (bits .or .i64 z 32) 64)), host, st4, (ga : Int)⟩)) :
    Calls Try.prog 8 #[.string s, .int .i64 host, .int .i64 root, .int .i64 va, .int .i64 2, .bool user] w fun e w' => e = .returned (twA ⟨3, (ga : Int), 0, st4, (setv mem3 p3 (bits .or .i64 (bits .or .i64 z 32) 64))⟩) ∧ Below w.heap.size w w' := by
  have a1 : (1 : Int) ≤ 2 := by decide
  have a2 : (2 : Int) ≤ 3 := by decide
  obtain ⟨z0, z1⟩ := wv_b mem1 p1
  have HW1 : Hid _ := fun w' => l01Word_any mem1 p1 w' hp1 hm1
  rw [hz] at z0 z1 HW1
  clear hz hp1 hm1
  have g1 : bits .and .i64 z 1 = 1 := (and1 z z0 (by omega)).trans f1
  have g14 : (bits .and .i64 z 14 == 0) = false := by
    rw [and14 z z0 (by omega)]
    simp
    omega
  clear f1 hC
  have f5 : ¬ 1024 ≤ z / 256 + (va : Int) / 256 % 32 := by omega
  have i2 : (va : Int) / 256 % 32 ≤ 31 := by omega
  have HSW : Hid _ := fun w' => specSetWord_yes mem3 p3 (bits .or .i64 (bits .or .i64 z 32) 64) w' hp3 hm3
  clear hp3 hm3
  have hc : Hid _ := memC_ok hm
  obtain ⟨hs0, hs1, hs2⟩ := memOk_b hm
  have HS : Hid (s.size ≤ 1099511627776) := (by show s.size ≤ 1099511627776; omega)
  have hv : (decide (262144 ≤ (va : Int))) = false := by
    simp
    omega
  have V1 : Hid (va ≤ 262143) := v1
  have i1 : (va : Int) / 8192 ≤ 31 := by omega
  have hNew : Hid _ := TW.new w s host
  clear hm v1 hs0 hs1 hs2
  go_enter Try.func8, Try.ntmps8
  go_wp2_with (first | (go_at_call 36; refine (specMemFault_any _ _ HS.out).mono ?_; rintro e u1 ⟨rfl, hu1⟩; rw [hu1, hc.out]; clear hu1 u1) | (go_at_call 37; refine (l03Acc_yes _ _ a1 a2).mono ?_; rintro e u2 ⟨rfl, hu2⟩; rw [hu2]; clear hu2 u2) | (go_at_call 38; refine Calls.mono (HP1.out _ _ hNew.out (by have := V1.out; have := hk1.out; omega)) ?_; rintro e v1 ⟨rfl, ht⟩; have HQ1 : Hid _ := ht; obtain ⟨b10, b11, b12, b13, b1f⟩ := HQ1.out.box.cells; (try simp only at b10 b11 b12 b13); clear ht HP1 hNew) | (go_at_call 40; refine Calls.mono (HW1.out _) ?_; rintro e x1 ⟨rfl, q1, hx⟩; have HR1 : Hid (TW w ⟨mem1, host, st1 + 1, 0⟩ x1) := (by rw [hx]; exact (HQ1.out.put2 _).below (bdn (Below.refl _ _) q1)); obtain ⟨d10, d11, d12, d13, d1f⟩ := HR1.out.box.cells; (try simp only at d10 d11 d12 d13); clear hx HQ1 HW1 b10 b11 b12 b13 b1f) | (go_at_call 41; refine (l03May_any _ _ _ _ z0 z1 a1 a2).mono ?_; rintro e u2 ⟨rfl, hu2⟩; rw [hu2]; clear hu2 u2) | (go_at_call 38; refine Calls.mono (HP3.out _ _ HR1.out (by have := V1.out; have := hk1.out; omega)) ?_; rintro e v3 ⟨rfl, ht⟩; have HQ3 : Hid _ := ht; obtain ⟨b30, b31, b32, b33, b3f⟩ := HQ3.out.box.cells; (try simp only at b30 b31 b32 b33); clear ht HP3 HR1 d10 d11 d12 d13 d1f) | (go_at_call 42; refine Calls.mono (HSW.out _) ?_; rintro e y3 ⟨rfl, hy⟩; have HR3 : Hid _ := HQ3.out.below hy; obtain ⟨d30, d31, d32, d33, d3f⟩ := HR3.out.box.cells; (try simp only at d30 d31 d32 d33); clear hy HQ3 HSW b30 b31 b32 b33 b3f) | (go_at_call 38; refine Calls.mono (HP4.out _ _ (HR3.out.put0 _) (by have := V1.out; have := hga.out; omega)) ?_; rintro e v4 ⟨rfl, ht⟩; have HQ4 : Hid _ := ht; obtain ⟨b40, b41, b42, b43, b4f⟩ := HQ4.out.box.cells; (try simp only at b40 b41 b42 b43); clear ht HP4 HR3 d30 d31 d32 d33 d3f) | (go_at_call 39; refine Calls.mono (answer_tw HQ4.out _ _ _) ?_; rintro e y9 ⟨rfl, ht⟩; have HZ : Hid _ := ht; obtain ⟨m0, m1, m2, m3, m4, mf⟩ := cel5 ht.res; clear ht; simp only [twA]))
  refine bodyPost_ret (v := twA ⟨3, (ga : Int), 0, st4, (setv mem3 p3 (bits .or .i64 (bits .or .i64 z 32) 64))⟩) (by simp [results, Try.results8, go_sem, twA, m0, m1, m2, m3, m4]) rfl ⟨rfl, ?_⟩
  have hl : w.heap.size ≤ w.heap.size := Nat.le_refl _
  exact ((((HZ.out.bel.setCell hl _).setCell hl _).setCell hl _).setCell hl _).setCell hl _
set_option maxRecDepth 100000 in
set_option maxHeartbeats 4000000 in
theorem specTwo_C2_put_ok (s : ByteArray) (host root va : Nat) (user : Bool) (w : World) (hm : memOk s = true) (r0 : host ≤ 255) (r1 : root ≤ 255) (v1 : va ≤ 262143) (k1 : Nat) (hk1 : Hid (k1 = root * 256 + 4 * (va / 8192))) (mem1 : ByteArray) (st1 : Int) (p1 : Nat) (z : Int) (hz : wv mem1 p1 = z) (hp1 : p1 + 4 ≤ mem1.size) (hm1 : mem1.size ≤ 65536) (s10 : 0 ≤ st1) (s11 : st1 ≤ 100) (HP1 : Hid (PL w ⟨s, host, 0, 0⟩ k1 1 (p1 : Int) ⟨mem1, host, st1, 0⟩)) (f1 : z % 2 = 1) (hC : ¬ z % 16 = 1) (f2 : z / 256 % 32 = 0) (f3 : mayV z 2 user = true) (f4 : z / 256 + (va : Int) / 256 % 32 < 1024) (hne : (bits .or .i64 (bits .or .i64 z 32) 64 == z) = false) (ga : Nat) (hga : Hid ((z / 256 + (va : Int) / 256 % 32) * 256 + (va : Int) % 256 = (ga : Int))) (st4 : Int) (mem3 : ByteArray) (st3 : Int) (p3 : Nat) (hp3 : p3 + 4 ≤ mem3.size) (hm3 : mem3.size ≤ 65536) (HP3 : Hid (PL w ⟨mem1, host, st1 + 1, 0⟩ k1 2 (p3 : Int) ⟨mem3, host, st3, 0⟩)) (mem4 : ByteArray) (p4 : Nat) (HP4 : Hid (PL w ⟨(setv mem3 p3 (bits .or .i64 (bits .or .i64 z 32) 64)), host, st3, 0⟩ ga 2 (p4 : Int) ⟨mem4, host, st4, 0⟩)) :
    Calls Try.prog 8 #[.string s, .int .i64 host, .int .i64 root, .int .i64 va, .int .i64 2, .bool user] w fun e w' => e = .returned (twA ⟨0, (ga : Int), (p4 : Int), st4, mem4⟩) ∧ Below w.heap.size w w' := by
  have a1 : (1 : Int) ≤ 2 := by decide
  have a2 : (2 : Int) ≤ 3 := by decide
  obtain ⟨z0, z1⟩ := wv_b mem1 p1
  have HW1 : Hid _ := fun w' => l01Word_any mem1 p1 w' hp1 hm1
  rw [hz] at z0 z1 HW1
  clear hz hp1 hm1
  have g1 : bits .and .i64 z 1 = 1 := (and1 z z0 (by omega)).trans f1
  have g14 : (bits .and .i64 z 14 == 0) = false := by
    rw [and14 z z0 (by omega)]
    simp
    omega
  clear f1 hC
  have f5 : ¬ 1024 ≤ z / 256 + (va : Int) / 256 % 32 := by omega
  have i2 : (va : Int) / 256 % 32 ≤ 31 := by omega
  have HSW : Hid _ := fun w' => specSetWord_yes mem3 p3 (bits .or .i64 (bits .or .i64 z 32) 64) w' hp3 hm3
  clear hp3 hm3
  have hc : Hid _ := memC_ok hm
  obtain ⟨hs0, hs1, hs2⟩ := memOk_b hm
  have HS : Hid (s.size ≤ 1099511627776) := (by show s.size ≤ 1099511627776; omega)
  have hv : (decide (262144 ≤ (va : Int))) = false := by
    simp
    omega
  have V1 : Hid (va ≤ 262143) := v1
  have i1 : (va : Int) / 8192 ≤ 31 := by omega
  have hNew : Hid _ := TW.new w s host
  clear hm v1 hs0 hs1 hs2
  go_enter Try.func8, Try.ntmps8
  go_wp2_with (first | (go_at_call 36; refine (specMemFault_any _ _ HS.out).mono ?_; rintro e u1 ⟨rfl, hu1⟩; rw [hu1, hc.out]; clear hu1 u1) | (go_at_call 37; refine (l03Acc_yes _ _ a1 a2).mono ?_; rintro e u2 ⟨rfl, hu2⟩; rw [hu2]; clear hu2 u2) | (go_at_call 38; refine Calls.mono (HP1.out _ _ hNew.out (by have := V1.out; have := hk1.out; omega)) ?_; rintro e v1 ⟨rfl, ht⟩; have HQ1 : Hid _ := ht; obtain ⟨b10, b11, b12, b13, b1f⟩ := HQ1.out.box.cells; (try simp only at b10 b11 b12 b13); clear ht HP1 hNew) | (go_at_call 40; refine Calls.mono (HW1.out _) ?_; rintro e x1 ⟨rfl, q1, hx⟩; have HR1 : Hid (TW w ⟨mem1, host, st1 + 1, 0⟩ x1) := (by rw [hx]; exact (HQ1.out.put2 _).below (bdn (Below.refl _ _) q1)); obtain ⟨d10, d11, d12, d13, d1f⟩ := HR1.out.box.cells; (try simp only at d10 d11 d12 d13); clear hx HQ1 HW1 b10 b11 b12 b13 b1f) | (go_at_call 41; refine (l03May_any _ _ _ _ z0 z1 a1 a2).mono ?_; rintro e u2 ⟨rfl, hu2⟩; rw [hu2]; clear hu2 u2) | (go_at_call 38; refine Calls.mono (HP3.out _ _ HR1.out (by have := V1.out; have := hk1.out; omega)) ?_; rintro e v3 ⟨rfl, ht⟩; have HQ3 : Hid _ := ht; obtain ⟨b30, b31, b32, b33, b3f⟩ := HQ3.out.box.cells; (try simp only at b30 b31 b32 b33); clear ht HP3 HR1 d10 d11 d12 d13 d1f) | (go_at_call 42; refine Calls.mono (HSW.out _) ?_; rintro e y3 ⟨rfl, hy⟩; have HR3 : Hid _ := HQ3.out.below hy; obtain ⟨d30, d31, d32, d33, d3f⟩ := HR3.out.box.cells; (try simp only at d30 d31 d32 d33); clear hy HQ3 HSW b30 b31 b32 b33 b3f) | (go_at_call 38; refine Calls.mono (HP4.out _ _ (HR3.out.put0 _) (by have := V1.out; have := hga.out; omega)) ?_; rintro e v4 ⟨rfl, ht⟩; have HQ4 : Hid _ := ht; obtain ⟨b40, b41, b42, b43, b4f⟩ := HQ4.out.box.cells; (try simp only at b40 b41 b42 b43); clear ht HP4 HR3 d30 d31 d32 d33 d3f) | (go_at_call 39; refine Calls.mono (answer_tw HQ4.out _ _ _) ?_; rintro e y9 ⟨rfl, ht⟩; have HZ : Hid _ := ht; obtain ⟨m0, m1, m2, m3, m4, mf⟩ := cel5 ht.res; clear ht; simp only [twA]))
  refine bodyPost_ret (v := twA ⟨0, (ga : Int), (p4 : Int), st4, mem4⟩) (by simp [results, Try.results8, go_sem, twA, m0, m1, m2, m3, m4]; have := hga.out; omega) rfl ⟨rfl, ?_⟩
  have hl : w.heap.size ≤ w.heap.size := Nat.le_refl _
  exact ((((HZ.out.bel.setCell hl _).setCell hl _).setCell hl _).setCell hl _).setCell hl _
end Go.Proofs.Ytfagohdmepnkkaa
