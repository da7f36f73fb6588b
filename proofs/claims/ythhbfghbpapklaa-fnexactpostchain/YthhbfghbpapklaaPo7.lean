import Derived.Test.YthhbfghbpapklaaPo6
namespace Go.Proofs.Ythhbfghbpapklaa
open Go.ChangeShapes Go.WideShapes Go.ChangeAt Go.RowKit

set_option maxRecDepth 100000
theorem pdF (S F n : Nat) (z : BU) (k : Nat) : dF (dv (pdE S F n z k)) = (if k + 1 < n then 2 * (if z.write = true then 1 else 0) + 1 else 2 * (if z.write = true then (1 : Int) else 0)) := by
  unfold dF dv pdE fi
  simp only
  cases z.write <;> by_cases hq : k + 1 < n <;> simp [hq]
theorem szB_mod {S C : Nat} (h : szB (S : Int) = true) : C % 65536 % S = C % S := by
  have h2 : (S : Int) ∈ [1, 2, 4, 8, 16] := by simpa [szB] using h
  simp only [List.mem_cons, List.not_mem_nil, or_false] at h2
  have h3 : S = 1 ∨ S = 2 ∨ S = 4 ∨ S = 8 ∨ S = 16 := by omega
  rcases h3 with rfl | rfl | rfl | rfl | rfl <;> omega
set_option maxHeartbeats 4000000 in
theorem specPO_go {w : World} {v : Value} {zs : List BU} (s : ByteArray) (S D A U T G F : Nat) (h : BUrow w v zs) (hp : qOk s ⟨S, D, A, U, T, G⟩ = true) (hF : F < S) (hz0 : ¬ zs.length = 0) (hzS : zs.length ≤ S) (AV : Value) (hT : zs.all okB = true → AV = gcA 0 (pcF (pcM s S D F (pdL S F zs) zs.length) S A F) ⟨S, D, A, U, T, G⟩ false) (hN : zs.all okB = false → AV = gcA 1 ⟨#[]⟩ q0 false) : Calls Try.prog 8 #[.string s, qA ⟨S, D, A, U, T, G⟩, .int .i64 F, v] w fun e w' => e = .returned AV ∧ Below w.heap.size w w' := by
  obtain ⟨a1, c1, rfl⟩ := h.sl
  have HR : Hid (BUrow w (.slice a1 zs.length c1) zs) := h
  have HT : Hid _ := hT
  have HNo : Hid _ := hN
  obtain ⟨hm, hz, ⟨t0, t1⟩, ⟨g0, g1⟩, ⟨b1, b2, b3⟩, ⟨e1, e2, e3⟩, _⟩ := qOk_b hp
  obtain ⟨m1, m2, m3⟩ := memOk_b hm
  simp only at hz b1 b2 b3 e1 e2 e3 t0 t1 g0 g1
  have hS : 1 ≤ S ∧ S ≤ 16 := by unfold szB at hz; simp at hz; omega
  have hd1 : decide (1000 < (zs.length : Int)) = false := decide_eq_false (by omega)
  have hd2 : decide (65536 < (s.size : Int)) = false := decide_eq_false (by omega)
  have hd3 : decide ((F : Int) < 0) = false := decide_eq_false (by omega)
  have hd4 : decide ((S : Int) ≤ (F : Int)) = false := decide_eq_false (by omega)
  have hd5 : decide ((zs.length : Int) < 1) = false := decide_eq_false (by omega)
  have hd6 : decide ((S : Int) < (zs.length : Int)) = false := decide_eq_false (by omega)
  have hn1 : F < S := hF
  have hn2 : zs.length ≤ S := hzS
  have hn3 : ¬ zs = [] := fun e => hz0 (by rw [e]; rfl)
  have hn4 : ¬ zs.length = 0 := hz0
  have hn5 : 0 < zs.length := by omega
  have hn6 : ¬ (zs.length : Int) < 1 := by omega
  have hn7 : ¬ (S : Int) ≤ (F : Int) := by omega
  have hn8 : ¬ (S : Int) < (zs.length : Int) := by omega
  have hn9 : decide (S ≤ F) = false := decide_eq_false (by omega)
  have hn10 : decide (S < zs.length) = false := decide_eq_false (by omega)
  have HC : Hid _ := fun u => specQueueFault_any s ⟨S, D, A, U, T, G⟩ u (by omega)
  rw [qF_ok hp] at HC
  have HIW : Hid _ := fun (x : Int) (u : World) => isWord_any x u
  have HLB : Hid _ := fun (b : Bool) (u : World) => l01BoolP b u
  have HSZ : Hid _ := pcM_size s S D F (pdL S F zs) hS.1 (by omega)
  have HSW : Hid (∀ (M : ByteArray) (k : Nat) (y n : Int) (u : World), M.size = s.size → y = k → k + 4 ≤ s.size → Calls Try.prog 24 #[.string M, .int .i64 y, .int .i64 n] u fun e w' => e = .returned (.string (setv M k n)) ∧ Below u.heap.size u w') := fun M k y n u h1 h2 h3 => setW M k y n u h2 (by omega) (by omega)
  have HPN : Hid (∀ (k : Nat) (hk : k < zs.length), pcM s S D F (pdL S F zs) (k + 1) = setd (pcM s S D F (pdL S F zs) k) (D + (F + k) % S * 16) zs[k].pos zs[k].len (if k + 1 < zs.length then 2 * (if zs[k].write = true then 1 else 0) + 1 else 2 * (if zs[k].write = true then (1 : Int) else 0)) (if k + 1 < zs.length then (((F + k + 1) % S : Nat) : Int) else 0)) := fun k hk => by
    have e : (pdL S F zs).getD k dd0 = pdE S F zs.length zs[k] k := by
      rw [List.getD, List.getElem?_eq_getElem (by rw [pdL_len]; exact hk), pdL_at S F zs k hk]
      rfl
    show setd _ _ _ _ _ _ = _
    rw [e, pdF]
    rfl
  have hps := HSZ.out zs.length
  have HWD : Hid _ := fun u => l01Word_any (pcM s S D F (pdL S F zs) zs.length) (A + 4) u (by omega) (by omega)
  rw [show ((A + 4 : Nat) : Int) = (A : Int) + 4 by omega] at HWD
  have hcb := wv_b (pcM s S D F (pdL S F zs) zs.length) (A + 4)
  obtain ⟨C, hC⟩ : ∃ C : Nat, wv (pcM s S D F (pdL S F zs) zs.length) (A + 4) = C := ⟨(wv (pcM s S D F (pdL S F zs) zs.length) (A + 4)).toNat, by omega⟩
  have hCm := szB_mod (C := C) hz
  have HFE : Hid (pcF (pcM s S D F (pdL S F zs) zs.length) S A F = setv (setv (pcM s S D F (pdL S F zs) zs.length) (A + 8 + C % 65536 % S * 4) F) (A + 4) (((C % 65536 + 1) % 65536 : Nat) : Int)) := by
    show _ = _
    unfold pcF
    rw [hC, Int.toNat_natCast, hCm, show (C % 65536 + 1) % 65536 = (C + 1) % 65536 by omega]
  rw [hC] at HWD hcb
  have HB : Hid (1 ≤ S ∧ S ≤ 16 ∧ F < S ∧ zs.length ≤ 16 ∧ D + S * 16 ≤ s.size ∧ A + (8 + S * 4) ≤ s.size ∧ s.size ≤ 65536 ∧ ¬ zs.length = 0) := ⟨hS.1, hS.2, hF, by omega, by omega, by omega, by omega, hz0⟩
  have hDb : (D : Int) ≤ 65536 := by omega
  have hAb : (A : Int) ≤ 65536 := by omega
  have hFb : (F : Int) < 16 := by omega
  have hSb : (S : Int) ≤ 16 := by omega
  have h0 : ¬ (S : Int) = 0 := by omega
  clear h hp hm hz t0 t1 g0 g1 b1 b2 b3 e1 e2 e3 m1 m2 m3 hS hF hz0 hzS hps hC hCm hT hN
  unfold qA at HC HT ⊢
  unfold gcA q0 at HNo
  unfold gcA at HT
  simp only at HC HT ⊢
  have HX0 : Hid (TwoBx w ((w.alloc (.cells #[.int .i64 S, .int .i64 D, .int .i64 A, .int .i64 U, .int .i64 T, .int .i64 G] 26)).alloc (.cells #[.int .i64 0, .string ⟨#[]⟩, .int .i64 0, .int .i64 0, .int .i64 0, .int .i64 0, .int .i64 0, .int .i64 0, .bool false] 28)) #[.int .i64 S, .int .i64 D, .int .i64 A, .int .i64 U, .int .i64 T, .int .i64 G] 26 #[.int .i64 0, .string ⟨#[]⟩, .int .i64 0, .int .i64 0, .int .i64 0, .int .i64 0, .int .i64 0, .int .i64 0, .bool false] 28) := TwoBx.of _ _ _ _ _ (Below.refl _ _)
  go_enter Try.func8, Try.ntmps8
  go_upto_region 1 with fail
  generalize ((w.alloc (.cells #[.int .i64 S, .int .i64 D, .int .i64 A, .int .i64 U, .int .i64 T, .int .i64 G] 26)).alloc (.cells #[.int .i64 0, .string ⟨#[]⟩, .int .i64 0, .int .i64 0, .int .i64 0, .int .i64 0, .int .i64 0, .int .i64 0, .bool false] 28)) = W0 at *
  have k0 := HX0.out.c1 0 _ rfl
  have k1 := HX0.out.c1 1 _ rfl
  have k2 := HX0.out.c1 2 _ rfl
  have k3 := HX0.out.c1 3 _ rfl
  have k4 := HX0.out.c1 4 _ rfl
  have k5 := HX0.out.c1 5 _ rfl
  go_wp2_with (go_at_call 21; refine Calls.mono (HC.out _) ?_; rintro e u1 ⟨rfl, hu1⟩; have HX1 : Hid _ := HX0.out.step hu1; clear hu1 k0 k1 k2 k3 k4 k5; have k0 := HX1.out.c1 0 _ rfl; have k1 := HX1.out.c1 1 _ rfl; have k2 := HX1.out.c1 2 _ rfl; have k3 := HX1.out.c1 3 _ rfl; have k4 := HX1.out.c1 4 _ rfl; have k5 := HX1.out.c1 5 _ rfl)
  clear HC HX0 hd1 hd2 hd3 hd4 hd5 hd6 hn1 hn2 hn3 hn4 hn5 hn6 hn7 hn8 hn9 hn10 k0 k1 k2 k3 k4 k5
  go_loopw [9] (fun i wr => ∃ k : Nat, k ≤ zs.length ∧ i = .int .i64 k ∧ Hid ((zs.take k).all okB = true) ∧ Hid (TwoBx w wr #[.int .i64 S, .int .i64 D, .int .i64 A, .int .i64 U, .int .i64 T, .int .i64 G] 26 #[.int .i64 0, .string ⟨#[]⟩, .int .i64 0, .int .i64 0, .int .i64 0, .int .i64 0, .int .i64 0, .int .i64 0, .bool false] 28)) (fun i _ => zs.length - (intOf i).toNat)
  case atStart => exact ⟨0, Nat.zero_le _, rfl, by show _ = _; simp, HX1⟩
  case round =>
    obtain ⟨k, hk, rfl, HA, HX⟩ := hrel
    clear HX1
    have hkb : (k : Int) ≤ 16 := by have := HB.out; omega
    by_cases hlt : k < zs.length
    · obtain ⟨g, o, cap2, hv, _, hg, hc⟩ := HR.out.resolve_left (fun h => by rw [h.1] at hlt; simp at hlt)
      injection hv with hv1 hv2 hv3
      subst hv1 hv3
      obtain ⟨d0, d1, d2⟩ := hc.below HX.out.bel hg k hlt
      have HAn : Hid _ := all_take okB zs k hlt
      have HAf : Hid _ := all_no okB zs k hlt
      clear hc
      generalize zs[k] = z at *
      obtain ⟨zp, zl, zw⟩ := z
      simp only at d0 d1 d2
      have hk0 : (0 : Int) ≤ (k : Int) := by omega
      have hk1 : (k : Int) < (zs.length : Int) := by omega
      have hgw : g < wr.heap.size := Nat.lt_of_lt_of_le hg HX.out.bel.size
      have HI1 : Hid _ := fun u => HIW.out zp u
      have HI2 : Hid _ := fun u => HIW.out zl u
      have HOE : Hid (okB ⟨zp, zl, zw⟩ = (wdB zp && wdB zl)) := rfl
      cases hp1 : wdB zp
      · rw [hp1] at HI1
        have HAV : Hid _ := HNo.out (HAf.out (by rw [HOE.out, hp1]; rfl))
        have r0 := HX.out.c2 0 _ rfl
        have r1 := HX.out.c2 1 _ rfl
        have r2 := HX.out.c2 2 _ rfl
        have r3 := HX.out.c2 3 _ rfl
        have r4 := HX.out.c2 4 _ rfl
        have r5 := HX.out.c2 5 _ rfl
        have r6 := HX.out.c2 6 _ rfl
        have r7 := HX.out.c2 7 _ rfl
        have r8 := HX.out.c2 8 _ rfl
        have rf := fun k => HX.out.f2 k
        go_wp2_with (go_at_call 22; refine Calls.mono (HI1.out _) ?_; rintro e u3 ⟨rfl, hu⟩; rw [hu]; clear hu)
        refine bodyPost_ret (v := .agg #[.int .i64 1, .string ⟨#[]⟩, .int .i64 0, .int .i64 0, .int .i64 0, .int .i64 0, .int .i64 0, .int .i64 0, .bool false]) ?_ rfl ⟨by rw [HAV.out], ?_⟩
        · simp [results, Try.results8, go_sem, r0, r1, r2, r3, r4, r5, r6, r7, r8]
        · exact (((((((((HX.out.bel.setCell (by simp) _).setCell (by simp) _).setCell (by simp) _).setCell (by simp) _).setCell (by simp) _).setCell (by simp) _).setCell (by simp) _).setCell (by simp) _).setCell (by simp) _)
      rw [hp1] at HI1
      cases hp2 : wdB zl
      · rw [hp2] at HI2
        have HAV : Hid _ := HNo.out (HAf.out (by rw [HOE.out, hp1, hp2]; rfl))
        have r0 := HX.out.c2 0 _ rfl
        have r1 := HX.out.c2 1 _ rfl
        have r2 := HX.out.c2 2 _ rfl
        have r3 := HX.out.c2 3 _ rfl
        have r4 := HX.out.c2 4 _ rfl
        have r5 := HX.out.c2 5 _ rfl
        have r6 := HX.out.c2 6 _ rfl
        have r7 := HX.out.c2 7 _ rfl
        have r8 := HX.out.c2 8 _ rfl
        have rf := fun k => HX.out.f2 k
        go_wp2_with fail
        refine Calls.mono (HI1.out _) ?_
        rintro e u3 ⟨rfl, hu⟩
        rw [hu]
        clear hu
        go_wp2_with fail
        refine Calls.mono (HI2.out _) ?_
        rintro e u4 ⟨rfl, hu⟩
        rw [hu]
        clear hu
        go_wp2_with fail
        refine bodyPost_ret (v := .agg #[.int .i64 1, .string ⟨#[]⟩, .int .i64 0, .int .i64 0, .int .i64 0, .int .i64 0, .int .i64 0, .int .i64 0, .bool false]) ?_ rfl ⟨by rw [HAV.out], ?_⟩
        · simp [results, Try.results8, go_sem, r0, r1, r2, r3, r4, r5, r6, r7, r8]
        · exact (((((((((HX.out.bel.setCell (by simp) _).setCell (by simp) _).setCell (by simp) _).setCell (by simp) _).setCell (by simp) _).setCell (by simp) _).setCell (by simp) _).setCell (by simp) _).setCell (by simp) _)
      rw [hp2] at HI2
      have HA2 : Hid ((zs.take (k + 1)).all okB = true) := by
        show _ = _
        rw [HAn.out, HA.out, HOE.out, hp1, hp2]
        rfl
      go_wp2_with fail
      refine Calls.mono (HI1.out _) ?_
      rintro e u3 ⟨rfl, hu⟩
      rw [hu]
      clear hu
      go_wp2_with fail
      refine Calls.mono (HI2.out _) ?_
      rintro e u4 ⟨rfl, hu⟩
      rw [hu]
      clear hu
      go_wp2_with fail
      go_roundw
      case rel => exact ⟨k + 1, hlt, by first | rfl | (simp; done) | go_num, HA2, HX⟩
      case measure => first | (show zs.length - ((k : Int) + 1).toNat < zs.length - ((k : Int)).toNat; omega) | (simp [intOf]; omega)
    · obtain rfl : k = zs.length := by omega
      have h9 := HA.out
      rw [List.take_length] at h9
      have HAV : Hid _ := HT.out h9
      clear h9 HA HT HNo HIW
      rw [HFE.out] at HAV
      go_wp2_with fail
      go_loopw [0, 10] (fun x i wr => ∃ k : Nat, k ≤ zs.length ∧ x = .string (pcM s S D F (pdL S F zs) k) ∧ i = .int .i64 k ∧ Hid (TwoBx w wr #[.int .i64 S, .int .i64 D, .int .i64 A, .int .i64 U, .int .i64 T, .int .i64 G] 26 #[.int .i64 0, .string ⟨#[]⟩, .int .i64 0, .int .i64 0, .int .i64 0, .int .i64 0, .int .i64 0, .int .i64 0, .bool false] 28)) (fun _ i _ => zs.length - (intOf i).toNat)
      case atStart => exact ⟨0, Nat.zero_le _, rfl, rfl, HX⟩
      case round =>
        obtain ⟨k, hk, rfl, rfl, HX2⟩ := hrel
        clear HX
        have hkb2 : (k : Int) ≤ 16 := by have := HB.out; omega
        have hM0 := HSZ.out k
        have hBB := HB.out
        by_cases hlt : k < zs.length
        · obtain ⟨g, o, cap2, hv, _, hg, hc⟩ := HR.out.resolve_left (fun h => by rw [h.1] at hlt; simp at hlt)
          injection hv with hv1 hv2 hv3
          subst hv1 hv3
          have HRW0 : Hid (∀ u, Below w.heap.size w u → u.cell? ⟨g, o + k * 3, none⟩ = some (.int .i64 zs[k].pos) ∧ u.cell? ⟨g, o + k * 3 + 1, none⟩ = some (.int .i64 zs[k].len) ∧ u.cell? ⟨g, o + k * 3 + 2, none⟩ = some (.bool zs[k].write)) := fun u hu => hc.below hu hg k hlt
          have HP : Hid _ := HPN.out k hlt
          clear hc HPN
          generalize zs[k] = z at *
          obtain ⟨zp, zl, zw⟩ := z
          simp only at HRW0 HP
          have HRW : Hid (∀ u, Below w.heap.size w u → u.cell? ⟨g, o + k * 3, none⟩ = some (.int .i64 zp) ∧ u.cell? ⟨g, o + k * 3 + 1, none⟩ = some (.int .i64 zl)) := fun u hu => ⟨(HRW0.out u hu).1, (HRW0.out u hu).2.1⟩
          have hk0 : (0 : Int) ≤ (k : Int) := by omega
          have hk1 : (k : Int) < (zs.length : Int) := by omega
          have HL1 : Hid _ := fun u => HLB.out zw u
          have hbw : (0 : Int) ≤ (if zw = true then 1 else 0) ∧ (if zw = true then (1 : Int) else 0) ≤ 1 := by split <;> omega
          generalize (if zw = true then (1 : Int) else 0) = bw at *
          obtain ⟨hbw0, hbw1⟩ := hbw
          have hm5 : (F + k) % S < S := Nat.mod_lt _ hBB.1
          obtain ⟨P, hPe⟩ : ∃ P, D + (F + k) % S * 16 = P := ⟨_, rfl⟩
          rw [hPe] at HP
          have e1 : ((F : Int) + k).tmod (S : Int) = (((F + k) % S : Nat) : Int) := by
            rw [Int.tmod_eq_emod_of_nonneg (by omega)]
            simp
          have hdd : (D : Int) + 16 * (((F + k) % S : Nat) : Int) = (P : Int) := by omega
          have hPb : P + 16 ≤ s.size := by omega
          have hMMb : (((F + k) % S : Nat) : Int) < 16 := by omega
          have hMM0 : 0 ≤ (((F + k) % S : Nat) : Int) := by omega
          generalize (((F + k) % S : Nat) : Int) = MM at *
          generalize pcM s S D F (pdL S F zs) k = M at *
          clear hm5 hPe
          have HS1 : Hid (∀ u, Calls Try.prog 24 #[.string M, .int .i64 (P : Int), .int .i64 zp] u fun e w' => e = .returned (.string (setv M P zp)) ∧ Below u.heap.size u w') := fun u => HSW.out M P P zp u (by omega) rfl (by omega)
          have hM1s := setv_size M P zp (by omega)
          obtain ⟨M1, hM1e⟩ : ∃ M1, M1 = setv M P zp := ⟨_, rfl⟩
          rw [← hM1e] at HS1 hM1s
          have HS2 : Hid (∀ u, Calls Try.prog 24 #[.string M1, .int .i64 ((P : Int) + 4), .int .i64 zl] u fun e w' => e = .returned (.string (setv M1 (P + 4) zl)) ∧ Below u.heap.size u w') := fun u => HSW.out M1 (P + 4) ((P : Int) + 4) zl u (by omega) (by omega) (by omega)
          have hM2s := setv_size M1 (P + 4) zl (by omega)
          obtain ⟨M2, hM2e⟩ : ∃ M2, M2 = setv M1 (P + 4) zl := ⟨_, rfl⟩
          rw [← hM2e] at HS2 hM2s
          have HM1E : Hid (M1 = setv M P zp) := hM1e
          have HM2E : Hid (M2 = setv M1 (P + 4) zl) := hM2e
          clear hM1e hM2e
          have hPI : (P : Int) + 16 ≤ 65536 := by omega
          obtain ⟨dd, hddE⟩ : ∃ dd : Int, dd = (P : Int) := ⟨_, rfl⟩
          rw [← hddE] at HS1 HS2 hPI hdd
          have hdd0 : 0 ≤ dd := by omega
          have HDE : Hid (dd = (P : Int)) := hddE
          clear hddE
          have HW4 : Hid (IntKind.i64.wrap (dd + 4) = dd + 4) := (show IntKind.i64.wrap (dd + 4) = dd + 4 by rw [IntKind.wrap_i64]; omega)
          have k0 := HX2.out.c1 0 _ rfl
          have k1 := HX2.out.c1 1 _ rfl
          have kl := HX2.out.lt
          go_wp2_with fail
          go_quiet (fail)
          have HX3 : Hid _ := HX2.out.step (bdn (Below.refl _ _) nq)
          clear k0 k1 kl HX2
          generalize wr.drewN nq = y2 at *
          have k0 := HX3.out.c1 0 _ rfl
          have k1 := HX3.out.c1 1 _ rfl
          have kl := HX3.out.lt
          have d2 := (HRW0.out y2 HX3.out.bel).2.2
          clear HRW0
          by_cases hmore : k + 1 < zs.length
          · have hmore2 : (k : Int) + 1 < (zs.length : Int) := by omega
            rw [if_pos hmore, if_pos hmore] at HP
            have e2 : ((F : Int) + k + 1).tmod (S : Int) = (((F + k + 1) % S : Nat) : Int) := by
              rw [Int.tmod_eq_emod_of_nonneg (by omega)]
              simp
            have hNX : 0 ≤ (((F + k + 1) % S : Nat) : Int) := by omega
            generalize (((F + k + 1) % S : Nat) : Int) = NX at *
            have HS3 : Hid (∀ u, Calls Try.prog 24 #[.string M2, .int .i64 (dd + 8), .int .i64 (2 * bw + 1)] u fun e w' => e = .returned (.string (setv M2 (P + 8) (2 * bw + 1))) ∧ Below u.heap.size u w') := fun u => HSW.out M2 (P + 8) (dd + 8) (2 * bw + 1) u (by omega) (by have := HDE.out; omega) (by omega)
            have hM3 := setv_size M2 (P + 8) (2 * bw + 1) (by omega)
            have HS4 : Hid (∀ u, Calls Try.prog 24 #[.string (setv M2 (P + 8) (2 * bw + 1)), .int .i64 (dd + 12), .int .i64 NX] u fun e w' => e = .returned (.string (setv (setv M2 (P + 8) (2 * bw + 1)) (P + 12) NX)) ∧ Below u.heap.size u w') := fun u => HSW.out _ (P + 12) (dd + 12) NX u (by omega) (by have := HDE.out; omega) (by omega)
            have HP9 : Hid (setv (setv M2 (P + 8) (2 * bw + 1)) (P + 12) NX = pcM s S D F (pdL S F zs) (k + 1)) := by
              show _ = _
              rw [HP.out, HM2E.out, HM1E.out]
              rfl
            rw [HP9.out] at HS4
            generalize setv M2 (P + 8) (2 * bw + 1) = M3 at *
            clear hM3
            go_upto_region 19 with (go_at_call 23; refine Calls.mono (HL1.out _) ?_; rintro e u3 ⟨rfl, hu⟩; rw [hu]; clear hu)
            have HXX : Hid _ := HX3.out.step ((Below.refl _ _).drew)
            clear d2 k0 k1 kl
            refine wp_region_held (S := fun w' => w'.cell? ⟨g, o + k * 3, none⟩ = some (.int .i64 zp) ∧ w'.cell? ⟨g, o + k * 3 + 1, none⟩ = some (.int .i64 zl)) (by kernel_rfl) ?_
            change wpAnyH _ _ _ _ _ _ _ _ (World.drew _)
            generalize y2.drew = X at *
            have HK : Hid _ := HRW.out X HXX.out.bel
            refine wpAnyH_take (i := 0) (v := .string M) rfl (by kernel_rfl) (by kernel_rfl) (by kernel_rfl) (fun _ _ _ h => h) (Or.inl ⟨by kernel_rfl, fun w9 h9 => ?_⟩) HK.out ?_
            · clear h9
              go_simp
            refine wpAnyH_take (i := 1) (v := .int .i64 dd) rfl (by kernel_rfl) (by kernel_rfl) (by kernel_rfl) (fun _ _ _ h => h) (Or.inl ⟨by kernel_rfl, fun w9 h9 => ?_⟩) HK.out ?_
            · clear h9
              go_simp
            refine wpAnyH_take (i := 2) (v := .slice (some ⟨g, o, none⟩) zs.length c1) rfl (by kernel_rfl) (by kernel_rfl) (by kernel_rfl) (fun _ _ _ h => h) (Or.inl ⟨by kernel_rfl, fun w9 h9 => ?_⟩) HK.out ?_
            · clear h9
              go_simp
            refine wpAnyH_take (i := 3) (v := .int .i64 k) rfl (by kernel_rfl) (by kernel_rfl) (by kernel_rfl) (fun _ _ _ h => h) (Or.inl ⟨by kernel_rfl, fun w9 h9 => ?_⟩) HK.out ?_
            · clear h9
              go_simp
            refine wpAnyH_take (i := 4) (v := .pointer (some ⟨g, o + k * 3, none⟩)) rfl (by kernel_rfl) (by kernel_rfl) (by kernel_rfl) (fun _ _ _ h => h) (Or.inl ⟨by kernel_rfl, fun w9 h9 => ?_⟩) HK.out ?_
            · clear h9
              go_simp
            refine wpAnyH_take (i := 5) (v := .pointer (some ⟨g, o + k * 3, none⟩)) rfl (by kernel_rfl) (by kernel_rfl) (by kernel_rfl) (fun _ _ _ h => h) (Or.inl ⟨by kernel_rfl, fun w9 h9 => ?_⟩) HK.out ?_
            · clear h9
              go_simp
            refine wpAnyH_take (i := 6) (v := .int .i64 zp) rfl (by kernel_rfl) (by kernel_rfl) (by kernel_rfl) (fun _ _ _ h => h) (Or.inl ⟨by kernel_rfl, fun w9 h9 => ?_⟩) HK.out ?_
            · obtain ⟨d0, d1⟩ := h9
              go_simp
            refine wpAnyH_take (i := 8) (v := .int .i64 dd) rfl (by kernel_rfl) (by kernel_rfl) (by kernel_rfl) (fun _ _ _ h => h) (Or.inl ⟨by kernel_rfl, fun w9 h9 => ?_⟩) HK.out ?_
            · clear h9
              go_simp
            refine wpAnyH_take (i := 9) (v := .int .i64 (dd + 4)) rfl (by kernel_rfl) (by kernel_rfl) (by kernel_rfl) (fun _ _ _ h => h) (Or.inl ⟨by kernel_rfl, fun w9 h9 => ?_⟩) HK.out ?_
            · clear h9
              first | (go_simp; done) | (go_simp; rw [HW4.out]; done) | (go_simp; exact HW4.out)
            refine wpAnyH_take (i := 10) (v := .slice (some ⟨g, o, none⟩) zs.length c1) rfl (by kernel_rfl) (by kernel_rfl) (by kernel_rfl) (fun _ _ _ h => h) (Or.inl ⟨by kernel_rfl, fun w9 h9 => ?_⟩) HK.out ?_
            · clear h9
              go_simp
            refine wpAnyH_take (i := 11) (v := .int .i64 k) rfl (by kernel_rfl) (by kernel_rfl) (by kernel_rfl) (fun _ _ _ h => h) (Or.inl ⟨by kernel_rfl, fun w9 h9 => ?_⟩) HK.out ?_
            · clear h9
              go_simp
            refine wpAnyH_take (i := 12) (v := .pointer (some ⟨g, o + k * 3, none⟩)) rfl (by kernel_rfl) (by kernel_rfl) (by kernel_rfl) (fun _ _ _ h => h) (Or.inl ⟨by kernel_rfl, fun w9 h9 => ?_⟩) HK.out ?_
            · clear h9
              go_simp
            refine wpAnyH_take (i := 13) (v := .pointer (some ⟨g, o + k * 3 + 1, none⟩)) rfl (by kernel_rfl) (by kernel_rfl) (by kernel_rfl) (fun _ _ _ h => h) (Or.inl ⟨by kernel_rfl, fun w9 h9 => ?_⟩) HK.out ?_
            · clear h9
              go_simp
            refine wpAnyH_take (i := 14) (v := .int .i64 zl) rfl (by kernel_rfl) (by kernel_rfl) (by kernel_rfl) (fun _ _ _ h => h) (Or.inl ⟨by kernel_rfl, fun w9 h9 => ?_⟩) HK.out ?_
            · obtain ⟨d0, d1⟩ := h9
              go_simp
            refine held_one 7 (by kernel_rfl) rfl (by kernel_rfl) fun K hK => ?_
            go_simp
            refine Calls.mono (HS1.out _) ?_
            rintro e y5 ⟨rfl, hu⟩
            have HX5 : Hid _ := HXX.out.step hu
            clear hu
            go_simp
            have HK5 : Hid _ := HRW.out y5 HX5.out.bel
            refine hK _ _ HK5.out ?_
            clear hK K
            refine held_one 15 (by kernel_rfl) rfl (by kernel_rfl) fun K hK => ?_
            go_simp
            refine Calls.mono (HS2.out _) ?_
            rintro e y6 ⟨rfl, hu⟩
            have HX6 : Hid _ := HX5.out.step hu
            clear hu
            go_simp
            have HK6 : Hid _ := HRW.out y6 HX6.out.bel
            refine hK _ _ HK6.out ?_
            clear hK K
            refine wpAnyH_take (i := 16) (v := .string M2) rfl (by kernel_rfl) (by kernel_rfl) (by kernel_rfl) (fun _ _ _ h => h) (Or.inl ⟨by kernel_rfl, fun w9 h9 => ?_⟩) HK6.out ?_
            · clear h9
              go_simp
            refine wpAnyH_done (by kernel_rfl) ?_ _
            go_simp
            go_wp2_with fail
            refine Calls.mono (HS3.out _) ?_
            rintro e y7 ⟨rfl, hu⟩
            have HX7 : Hid _ := HX6.out.step hu
            clear hu
            go_wp2_with fail
            refine Calls.mono (HS4.out _) ?_
            rintro e y8 ⟨rfl, hu⟩
            have HX8 : Hid _ := HX7.out.step hu
            clear hu
            go_wp2_with fail
            go_roundw
            case rel => exact ⟨k + 1, hlt, rfl, by go_num, HX8⟩
            case measure => simp [intOf]; omega
          · have hmore2 : ¬ (k : Int) + 1 < (zs.length : Int) := by omega
            rw [if_neg hmore, if_neg hmore] at HP
            have HS3 : Hid (∀ u, Calls Try.prog 24 #[.string M2, .int .i64 (dd + 8), .int .i64 (2 * bw)] u fun e w' => e = .returned (.string (setv M2 (P + 8) (2 * bw))) ∧ Below u.heap.size u w') := fun u => HSW.out M2 (P + 8) (dd + 8) (2 * bw) u (by omega) (by have := HDE.out; omega) (by omega)
            have hM3 := setv_size M2 (P + 8) (2 * bw) (by omega)
            have HS4 : Hid (∀ u, Calls Try.prog 24 #[.string (setv M2 (P + 8) (2 * bw)), .int .i64 (dd + 12), .int .i64 0] u fun e w' => e = .returned (.string (setv (setv M2 (P + 8) (2 * bw)) (P + 12) 0)) ∧ Below u.heap.size u w') := fun u => HSW.out _ (P + 12) (dd + 12) 0 u (by omega) (by have := HDE.out; omega) (by omega)
            have HP9 : Hid (setv (setv M2 (P + 8) (2 * bw)) (P + 12) 0 = pcM s S D F (pdL S F zs) (k + 1)) := by
              show _ = _
              rw [HP.out, HM2E.out, HM1E.out]
              rfl
            rw [HP9.out] at HS4
            generalize setv M2 (P + 8) (2 * bw) = M3 at *
            clear hM3
            go_upto_region 19 with (go_at_call 23; refine Calls.mono (HL1.out _) ?_; rintro e u3 ⟨rfl, hu⟩; rw [hu]; clear hu)
            have HXX : Hid _ := HX3.out.step ((Below.refl _ _).drew)
            clear d2 k0 k1 kl
            refine wp_region_held (S := fun w' => w'.cell? ⟨g, o + k * 3, none⟩ = some (.int .i64 zp) ∧ w'.cell? ⟨g, o + k * 3 + 1, none⟩ = some (.int .i64 zl)) (by kernel_rfl) ?_
            change wpAnyH _ _ _ _ _ _ _ _ (World.drew _)
            generalize y2.drew = X at *
            have HK : Hid _ := HRW.out X HXX.out.bel
            refine wpAnyH_take (i := 0) (v := .string M) rfl (by kernel_rfl) (by kernel_rfl) (by kernel_rfl) (fun _ _ _ h => h) (Or.inl ⟨by kernel_rfl, fun w9 h9 => ?_⟩) HK.out ?_
            · clear h9
              go_simp
            refine wpAnyH_take (i := 1) (v := .int .i64 dd) rfl (by kernel_rfl) (by kernel_rfl) (by kernel_rfl) (fun _ _ _ h => h) (Or.inl ⟨by kernel_rfl, fun w9 h9 => ?_⟩) HK.out ?_
            · clear h9
              go_simp
            refine wpAnyH_take (i := 2) (v := .slice (some ⟨g, o, none⟩) zs.length c1) rfl (by kernel_rfl) (by kernel_rfl) (by kernel_rfl) (fun _ _ _ h => h) (Or.inl ⟨by kernel_rfl, fun w9 h9 => ?_⟩) HK.out ?_
            · clear h9
              go_simp
            refine wpAnyH_take (i := 3) (v := .int .i64 k) rfl (by kernel_rfl) (by kernel_rfl) (by kernel_rfl) (fun _ _ _ h => h) (Or.inl ⟨by kernel_rfl, fun w9 h9 => ?_⟩) HK.out ?_
            · clear h9
              go_simp
            refine wpAnyH_take (i := 4) (v := .pointer (some ⟨g, o + k * 3, none⟩)) rfl (by kernel_rfl) (by kernel_rfl) (by kernel_rfl) (fun _ _ _ h => h) (Or.inl ⟨by kernel_rfl, fun w9 h9 => ?_⟩) HK.out ?_
            · clear h9
              go_simp
            refine wpAnyH_take (i := 5) (v := .pointer (some ⟨g, o + k * 3, none⟩)) rfl (by kernel_rfl) (by kernel_rfl) (by kernel_rfl) (fun _ _ _ h => h) (Or.inl ⟨by kernel_rfl, fun w9 h9 => ?_⟩) HK.out ?_
            · clear h9
              go_simp
            refine wpAnyH_take (i := 6) (v := .int .i64 zp) rfl (by kernel_rfl) (by kernel_rfl) (by kernel_rfl) (fun _ _ _ h => h) (Or.inl ⟨by kernel_rfl, fun w9 h9 => ?_⟩) HK.out ?_
            · obtain ⟨d0, d1⟩ := h9
              go_simp
            refine wpAnyH_take (i := 8) (v := .int .i64 dd) rfl (by kernel_rfl) (by kernel_rfl) (by kernel_rfl) (fun _ _ _ h => h) (Or.inl ⟨by kernel_rfl, fun w9 h9 => ?_⟩) HK.out ?_
            · clear h9
              go_simp
            refine wpAnyH_take (i := 9) (v := .int .i64 (dd + 4)) rfl (by kernel_rfl) (by kernel_rfl) (by kernel_rfl) (fun _ _ _ h => h) (Or.inl ⟨by kernel_rfl, fun w9 h9 => ?_⟩) HK.out ?_
            · clear h9
              first | (go_simp; done) | (go_simp; rw [HW4.out]; done) | (go_simp; exact HW4.out)
            refine wpAnyH_take (i := 10) (v := .slice (some ⟨g, o, none⟩) zs.length c1) rfl (by kernel_rfl) (by kernel_rfl) (by kernel_rfl) (fun _ _ _ h => h) (Or.inl ⟨by kernel_rfl, fun w9 h9 => ?_⟩) HK.out ?_
            · clear h9
              go_simp
            refine wpAnyH_take (i := 11) (v := .int .i64 k) rfl (by kernel_rfl) (by kernel_rfl) (by kernel_rfl) (fun _ _ _ h => h) (Or.inl ⟨by kernel_rfl, fun w9 h9 => ?_⟩) HK.out ?_
            · clear h9
              go_simp
            refine wpAnyH_take (i := 12) (v := .pointer (some ⟨g, o + k * 3, none⟩)) rfl (by kernel_rfl) (by kernel_rfl) (by kernel_rfl) (fun _ _ _ h => h) (Or.inl ⟨by kernel_rfl, fun w9 h9 => ?_⟩) HK.out ?_
            · clear h9
              go_simp
            refine wpAnyH_take (i := 13) (v := .pointer (some ⟨g, o + k * 3 + 1, none⟩)) rfl (by kernel_rfl) (by kernel_rfl) (by kernel_rfl) (fun _ _ _ h => h) (Or.inl ⟨by kernel_rfl, fun w9 h9 => ?_⟩) HK.out ?_
            · clear h9
              go_simp
            refine wpAnyH_take (i := 14) (v := .int .i64 zl) rfl (by kernel_rfl) (by kernel_rfl) (by kernel_rfl) (fun _ _ _ h => h) (Or.inl ⟨by kernel_rfl, fun w9 h9 => ?_⟩) HK.out ?_
            · obtain ⟨d0, d1⟩ := h9
              go_simp
            refine held_one 7 (by kernel_rfl) rfl (by kernel_rfl) fun K hK => ?_
            go_simp
            refine Calls.mono (HS1.out _) ?_
            rintro e y5 ⟨rfl, hu⟩
            have HX5 : Hid _ := HXX.out.step hu
            clear hu
            go_simp
            have HK5 : Hid _ := HRW.out y5 HX5.out.bel
            refine hK _ _ HK5.out ?_
            clear hK K
            refine held_one 15 (by kernel_rfl) rfl (by kernel_rfl) fun K hK => ?_
            go_simp
            refine Calls.mono (HS2.out _) ?_
            rintro e y6 ⟨rfl, hu⟩
            have HX6 : Hid _ := HX5.out.step hu
            clear hu
            go_simp
            have HK6 : Hid _ := HRW.out y6 HX6.out.bel
            refine hK _ _ HK6.out ?_
            clear hK K
            refine wpAnyH_take (i := 16) (v := .string M2) rfl (by kernel_rfl) (by kernel_rfl) (by kernel_rfl) (fun _ _ _ h => h) (Or.inl ⟨by kernel_rfl, fun w9 h9 => ?_⟩) HK6.out ?_
            · clear h9
              go_simp
            refine wpAnyH_done (by kernel_rfl) ?_ _
            go_simp
            go_wp2_with fail
            refine Calls.mono (HS3.out _) ?_
            rintro e y7 ⟨rfl, hu⟩
            have HX7 : Hid _ := HX6.out.step hu
            clear hu
            go_wp2_with fail
            refine Calls.mono (HS4.out _) ?_
            rintro e y8 ⟨rfl, hu⟩
            have HX8 : Hid _ := HX7.out.step hu
            clear hu
            go_wp2_with fail
            go_roundw
            case rel => exact ⟨k + 1, hlt, rfl, by go_num, HX8⟩
            case measure => simp [intOf]; omega
        · obtain rfl : k = zs.length := by omega
          clear HPN HLB HR
          obtain ⟨N, hNe⟩ : ∃ N : Nat, N = C % 65536 := ⟨_, rfl⟩
          rw [← hNe] at HAV
          have hNb : N < 65536 := by omega
          have hq5 : N % S < S := Nat.mod_lt _ hBB.1
          generalize hMe : pcM s S D F (pdL S F zs) zs.length = M at *
          have HS1 : Hid (∀ u, Calls Try.prog 24 #[.string M, .int .i64 ((A : Int) + 8 + 4 * ((N % S : Nat) : Int)), .int .i64 (F : Int)] u fun e w' => e = .returned (.string (setv M (A + 8 + N % S * 4) F)) ∧ Below u.heap.size u w') := fun u => HSW.out M (A + 8 + N % S * 4) _ F u (by omega) (by omega) (by omega)
          have hM1s := setv_size M (A + 8 + N % S * 4) F (by omega)
          have HS2 : Hid (∀ u, Calls Try.prog 24 #[.string (setv M (A + 8 + N % S * 4) F), .int .i64 ((A : Int) + 4), .int .i64 (((N + 1) % 65536 : Nat) : Int)] u fun e w' => e = .returned (.string (setv (setv M (A + 8 + N % S * 4) F) (A + 4) (((N + 1) % 65536 : Nat) : Int))) ∧ Below u.heap.size u w') := fun u => HSW.out _ (A + 4) ((A : Int) + 4) _ u (by omega) (by omega) (by omega)
          generalize setv (setv M (A + 8 + N % S * 4) F) (A + 4) (((N + 1) % 65536 : Nat) : Int) = MF at *
          generalize setv M (A + 8 + N % S * 4) F = M1 at *
          have e1 : (C : Int).tmod 65536 = (N : Int) := by
            rw [Int.tmod_eq_emod_of_nonneg (by omega)]
            omega
          have e2 : (N : Int).tmod (S : Int) = ((N % S : Nat) : Int) := by
            rw [Int.tmod_eq_emod_of_nonneg (by omega)]
            simp
          have e3 : ((N : Int) + 1).tmod 65536 = (((N + 1) % 65536 : Nat) : Int) := by
            rw [Int.tmod_eq_emod_of_nonneg (by omega)]
            omega
          have HE2 : Hid _ := e2
          have HE3 : Hid _ := e3
          have hN1 : 0 ≤ ((N % S : Nat) : Int) ∧ ((N % S : Nat) : Int) < 16 := by omega
          have hN2 : 0 ≤ (((N + 1) % 65536 : Nat) : Int) := by omega
          have hNI : (N : Int) < 65536 := by omega
          have hNI0 : 0 ≤ (N : Int) := by omega
          generalize ((N % S : Nat) : Int) = QQ at *
          generalize (((N + 1) % 65536 : Nat) : Int) = N2 at *
          generalize (N : Int) = NN at *
          clear hNe hNb hq5 hMe hM0 hM1s HSW HSZ
          have HWA : Hid (IntKind.i64.wrap ((A : Int) + 8) = (A : Int) + 8) := (show IntKind.i64.wrap ((A : Int) + 8) = (A : Int) + 8 by rw [IntKind.wrap_i64]; omega)
          have HWB : Hid (IntKind.i64.wrap (4 * QQ) = 4 * QQ) := (show IntKind.i64.wrap (4 * QQ) = 4 * QQ by rw [IntKind.wrap_i64]; omega)
          have HWC : Hid (IntKind.i64.wrap ((A : Int) + 8 + 4 * QQ) = (A : Int) + 8 + 4 * QQ) := (show IntKind.i64.wrap ((A : Int) + 8 + 4 * QQ) = (A : Int) + 8 + 4 * QQ by rw [IntKind.wrap_i64]; omega)
          have HWD4 : Hid (IntKind.i64.wrap ((A : Int) + 4) = (A : Int) + 4) := (show IntKind.i64.wrap ((A : Int) + 4) = (A : Int) + 4 by rw [IntKind.wrap_i64]; omega)
          have HWE : Hid (IntKind.i64.wrap (NN + 1) = NN + 1) := (show IntKind.i64.wrap (NN + 1) = NN + 1 by rw [IntKind.wrap_i64]; omega)
          have hS0n : ¬ S = 0 := by omega
          have k2 := HX2.out.c1 2 _ rfl
          have kl := HX2.out.lt
          go_upto_region 22 with (go_at_call 25; refine Calls.mono (HWD.out _) ?_; rintro e y3 ⟨rfl, q, hu⟩; have HX3 : Hid _ := HX2.out.step (hu ▸ bdn (Below.refl _ _) q); clear hu k2 kl)
          clear HX2 HWD e1 e2 e3
          have HX4 : Hid _ := HX3.out.step ((Below.refl _ _).drew)
          refine wp_region_held (S := fun w' => w'.cell? ⟨w.heap.size, 0, none⟩ = some (.int .i64 S) ∧ w'.cell? ⟨w.heap.size, 1, none⟩ = some (.int .i64 D) ∧ w'.cell? ⟨w.heap.size, 2, none⟩ = some (.int .i64 A) ∧ w'.cell? ⟨w.heap.size, 3, none⟩ = some (.int .i64 U) ∧ w'.cell? ⟨w.heap.size, 4, none⟩ = some (.int .i64 T) ∧ w'.cell? ⟨w.heap.size, 5, none⟩ = some (.int .i64 G)) (by kernel_rfl) ?_
          change wpAnyH _ _ _ _ _ _ _ _ (World.drew _)
          generalize y3.drew = X at *
          clear HX3
          have HK : Hid _ := HX4.out.six
          refine wpAnyH_take (i := 0) (v := .string M) rfl (by kernel_rfl) (by kernel_rfl) (by kernel_rfl) (fun _ _ _ h => h) (Or.inl ⟨by kernel_rfl, fun w9 h9 => ?_⟩) HK.out ?_
          · clear h9
            go_simp
          refine wpAnyH_take (i := 1) (v := .pointer (some ⟨w.heap.size, 2, none⟩)) rfl (by kernel_rfl) (by kernel_rfl) (by kernel_rfl) (fun _ _ _ h => h) (Or.inl ⟨by kernel_rfl, fun w9 h9 => ?_⟩) HK.out ?_
          · clear h9
            go_simp
          refine wpAnyH_take (i := 2) (v := .int .i64 A) rfl (by kernel_rfl) (by kernel_rfl) (by kernel_rfl) (fun _ _ _ h => h) (Or.inl ⟨by kernel_rfl, fun w9 h9 => ?_⟩) HK.out ?_
          · obtain ⟨d0, d1, d2, d3, d4, d5⟩ := h9
            go_simp
          refine wpAnyH_take (i := 3) (v := .int .i64 ((A : Int) + 8)) rfl (by kernel_rfl) (by kernel_rfl) (by kernel_rfl) (fun _ _ _ h => h) (Or.inl ⟨by kernel_rfl, fun w9 h9 => ?_⟩) HK.out ?_
          · clear h9
            first | (go_simp; done) | (go_simp; rw [HWA.out]; done) | (go_simp; exact HWA.out)
          refine wpAnyH_take (i := 4) (v := .int .i64 NN) rfl (by kernel_rfl) (by kernel_rfl) (by kernel_rfl) (fun _ _ _ h => h) (Or.inl ⟨by kernel_rfl, fun w9 h9 => ?_⟩) HK.out ?_
          · clear h9
            go_simp
          refine wpAnyH_take (i := 5) (v := .pointer (some ⟨w.heap.size, 0, none⟩)) rfl (by kernel_rfl) (by kernel_rfl) (by kernel_rfl) (fun _ _ _ h => h) (Or.inl ⟨by kernel_rfl, fun w9 h9 => ?_⟩) HK.out ?_
          · clear h9
            go_simp
          refine wpAnyH_take (i := 6) (v := .int .i64 S) rfl (by kernel_rfl) (by kernel_rfl) (by kernel_rfl) (fun _ _ _ h => h) (Or.inl ⟨by kernel_rfl, fun w9 h9 => ?_⟩) HK.out ?_
          · obtain ⟨d0, d1, d2, d3, d4, d5⟩ := h9
            go_simp
          refine wpAnyH_take (i := 7) (v := .int .i64 QQ) rfl (by kernel_rfl) (by kernel_rfl) (by kernel_rfl) (fun _ _ _ h => h) (Or.inl ⟨by kernel_rfl, fun w9 h9 => ?_⟩) HK.out ?_
          · clear h9
            first | (go_simp; done) | (go_simp; rw [HE2.out]; done) | (have e2 := HE2.out; go_simp)
          refine wpAnyH_take (i := 8) (v := .int .i64 (4 * QQ)) rfl (by kernel_rfl) (by kernel_rfl) (by kernel_rfl) (fun _ _ _ h => h) (Or.inl ⟨by kernel_rfl, fun w9 h9 => ?_⟩) HK.out ?_
          · clear h9
            first | (go_simp; done) | (go_simp; rw [HWB.out]; done) | (go_simp; exact HWB.out)
          refine wpAnyH_take (i := 9) (v := .int .i64 ((A : Int) + 8 + 4 * QQ)) rfl (by kernel_rfl) (by kernel_rfl) (by kernel_rfl) (fun _ _ _ h => h) (Or.inl ⟨by kernel_rfl, fun w9 h9 => ?_⟩) HK.out ?_
          · clear h9
            first | (go_simp; done) | (go_simp; rw [HWC.out]; done) | (go_simp; exact HWC.out)
          refine wpAnyH_take (i := 10) (v := .int .i64 F) rfl (by kernel_rfl) (by kernel_rfl) (by kernel_rfl) (fun _ _ _ h => h) (Or.inl ⟨by kernel_rfl, fun w9 h9 => ?_⟩) HK.out ?_
          · clear h9
            go_simp
          refine held_one 11 (by kernel_rfl) rfl (by kernel_rfl) fun K hK => ?_
          go_simp
          refine Calls.mono (HS1.out _) ?_
          rintro e y5 ⟨rfl, hu⟩
          have HX5 : Hid _ := HX4.out.step hu
          clear hu
          go_simp
          have HK5 : Hid _ := HX5.out.six
          refine hK _ _ HK5.out ?_
          clear hK K
          refine wpAnyH_take (i := 12) (v := .string M1) rfl (by kernel_rfl) (by kernel_rfl) (by kernel_rfl) (fun _ _ _ h => h) (Or.inl ⟨by kernel_rfl, fun w9 h9 => ?_⟩) HK5.out ?_
          · clear h9
            go_simp
          refine wpAnyH_done (by kernel_rfl) ?_ _
          go_simp
          go_upto_region 23 with fail
          have HX7 : Hid _ := HX5.out.step ((Below.refl _ _).drew)
          refine wp_region_held (S := fun w' => w'.cell? ⟨w.heap.size, 0, none⟩ = some (.int .i64 S) ∧ w'.cell? ⟨w.heap.size, 1, none⟩ = some (.int .i64 D) ∧ w'.cell? ⟨w.heap.size, 2, none⟩ = some (.int .i64 A) ∧ w'.cell? ⟨w.heap.size, 3, none⟩ = some (.int .i64 U) ∧ w'.cell? ⟨w.heap.size, 4, none⟩ = some (.int .i64 T) ∧ w'.cell? ⟨w.heap.size, 5, none⟩ = some (.int .i64 G)) (by kernel_rfl) ?_
          change wpAnyH _ _ _ _ _ _ _ _ (World.drew _)
          generalize y5.drew = X2 at *
          clear HX5 HX4
          have HK7 : Hid _ := HX7.out.six
          refine wpAnyH_take (i := 0) (v := .string M1) rfl (by kernel_rfl) (by kernel_rfl) (by kernel_rfl) (fun _ _ _ h => h) (Or.inl ⟨by kernel_rfl, fun w9 h9 => ?_⟩) HK7.out ?_
          · clear h9
            go_simp
          refine wpAnyH_take (i := 1) (v := .pointer (some ⟨w.heap.size, 2, none⟩)) rfl (by kernel_rfl) (by kernel_rfl) (by kernel_rfl) (fun _ _ _ h => h) (Or.inl ⟨by kernel_rfl, fun w9 h9 => ?_⟩) HK7.out ?_
          · clear h9
            go_simp
          refine wpAnyH_take (i := 2) (v := .int .i64 A) rfl (by kernel_rfl) (by kernel_rfl) (by kernel_rfl) (fun _ _ _ h => h) (Or.inl ⟨by kernel_rfl, fun w9 h9 => ?_⟩) HK7.out ?_
          · obtain ⟨d0, d1, d2, d3, d4, d5⟩ := h9
            go_simp
          refine wpAnyH_take (i := 3) (v := .int .i64 ((A : Int) + 4)) rfl (by kernel_rfl) (by kernel_rfl) (by kernel_rfl) (fun _ _ _ h => h) (Or.inl ⟨by kernel_rfl, fun w9 h9 => ?_⟩) HK7.out ?_
          · clear h9
            first | (go_simp; done) | (go_simp; rw [HWD4.out]; done) | (go_simp; exact HWD4.out)
          refine wpAnyH_take (i := 4) (v := .int .i64 NN) rfl (by kernel_rfl) (by kernel_rfl) (by kernel_rfl) (fun _ _ _ h => h) (Or.inl ⟨by kernel_rfl, fun w9 h9 => ?_⟩) HK7.out ?_
          · clear h9
            go_simp
          refine wpAnyH_take (i := 5) (v := .int .i64 (NN + 1)) rfl (by kernel_rfl) (by kernel_rfl) (by kernel_rfl) (fun _ _ _ h => h) (Or.inl ⟨by kernel_rfl, fun w9 h9 => ?_⟩) HK7.out ?_
          · clear h9
            first | (go_simp; done) | (go_simp; rw [HWE.out]; done) | (go_simp; exact HWE.out)
          refine wpAnyH_take (i := 6) (v := .int .i64 N2) rfl (by kernel_rfl) (by kernel_rfl) (by kernel_rfl) (fun _ _ _ h => h) (Or.inl ⟨by kernel_rfl, fun w9 h9 => ?_⟩) HK7.out ?_
          · clear h9
            first | (go_simp; done) | (go_simp; rw [HE3.out]; done) | (have e3 := HE3.out; go_simp)
          refine wpAnyH_take (i := 8) (v := .agg #[.int .i64 S, .int .i64 D, .int .i64 A, .int .i64 U, .int .i64 T, .int .i64 G]) rfl (by kernel_rfl) (by kernel_rfl) (by kernel_rfl) (fun _ _ _ h => h) (Or.inl ⟨by kernel_rfl, fun w9 h9 => ?_⟩) HK7.out ?_
          · obtain ⟨d0, d1, d2, d3, d4, d5⟩ := h9
            go_simp
          refine held_one 7 (by kernel_rfl) rfl (by kernel_rfl) fun K hK => ?_
          go_simp
          refine Calls.mono (HS2.out _) ?_
          rintro e y6 ⟨rfl, hu⟩
          have HX6 : Hid _ := HX7.out.step hu
          clear hu
          go_simp
          have HK6 : Hid _ := HX6.out.six
          refine hK _ _ HK6.out ?_
          clear hK K
          refine wpAnyH_take (i := 9) (v := .agg #[.int .i64 0, .string MF, .int .i64 S, .int .i64 D, .int .i64 A, .int .i64 U, .int .i64 T, .int .i64 G, .bool false]) rfl (by kernel_rfl) (by kernel_rfl) (by kernel_rfl) (fun _ _ _ h => h) (Or.inl ⟨by kernel_rfl, fun w9 h9 => ?_⟩) HK6.out ?_
          · clear h9
            go_simp
          have r0 := HX6.out.c2 0 _ rfl
          have r1 := HX6.out.c2 1 _ rfl
          have r2 := HX6.out.c2 2 _ rfl
          have r3 := HX6.out.c2 3 _ rfl
          have r4 := HX6.out.c2 4 _ rfl
          have r5 := HX6.out.c2 5 _ rfl
          have r6 := HX6.out.c2 6 _ rfl
          have r7 := HX6.out.c2 7 _ rfl
          have r8 := HX6.out.c2 8 _ rfl
          have rf := fun k => HX6.out.f2 k
          have rl := HX6.out.lt
          have HS3 : Hid _ := ((((((((((show OneB w y6 S D A U T G from ⟨HX6.out.b1⟩).oth2 0 (.int .i64 0)).oth2 1 (.string MF)).oth2 2 (.int .i64 S)).oth2 3 (.int .i64 D)).oth2 4 (.int .i64 A)).oth2 5 (.int .i64 U)).oth2 6 (.int .i64 T)).oth2 7 (.int .i64 G)).oth2 8 (.bool false)).six
          refine held_one 10 (by kernel_rfl) rfl (by kernel_rfl) fun K hK => ?_
          go_simp
          refine hK _ _ HS3.out ?_
          clear hK K HS3
          refine wpAnyH_done (by kernel_rfl) ?_ _
          go_simp
          go_wp2_with fail
          refine bodyPost_ret (v := .agg #[.int .i64 0, .string MF, .int .i64 S, .int .i64 D, .int .i64 A, .int .i64 U, .int .i64 T, .int .i64 G, .bool false]) ?_ rfl ⟨by rw [HAV.out], ?_⟩
          · simp [results, Try.results8, go_sem, r0, r1, r2, r3, r4, r5, r6, r7, r8]
          · exact (((((((((HX6.out.bel.setCell (by simp) _).setCell (by simp) _).setCell (by simp) _).setCell (by simp) _).setCell (by simp) _).setCell (by simp) _).setCell (by simp) _).setCell (by simp) _).setCell (by simp) _)
end Go.Proofs.Ythhbfghbpapklaa
