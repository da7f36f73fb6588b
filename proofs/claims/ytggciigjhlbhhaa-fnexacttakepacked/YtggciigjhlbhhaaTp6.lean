import Derived.Test.YtggciigjhlbhhaaTp5
namespace Go.Proofs.Ytggciigjhlbhhaa
open Go.ChangeShapes Go.WideShapes Go.ChangeAt Go.RowKit

set_option maxRecDepth 100000 in
set_option maxHeartbeats 4000000 in
theorem specTP_long (s : ByteArray) (p : PV) (h : 65536 < s.size) : AnsP 10 s p (2, 0, []) := by
  intro w
  have hd : decide (65536 < (s.size : Int)) = true := decide_eq_true (by omega)
  obtain ⟨sz, rg, ps, wr⟩ := p
  unfold pA
  simp only
  clear h
  go_enter Try.func10, Try.ntmps10
  go_wp2_with fail
  refine bodyPost_ret (v := .agg #[.int .i64 2, .int .i64 0, .int .i64 0, .slice none 0 0]) ?_ rfl ⟨.slice none 0 0, rfl, World.ownsRow_nil _ _ _ _, ?_⟩
  · simp [results, Try.results10, go_sem]
  · exact (bx1 _ _).alloc (by simp) _
set_option maxRecDepth 100000 in
set_option maxHeartbeats 4000000 in
theorem specTP_form (s : ByteArray) (p : PV) (h : ¬ 65536 < s.size) (hp : pOk s p = false) : AnsP 10 s p (1, 0, []) := by
  intro w
  have hd : decide (65536 < (s.size : Int)) = false := decide_eq_false (by omega)
  have HP : Hid _ := fun u => specPackedFault_any s p u (by omega)
  rw [pF_no hp] at HP
  obtain ⟨sz, rg, ps, wr⟩ := p
  unfold pA at HP ⊢
  simp only
  clear h hp
  go_enter Try.func10, Try.ntmps10
  go_wp2_with (go_at_call 30; refine Calls.mono (HP.out _) ?_; rintro e u1 ⟨rfl, hu1⟩; have HX1 : Hid _ := TwoBx.of _ _ _ _ _ hu1; clear hu1; have g0 := HX1.out.c2 0 _ rfl; have g1 := HX1.out.c2 1 _ rfl; have g2 := HX1.out.c2 2 _ rfl; have g3 := HX1.out.c2 3 _ rfl; have gf := fun k => HX1.out.f2 k)
  refine bodyPost_ret (v := .agg #[.int .i64 1, .int .i64 0, .int .i64 0, .slice none 0 0]) ?_ rfl ⟨.slice none 0 0, rfl, World.ownsRow_nil _ _ _ _, ?_⟩
  · simp [results, Try.results10, go_sem, g0, g1, g2, g3]
  · exact (((HX1.out.bel.setCell (by simp) _).setCell (by simp) _).setCell (by simp) _).setCell (by simp) _
set_option maxRecDepth 100000 in
set_option maxHeartbeats 4000000 in
theorem specTP_good (s : ByteArray) (S R P : Nat) (W : Bool) (hp : pOk s ⟨S, R, P, W⟩ = true) : AnsP 10 s ⟨S, R, P, W⟩ (tpR s R S P W) := by
  intro w
  obtain ⟨hm, b1, b2, b3, b4, b5, b6, b7⟩ := pOk_b hp
  simp only at b1 b2 b3 b4 b5 b6 b7
  obtain ⟨m1, m2, m3⟩ := memOk_b hm
  have hd : decide (65536 < (s.size : Int)) = false := decide_eq_false (by omega)
  have HP : Hid _ := fun u => specPackedFault_any s ⟨S, R, P, W⟩ u (by omega)
  rw [pF_ok hp] at HP
  have HW : Hid (∀ (c o : Nat) (u : World) (y : Int), o ≤ 12 → y = ((R + (P + c) % S * 16 + o : Nat) : Int) → Calls Try.prog 22 #[.string s, .int .i64 y] u fun e w' => e = .returned (.int .i64 (wv s (R + (P + c) % S * 16 + o))) ∧ ∃ q, w' = u.drewN q) := fun c o u y ho hy => by
    have := Nat.mod_lt (P + c) (show 0 < S by omega)
    exact hy ▸ l01Word_any s (R + (P + c) % S * 16 + o) u (by omega) m2
  have HLB : Hid (∀ {u : World} {B : Nat} {v : Value} {zs : List BU} (z : BU), u.ownsRow B 60 3 v zs.length (buR zs) → zs.length ≤ 1000 → Calls Try.prog 31 #[.string s, v, buA z] u fun e w' => e = .returned (.int .i64 (adC s zs z)) ∧ Below u.heap.size u w') := fun z hr hl => l10Buf_any s z hr (by omega) hl
  have HTE : Hid (tpR s R S P W = if rdyB W (dAt s (R + P * 16)) = true then (if (rgR s R S P S 0 []).1 = 0 then (0, (rgR s R S P S 0 []).2.1.number % 65536, (rgR s R S P S 0 []).2.2) else ((rgR s R S P S 0 []).1, 0, [])) else (5, 0, [])) := rfl
  obtain ⟨i0, hi0, hz0, hz1, hz2⟩ := info_parts Try.info60
  have HI0 : Hid _ := hi0
  have HZ0 : Hid _ := hz0
  have HZ1 : Hid _ := hz1
  have HZ2 : Hid _ := hz2
  have hSb : (S : Int) ≤ 16 := by omega
  have hS1 : (1 : Int) ≤ (S : Int) := by omega
  have hRb : (R : Int) ≤ 65536 := by omega
  have hPb : (P : Int) < (S : Int) := by omega
  have HPP : Hid (P < S) := (show P < S by omega)
  clear hp hm b1 b2 b3 b4 b5 b6 b7 m1 m2 m3 hi0 hz0 hz1 hz2
  unfold pA at HP ⊢
  simp only at HP ⊢
  go_enter Try.func10, Try.ntmps10
  go_wp2_with (go_at_call 30; refine Calls.mono (HP.out _) ?_; rintro e y1 ⟨rfl, hu1⟩; have HX1 : Hid _ := TwoBx.of _ _ _ _ _ hu1; clear hu1)
  have HS0 : Hid (ST w (y1.alloc (.cells #[.int .i64 0, .int .i64 0, .int .i64 0, .slice none 0 0] 35)) y1.heap.size S R P W 0 0 (.slice none 0 0) []) := ⟨HX1.out.step (bx1 _ _), heap_new _ _, World.ownsRow_nil _ _ _ _, HX1.out.lt⟩
  generalize (y1.alloc (.cells #[.int .i64 0, .int .i64 0, .int .i64 0, .slice none 0 0] 35)) = y2 at *
  generalize y1.heap.size = T at *
  clear HX1 HP hd
  go_loopw [] (fun wr => ∃ (c : Nat) (v : Value) (zs : List BU), c ≤ S ∧ ST w wr T S R P W c 0 v zs ∧ zs.length = c ∧ (0 < c → rdyB W (dAt s (R + P * 16)) = true) ∧ Hid (rgR s R S P S 0 [] = rgR s R S P (S - c) c zs)) (fun wr => S - cntAt wr T)
  case atStart => exact ⟨0, _, [], Nat.zero_le _, HS0.out, rfl, fun h => absurd h (by omega), rfl⟩
  case round =>
    obtain ⟨c, v, zs, hc, hst, hzl, hrd, hE⟩ := hrel
    have HZL : Hid (zs.length = c) := hzl
    clear hzl
    have HS : Hid _ := hst
    have HRDY : Hid _ := hrd
    have hmc := hst.count
    have HMC : Hid (cntAt wr T = c) := (show cntAt wr T = c by rw [hmc]; omega)
    obtain ⟨k0, k1, k2, k3, t0, t1, t2, t3, tf⟩ := hst.cels
    have ltT := hst.lt
    have gT := hst.ge
    have lw : w.heap.size < wr.heap.size := by omega
    clear hst hrd HS0 hmc
    have e1 : ((P : Int) + (c : Int)).tmod (S : Int) = (((P + c) % S : Nat) : Int) := by
      rw [Int.tmod_eq_emod_of_nonneg (by omega)]
      simp
    have h0 : ¬ (S : Int) = 0 := by omega
    have hM : (((P + c) % S : Nat) : Int) < (S : Int) := by have := Nat.mod_lt (P + c) (show 0 < S by omega); omega
    have hM0 : (0 : Int) ≤ (((P + c) % S : Nat) : Int) := by omega
    have hcb : (c : Int) ≤ (S : Int) := by omega
    have HW0 : Hid _ := fun u => HW.out c 0 u ((R : Int) + 16 * (((P + c) % S : Nat) : Int)) (by omega) (by omega)
    have HW4 : Hid _ := fun u => HW.out c 4 u ((R : Int) + 16 * (((P + c) % S : Nat) : Int) + 4) (by omega) (by omega)
    have HW8 : Hid _ := fun u => HW.out c 8 u ((R : Int) + 16 * (((P + c) % S : Nat) : Int) + 8) (by omega) (by omega)
    have HW12 : Hid _ := fun u => HW.out c 12 u ((R : Int) + 16 * (((P + c) % S : Nat) : Int) + 12) (by omega) (by omega)
    have HDD : Hid (dAt s (R + (P + c) % S * 16) = ⟨wv s (R + (P + c) % S * 16), wv s (R + (P + c) % S * 16 + 4), fgB (wv s (R + (P + c) % S * 16 + 8)) 2, fgB (wv s (R + (P + c) % S * 16 + 8)) 1, fgB (wv s (R + (P + c) % S * 16 + 8)) 4, fgB (wv s (R + (P + c) % S * 16 + 8)) 128, fgB (wv s (R + (P + c) % S * 16 + 8)) 32768, wv s (R + (P + c) % S * 16 + 12)⟩) := rfl
    have HAT : Hid (c = 0 → R + (P + c) % S * 16 = R + P * 16) := fun h => by subst h; rw [Nat.add_zero, Nat.mod_eq_of_lt HPP.out]
    have hNb := wv_b s (R + (P + c) % S * 16 + 12)
    have HEE : Hid (∀ f, rgR s R S P (f + 1) c zs = if (dAt s (R + (P + c) % S * 16)).indirect = true then (3, d0, zs) else if adC s zs (bf (dAt s (R + (P + c) % S * 16))) = 0 then (if (dAt s (R + (P + c) % S * 16)).next = true then rgR s R S P f (c + 1) (zs ++ [bf (dAt s (R + (P + c) % S * 16))]) else (0, dAt s (R + (P + c) % S * 16), zs ++ [bf (dAt s (R + (P + c) % S * 16))])) else (adC s zs (bf (dAt s (R + (P + c) % S * 16))), dAt s (R + (P + c) % S * 16), zs)) := fun f => rfl
    simp only [Nat.add_zero] at HW0
    generalize hAT : R + (P + c) % S * 16 = AT at *
    clear hAT
    generalize (P + c) % S = M at *
    go_upto_region 6 with fail
    go_quiet (fail)
    have HS2 : Hid _ := HS.out.dn nq
    clear HS k0 k1 k2 k3 t0 t1 t2 t3 tf ltT lw
    have HMC2 : Hid (cntAt (wr.drewN nq) T = c) := HMC.out
    generalize wr.drewN nq = y3 at *
    go_wp2_with fail
    refine Calls.mono (HW8.out _) ?_
    rintro e y4 ⟨rfl, q4, hu⟩
    have HS4 : Hid (ST w y4 T S R P W c 0 v zs) := (hu ▸ HS2.out.dn q4)
    clear hu HS2 HMC2
    obtain ⟨k0, k1, k2, k3, t0, t1, t2, t3, tf⟩ := HS4.out.cels
    have ltT := HS4.out.lt
    have lw : w.heap.size < y4.heap.size := by omega
    generalize wv s (AT + 8) = FL at *
    unfold fgB at HDD
    obtain ⟨a1, fA⟩ : ∃ a, (bits .and .i64 FL 128 != 0) = a := ⟨_, rfl⟩
    obtain ⟨a2, fB⟩ : ∃ a, (bits .and .i64 FL 32768 != 0) = a := ⟨_, rfl⟩
    obtain ⟨a3, fI⟩ : ∃ a, (bits .and .i64 FL 4 != 0) = a := ⟨_, rfl⟩
    obtain ⟨a4, fW⟩ : ∃ a, (bits .and .i64 FL 2 != 0) = a := ⟨_, rfl⟩
    obtain ⟨a5, fN⟩ : ∃ a, (bits .and .i64 FL 1 != 0) = a := ⟨_, rfl⟩
    rw [fA, fB, fI, fW, fN] at HDD
    rw [HDD.out] at HEE
    unfold bf at HEE
    simp only at HEE
    go_upto_region 8 with fail
    go_cut [54] (fun s54 wc => s54 = .bool (decide (c = 0) && !((a1 == W) && (a2 == !W))) ∧ wc = y4)
    case first =>
      by_cases hc0 : c = 0
      · subst hc0
        have hcz : (((0 : Nat) : Int) == 0) = true := rfl
        clear HEE HDD HW0 HW4 HW8 HW12 fI fW fN
        cases W <;> cases a1 <;> cases a2
        all_goals
          go_wp2_with fail
          go_meet
          case rel => exact ⟨rfl, rfl⟩
      · have hcz : ((c : Int) == 0) = false := by simp; omega
        clear HEE HDD HW0 HW4 HW8 HW12 fI fW fN fA fB
        go_wp2_with fail
        go_meet
        case rel => exact ⟨by rw [decide_eq_false hc0]; rfl, rfl⟩
    case rest =>
      obtain ⟨rfl, rfl⟩ := hcut
      have HRB : Hid (c = 0 → rdyB W (dAt s (R + P * 16)) = ((a1 == W) && (a2 == !W))) := fun h => by rw [← HAT.out h, HDD.out]; rfl
      cases hb : (decide (c = 0) && !((a1 == W) && (a2 == !W)))
      case true =>
        rw [Bool.and_eq_true] at hb
        have hb2 : ((a1 == W) && (a2 == !W)) = false := by
          cases hq : ((a1 == W) && (a2 == !W))
          · rfl
          · rw [hq] at hb
            exact absurd hb.2 (by decide)
        have HT5 : Hid (tpR s R S P W = (5, 0, [])) := (show tpR s R S P W = (5, 0, []) by rw [HTE.out, HRB.out (of_decide_eq_true hb.1), hb2]; rfl)
        clear hb2
        clear HEE HDD HW0 HW4 HW8 HW12 fA fB fI fW fN hb HRB HTE
        obtain ⟨r0, r1, r2, r3, rf⟩ := HS4.out.res
        have l1 : w.heap.size + 1 < wc.heap.size := by omega
        go_wp2_with fail
        refine bodyPost_ret (v := .agg #[.int .i64 5, .int .i64 0, .int .i64 0, .slice none 0 0]) ?_ rfl ?_
        · simp [results, Try.results10, go_sem, r0, r1, r2, r3]
        · rw [HT5.out]
          exact ⟨.slice none 0 0, rfl, World.ownsRow_nil _ _ _ _, (((HS4.out.two.bel.setCell (by simp) _).setCell (by simp) _).setCell (by simp) _).setCell (by simp) _⟩
      case false =>
        have HRT : Hid (rdyB W (dAt s (R + P * 16)) = true) := (show rdyB W (dAt s (R + P * 16)) = true by
          by_cases h : c = 0
          · rw [HRB.out h]
            rw [decide_eq_true h] at hb
            simpa using hb
          · exact HRDY.out (by omega))
        rw [HRT.out, if_pos rfl] at HTE
        clear hb HRB HRDY fA fB HW8 HAT
        have HS5 : Hid _ := HS4.out.cnt ((c : Int) + 1)
        go_upto_region 11 with fail
        generalize (wc.setCell ⟨T, 2, none⟩ (.int .i64 ((c : Int) + 1))) = y5 at *
        clear HS4 k0 k1 k2 k3 t0 t1 t2 t3 tf ltT lw
        obtain ⟨k0, k1, k2, k3, t0, t1, t2, t3, tf⟩ := HS5.out.cels
        have ltT := HS5.out.lt
        have lw : w.heap.size < y5.heap.size := by omega
        have l1 : w.heap.size + 1 < y5.heap.size := by omega
        by_cases hcS : c = S
        · have EE : Hid (rgR s R S P S 0 [] = (9, d0, zs)) := (show rgR s R S P S 0 [] = (9, d0, zs) by rw [hE.out, hcS, Nat.sub_self]; rfl)
          have HT5 : Hid (tpR s R S P W = (9, 0, [])) := (show tpR s R S P W = (9, 0, []) by rw [HTE.out, EE.out]; rfl)
          have hgt : (S : Int) < (c : Int) + 1 := by omega
          clear HEE HDD HW0 HW4 HW12 fI fW fN HTE EE
          obtain ⟨r0, r1, r2, r3, rf⟩ := HS5.out.res
          go_wp2_with fail
          refine bodyPost_ret (v := .agg #[.int .i64 9, .int .i64 0, .int .i64 0, .slice none 0 0]) ?_ rfl ?_
          · simp [results, Try.results10, go_sem, r0, r1, r2, r3]
          · rw [HT5.out]
            exact ⟨.slice none 0 0, rfl, World.ownsRow_nil _ _ _ _, (((HS5.out.two.bel.setCell (by simp) _).setCell (by simp) _).setCell (by simp) _).setCell (by simp) _⟩
        obtain ⟨f, hf⟩ : ∃ f, S - c = f + 1 := ⟨S - c - 1, by omega⟩
        rw [hf] at hE
        have EE : Hid _ := hE.out.trans (HEE.out f)
        have hgt : ¬ (S : Int) < (c : Int) + 1 := by omega
        clear HEE hE HDD
        cases a3
        case true =>
          rw [if_pos rfl] at EE
          have HT5 : Hid (tpR s R S P W = (3, 0, [])) := (show tpR s R S P W = (3, 0, []) by rw [HTE.out, EE.out]; rfl)
          clear HW0 HW4 HW12 fW fN HTE EE
          obtain ⟨r0, r1, r2, r3, rf⟩ := HS5.out.res
          go_wp2_with fail
          refine bodyPost_ret (v := .agg #[.int .i64 3, .int .i64 0, .int .i64 0, .slice none 0 0]) ?_ rfl ?_
          · simp [results, Try.results10, go_sem, r0, r1, r2, r3]
          · rw [HT5.out]
            exact ⟨.slice none 0 0, rfl, World.ownsRow_nil _ _ _ _, (((HS5.out.two.bel.setCell (by simp) _).setCell (by simp) _).setCell (by simp) _).setCell (by simp) _⟩
        case false =>
          rw [if_neg (by simp)] at EE
          go_wp2_with fail
          refine Calls.mono (HW0.out _) ?_
          rintro e y6 ⟨rfl, q6, hu⟩
          have HS6 : Hid (ST w y6 T S R P W ((c : Int) + 1) 0 v zs) := (hu ▸ HS5.out.dn q6)
          clear hu HS5 k0 k1 k2 k3 t0 t1 t2 t3 tf ltT lw l1
          go_wp2_with fail
          refine Calls.mono (HW4.out _) ?_
          rintro e y7 ⟨rfl, q7, hu⟩
          have HS7 : Hid (ST w y7 T S R P W ((c : Int) + 1) 0 v zs) := (hu ▸ HS6.out.dn q7)
          clear hu HS6
          generalize hpos : wv s AT = ZP at *
          generalize hlen : wv s (AT + 4) = ZL at *
          clear hpos hlen
          have HS8 : Hid _ := HS7.out.step (bx1 y7 (.cells #[.int .i64 ZP, .int .i64 ZL, .bool a4] 60))
          have HB8 : Hid ((y7.alloc (.cells #[.int .i64 ZP, .int .i64 ZL, .bool a4] 60)).heap[y7.heap.size]? = some (.cells #[.int .i64 ZP, .int .i64 ZL, .bool a4] 60 (0, 0))) := heap_new _ _
          have hB8 : T < y7.heap.size := HS7.out.lt
          have HNB : Hid (v.ownBlock ≠ some y7.heap.size) := fun e => by have := (HS7.out.row.lt _ e).2; omega
          go_upto_region 16 with fail
          generalize (y7.alloc (.cells #[.int .i64 ZP, .int .i64 ZL, .bool a4] 60)) = y8 at *
          generalize y7.heap.size = B8 at *
          clear HS7
          obtain ⟨ao, cap, hvv⟩ := bu_sl HS8.out.row
          subst hvv
          obtain ⟨k0, k1, k2, k3, t0, t1, t2, t3, tf⟩ := HS8.out.cels
          have z0 := bxC HB8.out 0 (.int .i64 ZP) rfl
          have z1 := bxC HB8.out 1 (.int .i64 ZL) rfl
          have z2 := bxC HB8.out 2 (.bool a4) rfl
          have ltT := HS8.out.lt
          have ltB : B8 < y8.heap.size := (Array.getElem?_eq_some_iff.1 HB8.out).1
          have HL8 : Hid (Calls Try.prog 31 #[.string s, .slice ao zs.length cap, .agg #[.int .i64 ZP, .int .i64 ZL, .bool a4]] y8 fun e w' => e = .returned (.int .i64 (adC s zs ⟨ZP, ZL, a4⟩)) ∧ Below y8.heap.size y8 w') := HLB.out ⟨ZP, ZL, a4⟩ HS8.out.row (by have := HZL.out; omega)
          go_wp2_with fail
          refine Calls.mono HL8.out ?_
          rintro e y9 ⟨rfl, hu⟩
          have HS9 : Hid _ := HS8.out.step hu
          have HB9 : Hid (y9.heap[B8]? = some (.cells #[.int .i64 ZP, .int .i64 ZL, .bool a4] 60 (0, 0))) := (hu.block _ ltB).trans HB8.out
          clear hu HS8 HB8 k0 k1 k2 k3 t0 t1 t2 t3 tf z0 z1 z2 ltT ltB HL8
          generalize adC s zs ⟨ZP, ZL, a4⟩ = AC at *
          by_cases hAC : AC = 0
          · subst hAC
            rw [if_pos rfl] at EE
            obtain ⟨k0, k1, k2, k3, t0, t1, t2, t3, tf⟩ := HS9.out.cels
            have z0 := bxC HB9.out 0 (.int .i64 ZP) rfl
            have z1 := bxC HB9.out 1 (.int .i64 ZL) rfl
            have z2 := bxC HB9.out 2 (.bool a4) rfl
            have ltT := HS9.out.lt
            have ltB : B8 < y9.heap.size := (Array.getElem?_eq_some_iff.1 HB9.out).1
            have HS10 : Hid _ := HS9.out.step (bx1 y9 (.cells #[.int .i64 ZP, .int .i64 ZL, .bool a4] 60))
            have HRW : Hid ((y9.alloc (.cells #[.int .i64 ZP, .int .i64 ZL, .bool a4] 60)).ownsRow (T + 1) 60 3 (.slice ao zs.length cap) zs.length (buR zs)) := HS10.out.row
            have HLZ : Hid (zs.length ≤ 1000) := (show zs.length ≤ 1000 by have := HZL.out; omega)
            have HCE : Hid _ := buf_cells y9 ⟨ZP, ZL, a4⟩
            have HOC : Hid _ := bu_oneC ⟨ZP, ZL, a4⟩
            have hN2 : (bits .and .i64 FL 1 == 0) = !a5 := by rw [← fN]; simp [bne]
            go_wp2_with (at_builtin; refine wpList_append_own _ rfl _ _ 33 rfl (T + 1) 60 i0 (.agg #[.int .i64 0, .int .i64 0, .bool false]) 3 24 Try.underlying33 HI0.out HZ0.out HZ1.out HZ2.out rfl (by decide) (.slice ao zs.length cap) zs.length (buR zs) rfl HRW.out ⟨y9.heap.size, 0, none⟩ 1 1 (buC ⟨ZP, ZL, a4⟩) rfl rfl HCE.out HOC.out (by have := HLZ.out; unfold maxLen; omega) (by have := HLZ.out; omega) (by simp; omega) ?_)
            intro v2 x2 hown hgr _
            have HS11 : Hid _ := HS10.out.app hown hgr
            have hbx : x2.heap[T]? = some (.cells #[.int .i64 0, .int .i64 0, .int .i64 ((c : Int) + 1), .slice ao zs.length cap] 35 (0, 0)) := (hgr.block _ HS10.out.lt (fun e => by have := (HRW.out.lt _ e.symm).1; omega)).trans HS10.out.box
            have q3 : x2.cell? ⟨T, 3, none⟩ = some (.slice ao zs.length cap) := bxC hbx 3 _ rfl
            have qf := fun k => bxF hbx k
            have qlt : T < x2.heap.size := (Array.getElem?_eq_some_iff.1 hbx).1
            obtain ⟨ao2, cap2, hv2⟩ := bu_sl hown
            subst hv2
            clear hown hgr hbx HS10 HS9 HB9 HRW HCE HOC k0 k1 k2 k3 t0 t1 t2 t3 tf z0 z1 z2 ltT ltB
            go_upto_region 20 with fail
            generalize (x2.setCell ⟨T, 3, none⟩ (.slice ao2 (zs.length + 1) cap2)) = yA at *
            clear q3 qf qlt
            obtain ⟨k0, k1, k2, k3, t0, t1, t2, t3, tf⟩ := HS11.out.cels
            have ltT := HS11.out.lt
            cases a5
            case false =>
              rw [if_neg (by simp)] at EE
              have HT5 : Hid (tpR s R S P W = (0, wv s (AT + 12) % 65536, zs ++ [⟨ZP, ZL, a4⟩])) := (show tpR s R S P W = _ by rw [HTE.out, EE.out]; rfl)
              have hm : (wv s (AT + 12)).tmod 65536 = wv s (AT + 12) % 65536 := Int.tmod_eq_emod_of_nonneg hNb.1
              clear HTE EE
              have hN3 : (bits .and .i64 FL 1 == 0) = true := hN2
              clear hN2
              go_wp2_with fail
              refine Calls.mono (HW12.out _) ?_
              rintro e yB ⟨rfl, qB, hu⟩
              have HSB : Hid (ST w yB T S R P W ((c : Int) + 1) 0 (.slice ao2 (zs.length + 1) cap2) (zs ++ [⟨ZP, ZL, a4⟩])) := (hu ▸ HS11.out.dn qB)
              clear hu HS11 k0 k1 k2 k3 t0 t1 t2 t3 tf ltT
              generalize wv s (AT + 12) = NN at *
              have HSC : Hid _ := HSB.out.idp (NN % 65536)
              obtain ⟨k0, k1, k2, k3, t0, t1, t2, t3, tf⟩ := HSB.out.cels
              have ltT := HSB.out.lt
              go_upto_region 22 with fail
              generalize (yB.setCell ⟨T, 1, none⟩ (.int .i64 (NN % 65536))) = yC at *
              clear HSB k0 k1 k2 k3 t0 t1 t2 t3 tf ltT
              obtain ⟨k0, k1, k2, k3, t0, t1, t2, t3, tf⟩ := HSC.out.cels
              obtain ⟨r0, r1, r2, r3, rf⟩ := HSC.out.res
              have ltT := HSC.out.lt
              have l1 : w.heap.size + 1 < yC.heap.size := by omega
              have hnb : (Value.slice ao2 (zs.length + 1) cap2).ownBlock ≠ some (w.heap.size + 1) := fun e => by have h1 := (HSC.out.row.lt _ e).1; omega
              go_wp2_with fail
              refine bodyPost_ret (v := .agg #[.int .i64 0, .int .i64 (NN % 65536), .int .i64 ((c : Int) + 1), .slice ao2 (zs.length + 1) cap2]) ?_ rfl ?_
              · simp [results, Try.results10, go_sem, r0, r1, r2, r3]
              · rw [HT5.out]
                refine ⟨.slice ao2 (zs.length + 1) cap2, ?_, ?_, ?_⟩
                · have hz : (((zs ++ [(⟨ZP, ZL, a4⟩ : BU)]).length : Nat) : Int) = (c : Int) + 1 := by simp [HZL.out]
                  unfold tkA
                  simp only
                  rw [hz]
                · exact own_set (own_set (own_set (own_set (bu_weak HSC.out.row (by omega)) hnb) hnb) hnb) hnb
                · exact (((HSC.out.two.bel.setCell (by simp) _).setCell (by simp) _).setCell (by simp) _).setCell (by simp) _
            case true =>
              rw [if_pos rfl] at EE
              have hN3 : (bits .and .i64 FL 1 == 0) = false := hN2
              clear hN2
              have hct := HS11.out.count
              go_wp2_with fail
              refine ⟨⟨c + 1, _, zs ++ [⟨ZP, ZL, a4⟩], by omega, by simpa using HS11.out, by simp [HZL.out], fun _ => HRT.out, ?_⟩, ?_⟩
              · rw [show S - (c + 1) = f by omega]
                exact EE.out
              · rw [hct, HMC.out]
                omega
          · rw [if_neg hAC] at EE
            have HT5 : Hid (tpR s R S P W = (AC, 0, [])) := (show tpR s R S P W = (AC, 0, []) by rw [HTE.out, EE.out]; simp only; rw [if_neg hAC])
            have hA2 : (AC != 0) = true := by simp [hAC]
            clear HW0 HW4 HW12 fW fN HTE EE hAC
            obtain ⟨r0, r1, r2, r3, rf⟩ := HS9.out.res
            have l1 : w.heap.size + 1 < y9.heap.size := by have := HS9.out.lt; omega
            go_wp2_with fail
            refine bodyPost_ret (v := .agg #[.int .i64 AC, .int .i64 0, .int .i64 0, .slice none 0 0]) ?_ rfl ?_
            · simp [results, Try.results10, go_sem, r0, r1, r2, r3]
            · rw [HT5.out]
              exact ⟨.slice none 0 0, rfl, World.ownsRow_nil _ _ _ _, (((HS9.out.two.bel.setCell (by simp) _).setCell (by simp) _).setCell (by simp) _).setCell (by simp) _⟩
end Go.Proofs.Ytggciigjhlbhhaa
