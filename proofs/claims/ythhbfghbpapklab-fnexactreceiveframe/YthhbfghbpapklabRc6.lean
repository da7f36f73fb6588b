import Derived.Test.YthhbfghbpapklabRc5
namespace Go.Proofs.Ythhbfghbpapklab
open Go.ChangeShapes Go.WideShapes Go.ChangeAt Go.RowKit

def gh (inn : Bool) : Nat := if inn = true then 0 else 17
set_option maxRecDepth 100000 in
set_option maxHeartbeats 4000000 in
theorem specRC_good (s : ByteArray) (S D k : Nat) (qa qu qt qg : Int) (hp : qOk s ⟨S, D, qa, qu, qt, qg⟩ = true) (hk : k < S) : AnsC 86 s ⟨S, D, qa, qu, qt, qg⟩ k (if (rcR s D S k).1 = 0 then (0, (rcR s D S k).2) else ((rcR s D S k).1, [])) := by
  intro w
  obtain ⟨hm, hz, _, _, ⟨b1, b2, b3⟩, _⟩ := qOk_b hp
  obtain ⟨m1, m2, m3⟩ := memOk_b hm
  simp only at hz b1 b2 b3
  have hS : S ≤ 16 := by unfold szB at hz; simp at hz; omega
  have hd : decide (65536 < (s.size : Int)) = false := decide_eq_false (by omega)
  have HP : Hid _ := fun u => specQueueFault_any s ⟨S, D, qa, qu, qt, qg⟩ u (by omega)
  rw [qF_ok hp] at HP
  have HW : Hid (∀ (a o : Nat) (u : World) (y : Int), a + o + 4 ≤ s.size → y = ((a + o : Nat) : Int) → Calls Try.prog 85 #[.string s, .int .i64 y] u fun e w' => e = .returned (.int .i64 (wv s (a + o))) ∧ ∃ q, w' = u.drewN q) := fun a o u y ho hy => hy ▸ l01Word_any s (a + o) u ho m2
  have HLB : Hid (∀ {u : World} {B : Nat} {v : Value} {zs : List BU} (z : BU), u.ownsRow B 153 3 v zs.length (buR zs) → zs.length ≤ 1000 → Calls Try.prog 120 #[.string s, v, buA z] u fun e w' => e = .returned (.int .i64 (adC s zs z)) ∧ Below u.heap.size u w') := fun z hr hl => l10Buf_any s z hr (by omega) hl
  have HIN : Hid _ := fun (P L : Int) u => l10In_any s P L u (by omega)
  have HWB : Hid (∀ k, 0 ≤ wv s k ∧ wv s k ≤ 4294967295) := fun k => by have := wv_b s k; omega
  obtain ⟨i0, hi0, hz0, hz1, hz2⟩ := info_parts Try.info153
  have HI0 : Hid _ := hi0
  have HZ0 : Hid _ := hz0
  have HZ1 : Hid _ := hz1
  have HZ2 : Hid _ := hz2
  have HB0 : Hid (S ≤ 16 ∧ D + S * 16 ≤ s.size) := ⟨hS, by omega⟩
  have HSZ : Hid (s.size ≤ 65536) := m2
  have hk1 : (k : Int) < (S : Int) := by omega
  have hk2 : ¬ (S : Int) ≤ (k : Int) := by omega
  have hk3 : ¬ S ≤ k := by omega
  have hk4 : decide ((k : Int) < 0) = false := decide_eq_false (by omega)
  have HK : Hid (k < S ∧ k ≤ 4294967295) := ⟨hk, by omega⟩
  clear hp hm hz b1 b2 b3 m1 m2 m3 hi0 hz0 hz1 hz2 hS hk
  have HAN : Hid (∀ cc zz, rcR s D S k = (cc, zz) → (if (rcR s D S k).1 = 0 then (0, (rcR s D S k).2) else ((rcR s D S k).1, [])) = if cc = 0 then (0, zz) else (cc, [])) := fun cc zz h => by rw [h]
  generalize (if (rcR s D S k).1 = 0 then ((0 : Int), (rcR s D S k).2) else ((rcR s D S k).1, [])) = AN at *
  unfold qA at HP ⊢
  simp only at HP ⊢
  go_enter Try.func86, Try.ntmps86
  go_wp2_with (go_at_call 40; refine Calls.mono (HP.out _) ?_; rintro e y1 ⟨rfl, hu1⟩; have HX1 : Hid _ := TwoBx.of _ _ _ _ _ hu1; clear hu1; have k0 := HX1.out.c1 0 (.int .i64 S) rfl; have k1 := HX1.out.c1 1 (.int .i64 D) rfl; have glt := HX1.out.lt; have gl0 : w.heap.size < y1.heap.size := by omega)
  have HS0 : Hid (SR w (y1.alloc (.cells #[.int .i64 0, .slice none 0 0] 150)) #[.int .i64 S, .int .i64 D, .int .i64 qa, .int .i64 qu, .int .i64 qt, .int .i64 qg] y1.heap.size (.slice none 0 0) []) := ⟨HX1.out.step (bx1 _ _), heap_new _ _, World.ownsRow_nil _ _ _ _, HX1.out.lt⟩
  generalize (y1.alloc (.cells #[.int .i64 0, .slice none 0 0] 150)) = y2 at *
  generalize y1.heap.size = T at *
  clear HX1 HP hd k0 k1 glt gl0 hk1 hk2 hk3 hk4
  go_loopg [8, 9, 10, 11, 12] (17 + S) (fun g s8 s9 s10 s11 s12 wr => ∃ (T' S' a c : Nat) (inn : Bool) (v : Value) (zs : List BU), s8 = .int .i64 T' ∧ s9 = .int .i64 S' ∧ s10 = .bool inn ∧ s11 = .int .i64 a ∧ s12 = .int .i64 c ∧ SR w wr #[.int .i64 S, .int .i64 D, .int .i64 qa, .int .i64 qu, .int .i64 qt, .int .i64 qg] T v zs ∧ Hid (S' ≤ 16 ∧ T' + S' * 16 ≤ s.size ∧ a ≤ 4294967295 ∧ c ≤ S' ∧ zs.length + gh inn ≤ 17 + c + (if inn = true then 0 else 0) ∧ g = gh inn + (S' - c)) ∧ Hid (rcR s D S k = rdT s (KK s inn) T' S' (S' - c) a zs))
  case atStart => exact ⟨D, S, k, 0, false, _, [], rfl, rfl, rfl, rfl, rfl, HS0.out, ⟨HB0.out.1, HB0.out.2, HK.out.2, Nat.zero_le _, by simp [gh], by simp [gh]⟩, by rw [Nat.sub_zero]; exact rfl⟩
  case round =>
    obtain ⟨T', S', a, c, inn, v, zs, rfl, rfl, rfl, rfl, rfl, hst, HB, HE⟩ := hrel
    have HS : Hid _ := hst
    clear hst HS0
    have hSb : (S' : Int) ≤ 16 := by have := HB.out.1; omega
    have hcb : (c : Int) ≤ (S' : Int) := by have := HB.out; omega
    have hab : (a : Int) ≤ 4294967295 := by have := HB.out; omega
    by_cases hge : S' ≤ a
    · have hge' : (S' : Int) ≤ (a : Int) := by omega
      have EE : Hid (rcR s D S k = (5, [])) := (show rcR s D S k = (5, []) by rw [HE.out]; cases (S' - c) <;> simp [rdT, hge])
      clear HE
      obtain ⟨r0, r1, rf, l1⟩ := HS.out.res
      go_wp2_with fail
      refine bodyPost_ret (v := .agg #[.int .i64 5, .slice none 0 0]) ?_ rfl ?_
      · simp [results, Try.results86, go_sem, r0, r1]
      · rw [HAN.out _ _ EE.out, if_neg (show ¬ (5 : Int) = 0 by decide)]
        exact ⟨.slice none 0 0, rfl, World.ownsRow_nil _ _ _ _, HS.out.code _ _⟩
    have hge' : ¬ (S' : Int) ≤ (a : Int) := by omega
    by_cases hcS : c = S'
    · have hcS' : (S' : Int) < (c : Int) + 1 := by omega
      have EE : Hid (rcR s D S k = (9, [])) := (show rcR s D S k = (9, []) by rw [HE.out, hcS, Nat.sub_self]; simp [rdT, hge])
      clear HE
      obtain ⟨r0, r1, rf, l1⟩ := HS.out.res
      go_wp2_with fail
      refine bodyPost_ret (v := .agg #[.int .i64 9, .slice none 0 0]) ?_ rfl ?_
      · simp [results, Try.results86, go_sem, r0, r1]
      · rw [HAN.out _ _ EE.out, if_neg (show ¬ (9 : Int) = 0 by decide)]
        exact ⟨.slice none 0 0, rfl, World.ownsRow_nil _ _ _ _, HS.out.code _ _⟩
    obtain ⟨f, hf⟩ : ∃ f, S' - c = f + 1 := ⟨S' - c - 1, by have := HB.out; omega⟩
    have HF : Hid (S' - (c + 1) = f) := (show S' - (c + 1) = f by omega)
    rw [hf] at HE
    have EE : Hid _ := HE.out
    unfold rdT at EE
    rw [if_neg hge] at EE
    clear HE
    have hcS' : ¬ (S' : Int) < (c : Int) + 1 := by have := HB.out; omega
    have hATs : T' + a * 16 + 16 ≤ s.size := by have := HB.out; omega
    have HW0 : Hid _ := fun u => HW.out (T' + a * 16) 0 u ((T' : Int) + 16 * (a : Int)) (by omega) (by omega)
    have HW4 : Hid _ := fun u => HW.out (T' + a * 16) 4 u ((T' : Int) + 16 * (a : Int) + 4) (by omega) (by omega)
    have HW8 : Hid _ := fun u => HW.out (T' + a * 16) 8 u ((T' : Int) + 16 * (a : Int) + 8) (by omega) (by omega)
    have HW12 : Hid _ := fun u => HW.out (T' + a * 16) 12 u ((T' : Int) + 16 * (a : Int) + 12) (by omega) (by omega)
    simp only [Nat.add_zero] at HW0
    have HDD : Hid (dAt s (T' + a * 16) = ⟨wv s (T' + a * 16), wv s (T' + a * 16 + 4), fgB (wv s (T' + a * 16 + 8)) 2, fgB (wv s (T' + a * 16 + 8)) 1, fgB (wv s (T' + a * 16 + 8)) 4, fgB (wv s (T' + a * 16 + 8)) 128, fgB (wv s (T' + a * 16 + 8)) 32768, wv s (T' + a * 16 + 12)⟩) := rfl
    have hTb : (T' : Int) ≤ 65536 := by have := HSZ.out; omega
    have hab2 : (a : Int) ≤ 16 := by omega
    obtain ⟨P, hP⟩ : ∃ P : Nat, wv s (T' + a * 16) = P := ⟨(wv s (T' + a * 16)).toNat, by have := HWB.out (T' + a * 16); omega⟩
    obtain ⟨L, hL⟩ : ∃ L : Nat, wv s (T' + a * 16 + 4) = L := ⟨(wv s (T' + a * 16 + 4)).toNat, by have := HWB.out (T' + a * 16 + 4); omega⟩
    obtain ⟨NM, hNM⟩ : ∃ NM : Nat, wv s (T' + a * 16 + 12) = NM := ⟨(wv s (T' + a * 16 + 12)).toNat, by have := HWB.out (T' + a * 16 + 12); omega⟩
    have hPb : (P : Int) ≤ 4294967295 := by have := HWB.out (T' + a * 16); omega
    have hLb : (L : Int) ≤ 4294967295 := by have := HWB.out (T' + a * 16 + 4); omega
    have HNb : Hid (NM ≤ 4294967295) := (show NM ≤ 4294967295 by have := HWB.out (T' + a * 16 + 12); omega)
    rw [hP] at HW0 HDD
    rw [hL] at HW4 HDD
    rw [hNM] at HW12 HDD
    clear hP hL hNM HWB HW
    generalize wv s (T' + a * 16 + 8) = FL at *
    unfold fgB at HDD
    obtain ⟨b1, fA⟩ : ∃ x, (bits .and .i64 FL 128 != 0) = x := ⟨_, rfl⟩
    obtain ⟨b2, fB⟩ : ∃ x, (bits .and .i64 FL 32768 != 0) = x := ⟨_, rfl⟩
    obtain ⟨b3, fI⟩ : ∃ x, (bits .and .i64 FL 4 != 0) = x := ⟨_, rfl⟩
    obtain ⟨b4, fW⟩ : ∃ x, (bits .and .i64 FL 2 != 0) = x := ⟨_, rfl⟩
    obtain ⟨b5, fN⟩ : ∃ x, (bits .and .i64 FL 1 != 0) = x := ⟨_, rfl⟩
    rw [fA, fB, fI, fW, fN] at HDD
    rw [HDD.out] at EE
    unfold bf at EE
    simp only [Int.toNat_natCast] at EE
    clear HDD fA fB hATs hge
    go_wp2_with fail
    refine Calls.mono (HW0.out _) ?_
    rintro e y3 ⟨rfl, q3, hu⟩
    have HS3 : Hid (SR w y3 #[.int .i64 S, .int .i64 D, .int .i64 qa, .int .i64 qu, .int .i64 qt, .int .i64 qg] T v zs) := (hu ▸ HS.out.dn q3)
    clear hu HS HW0
    go_wp2_with fail
    refine Calls.mono (HW4.out _) ?_
    rintro e y4 ⟨rfl, q4, hu⟩
    have HS4 : Hid (SR w y4 #[.int .i64 S, .int .i64 D, .int .i64 qa, .int .i64 qu, .int .i64 qt, .int .i64 qg] T v zs) := (hu ▸ HS3.out.dn q4)
    clear hu HS3 HW4
    have HB4 : Hid _ := SB.new HS4.out #[.int .i64 P, .int .i64 L, .bool false]
    clear HS4
    go_upto_region 18 with fail
    generalize (y4.alloc (.cells #[.int .i64 P, .int .i64 L, .bool false] 153)) = y5 at *
    generalize y4.heap.size = B at *
    go_wp2_with fail
    refine Calls.mono (HW8.out _) ?_
    rintro e y6 ⟨rfl, q6, hu⟩
    have HB6 : Hid (SB w y6 #[.int .i64 S, .int .i64 D, .int .i64 qa, .int .i64 qu, .int .i64 qt, .int .i64 qg] T v zs B #[.int .i64 P, .int .i64 L, .bool false]) := (hu ▸ HB4.out.dn q6)
    clear hu HB4 HW8
    go_wp2_with fail
    refine Calls.mono (HW12.out _) ?_
    rintro e y7 ⟨rfl, q7, hu⟩
    have HB7 : Hid (SB w y7 #[.int .i64 S, .int .i64 D, .int .i64 qa, .int .i64 qu, .int .i64 qt, .int .i64 qg] T v zs B #[.int .i64 P, .int .i64 L, .bool false]) := (hu ▸ HB6.out.dn q7)
    clear hu HB6 HW12
    have HB8 : Hid _ := HB7.out.put 2 (.bool b4)
    obtain ⟨z0, z1, z2, zf⟩ := HB7.out.cels
    have zl := HB7.out.lt
    go_upto_region 21 with fail
    generalize (y7.setCell ⟨B, 2, none⟩ (.bool b4)) = y8 at *
    clear HB7 z0 z1 z2 zf zl
    replace HB8 : Hid (SB w y8 #[.int .i64 S, .int .i64 D, .int .i64 qa, .int .i64 qu, .int .i64 qt, .int .i64 qg] T v zs B #[.int .i64 P, .int .i64 L, .bool b4]) := HB8.out
    obtain ⟨z0, z1, z2, zf⟩ := HB8.out.cels
    have zl := HB8.out.lt
    cases b3
    case true =>
      rw [if_pos rfl] at EE
      unfold KK at EE
      simp only [Int.toNat_natCast] at EE
      clear HLB
      go_upto_region 22 with fail
      go_cut [111] (fun s111 wc => s111 = .bool (synB inn b5 P L) ∧ wc = y8)
      case first =>
        clear EE HIN HB HAN
        cases inn
        case true =>
          go_wp2_with fail
          go_meet
          case rel => exact ⟨rfl, rfl⟩
        cases b5
        case true =>
          go_wp2_with fail
          go_meet
          case rel => exact ⟨rfl, rfl⟩
        by_cases h1 : L % 16 = 0
        case neg =>
          have g1 : ¬ (L : Int) % 16 = 0 := by omega
          go_wp2_with fail
          go_meet
          case rel => exact ⟨by simp [synB, h1], rfl⟩
        have g1 : (L : Int) % 16 = 0 := by omega
        by_cases h2 : L < 16
        case pos =>
          have g2 : (L : Int) < 16 := by omega
          go_wp2_with fail
          go_meet
          case rel => exact ⟨by simp [synB, h1, h2], rfl⟩
        have g2 : ¬ (L : Int) < 16 := by omega
        by_cases h3 : 256 < L
        case pos =>
          have g3 : (256 : Int) < (L : Int) := by omega
          go_wp2_with fail
          go_meet
          case rel => exact ⟨by simp [synB, h1, h2, h3], rfl⟩
        have g3 : ¬ (256 : Int) < (L : Int) := by omega
        by_cases h4 : P % 4 = 0
        case pos =>
          have g4 : (P : Int) % 4 = 0 := by omega
          go_wp2_with fail
          go_meet
          case rel => exact ⟨by simp [synB, h1, h2, h3, h4], rfl⟩
        case neg =>
          have g4 : ¬ (P : Int) % 4 = 0 := by omega
          go_wp2_with fail
          go_meet
          case rel => exact ⟨by simp [synB, h1, h2, h3, h4]; omega, rfl⟩
      case rest =>
        obtain ⟨rfl, rfl⟩ := hcut
        cases hsy : synB inn b5 P L
        case true =>
          rw [itC_syn hsy, if_neg (show ¬ (3 : Int) = 0 by decide)] at EE
          clear HIN
          have HQ : Hid _ := HB8.out.sr
          obtain ⟨r0, r1, rf, l1⟩ := HQ.out.res
          go_wp2_with fail
          refine bodyPost_ret (v := .agg #[.int .i64 3, .slice none 0 0]) ?_ rfl ?_
          · simp [results, Try.results86, go_sem, r0, r1]
          · rw [HAN.out _ _ EE.out, if_neg (show ¬ (3 : Int) = 0 by decide)]
            exact ⟨.slice none 0 0, rfl, World.ownsRow_nil _ _ _ _, HQ.out.code _ _⟩
        have HIT : Hid _ := itC_nsyn (n := s.size) hsy
        have HI1 : Hid _ := fun u => HIN.out P L u
        clear HIN
        rw [HIT.out] at EE
        cases hiw : inW s.size P L
        case false =>
          rw [hiw, if_neg (show ¬ (false = true) by decide), if_neg (show ¬ (2 : Int) = 0 by decide)] at EE
          rw [hiw] at HI1
          clear HIT hsy
          obtain ⟨r0, r1, rf, l1⟩ := HB8.out.sr.res
          go_wp2_with (go_at_call 83; refine Calls.mono (HI1.out _) ?_; rintro e u1 ⟨rfl, hu1⟩; rw [hu1]; clear hu1)
          refine bodyPost_ret (v := .agg #[.int .i64 2, .slice none 0 0]) ?_ rfl ?_
          · simp [results, Try.results86, go_sem, r0, r1]
          · rw [HAN.out _ _ EE.out, if_neg (show ¬ (2 : Int) = 0 by decide)]
            exact ⟨.slice none 0 0, rfl, World.ownsRow_nil _ _ _ _, HB8.out.sr.code _ _⟩
        case true =>
          rw [hiw, if_pos rfl, if_pos rfl] at EE
          rw [hiw] at HI1
          have HOK : Hid _ := itC_ok (n := s.size) (inn := inn) (nx := b5) (P := P) (L := L) (by rw [HIT.out, hiw]; rfl)
          clear HIT hsy hiw
          have HPL : Hid (P + L / 16 * 16 ≤ s.size) := (show P + L / 16 * 16 ≤ s.size by have := HOK.out; omega)
          have hQ0 : ((L / 16 : Nat) : Int) = (L : Int) / 16 := by omega
          go_wp2_with (go_at_call 83; refine Calls.mono (HI1.out _) ?_; rintro e u1 ⟨rfl, hu1⟩; rw [hu1]; clear hu1)
          go_roundg (L / 16)
          case measure =>
            have h1 := HOK.out
            have h2 := HB.out
            rw [h1.1] at h2
            simp [gh] at h2
            omega
          case rel =>
            have h1 := HOK.out
            have h2 := HB.out
            rw [h1.1] at h2
            simp [gh] at h2
            refine ⟨P, L / 16, 0, 0, true, v, zs, rfl, by simp, rfl, rfl, rfl, HB8.out.sr, ⟨h1.2.2.2.2.1, HPL.out, by omega, by omega, by simp [gh]; omega, by simp [gh]⟩, ?_⟩
            rw [KK_true, Nat.sub_zero]
            exact EE
    case false =>
      rw [if_neg (by simp)] at EE
      clear HIN
      obtain ⟨ao, cap, hvv⟩ := bu_sl HB8.out.sr.row
      subst hvv
      obtain ⟨t0, t1, tf⟩ := HB8.out.sr.cels
      have ltT := HB8.out.sr.lt
      have HLZ : Hid (zs.length ≤ 1000) := (show zs.length ≤ 1000 by have := HB.out; split at this <;> omega)
      have HL8 : Hid (Calls Try.prog 120 #[.string s, .slice ao zs.length cap, .agg #[.int .i64 P, .int .i64 L, .bool b4]] y8 fun e w' => e = .returned (.int .i64 (adC s zs ⟨P, L, b4⟩)) ∧ Below y8.heap.size y8 w') := HLB.out ⟨P, L, b4⟩ HB8.out.sr.row HLZ.out
      clear HLB
      go_wp2_with fail
      refine Calls.mono HL8.out ?_
      rintro e y9 ⟨rfl, hu⟩
      have HB9 : Hid _ := HB8.out.step hu
      clear hu HB8 z0 z1 z2 zf zl t0 t1 tf ltT HL8
      generalize adC s zs ⟨P, L, b4⟩ = AC at *
      by_cases hAC : AC = 0
      · subst hAC
        rw [if_pos rfl] at EE
        obtain ⟨t0, t1, tf⟩ := HB9.out.sr.cels
        obtain ⟨z0, z1, z2, zf⟩ := HB9.out.cels
        have ltT := HB9.out.sr.lt
        have ltB := HB9.out.lt
        have HS10 : Hid _ := HB9.out.sr.step (bx1 y9 (.cells #[.int .i64 P, .int .i64 L, .bool b4] 153))
        have HRW : Hid ((y9.alloc (.cells #[.int .i64 P, .int .i64 L, .bool b4] 153)).ownsRow (T + 1) 153 3 (.slice ao zs.length cap) zs.length (buR zs)) := HS10.out.row
        have HCE : Hid _ := buf_cells y9 ⟨P, L, b4⟩
        have HOC : Hid _ := bu_oneC ⟨P, L, b4⟩
        have hN2 : (bits .and .i64 FL 1 == 0) = !b5 := by rw [← fN]; simp [bne]
        go_wp2_with (at_builtin; refine wpList_append_own _ rfl _ _ 74 rfl (T + 1) 153 i0 (.agg #[.int .i64 0, .int .i64 0, .bool false]) 3 24 Try.underlying74 HI0.out HZ0.out HZ1.out HZ2.out rfl (by decide) (.slice ao zs.length cap) zs.length (buR zs) rfl HRW.out ⟨y9.heap.size, 0, none⟩ 1 1 (buC ⟨P, L, b4⟩) rfl rfl HCE.out HOC.out (by have := HLZ.out; unfold maxLen; omega) (by have := HLZ.out; omega) (by simp; omega) ?_)
        intro v2 x2 hown hgr _
        have HS11 : Hid _ := HS10.out.app hown hgr
        have hbx : x2.heap[T]? = some (.cells #[.int .i64 0, .slice ao zs.length cap] 150 (0, 0)) := (hgr.block _ HS10.out.lt (fun e => by have := (HRW.out.lt _ e.symm).1; omega)).trans HS10.out.box
        have q3 : x2.cell? ⟨T, 1, none⟩ = some (.slice ao zs.length cap) := bC hbx 1 _ rfl
        have qf := fun k => bF hbx k
        have qlt : T < x2.heap.size := (Array.getElem?_eq_some_iff.1 hbx).1
        obtain ⟨ao2, cap2, hv2⟩ := bu_sl hown
        subst hv2
        clear hown hgr hbx HS10 HB9 HRW HCE HOC t0 t1 tf z0 z1 z2 zf ltT ltB
        go_upto_region 35 with fail
        generalize (x2.setCell ⟨T, 1, none⟩ (.slice ao2 (zs.length + 1) cap2)) = yA at *
        clear q3 qf qlt
        obtain ⟨t0, t1, tf⟩ := HS11.out.cels
        have ltT := HS11.out.lt
        cases b5
        case false =>
          rw [if_neg (by simp)] at EE
          have hN3 : (bits .and .i64 FL 1 == 0) = true := hN2
          clear hN2
          obtain ⟨r0, r1, rf, l1⟩ := HS11.out.res
          have hnb : (Value.slice ao2 (zs.length + 1) cap2).ownBlock ≠ some (w.heap.size + 1) := fun e => by have h1 := (HS11.out.row.lt _ e).1; have h2 := HS11.out.ge; omega
          go_wp2_with fail
          refine bodyPost_ret (v := .agg #[.int .i64 0, .slice ao2 (zs.length + 1) cap2]) ?_ rfl ?_
          · simp [results, Try.results86, go_sem, r0, r1]
          · rw [HAN.out _ _ EE.out, if_pos rfl]
            refine ⟨.slice ao2 (zs.length + 1) cap2, rfl, ?_, HS11.out.code _ _⟩
            exact own_set (own_set (bu_weak HS11.out.row (by have := HS11.out.ge; omega)) hnb) hnb
        case true =>
          rw [if_pos rfl] at EE
          have hN3 : (bits .and .i64 FL 1 == 0) = false := hN2
          clear hN2
          go_wp2_with fail
          go_roundg (gh inn + f)
          case measure => have := HB.out; omega
          case rel =>
            have h2 := HB.out
            have h3 := HF.out
            refine ⟨T', S', NM, c + 1, inn, _, zs ++ [⟨P, L, b4⟩], rfl, rfl, rfl, rfl, by simp, by simpa using HS11.out, ⟨h2.1, h2.2.1, HNb.out, by omega, ?_, by omega⟩, ?_⟩
            · have := h2.2.2.2.2.1
              simp at this ⊢
              omega
            · rw [h3]
              exact EE
      · rw [if_neg hAC] at EE
        have hA2 : (AC != 0) = true := by simp [hAC]
        have HQ : Hid _ := HB9.out.sr
        have HAC : Hid _ := hAC
        clear hAC
        obtain ⟨r0, r1, rf, l1⟩ := HQ.out.res
        go_wp2_with fail
        refine bodyPost_ret (v := .agg #[.int .i64 AC, .slice none 0 0]) ?_ rfl ?_
        · simp [results, Try.results86, go_sem, r0, r1]
        · rw [HAN.out _ _ EE.out, if_neg HAC.out]
          exact ⟨.slice none 0 0, rfl, World.ownsRow_nil _ _ _ _, HQ.out.code _ _⟩
end Go.Proofs.Ythhbfghbpapklab
