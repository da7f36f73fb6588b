import Derived.Test.YthhbfghbpapklabRc2
namespace Go.Proofs.Ythhbfghbpapklab
open Go.ChangeShapes Go.WideShapes Go.ChangeAt Go.RowKit

set_option maxRecDepth 100000 in
set_option maxHeartbeats 4000000 in
theorem crRead_any {w : World} {Bc mb n : Nat} {v : Value} {s : ByteArray} (h : CR w Bc mb n v [] s) (T S a : Nat) (hn : s.size = n * 256) (hs : s.size ≤ 65536) (hS : S ≤ 16) (hT4 : T % 4 = 0) (hT : T + S * 16 ≤ s.size) (ha : a ≤ 4294967295) :
    Calls Try.prog 222 #[.pointer (some ⟨Bc, 0, none⟩), .agg #[.int .i64 T, .int .i64 S, .bool false], .int .i64 a] w fun e w' => ∃ v' zs, e = .returned (.int .i64 (rcR s T S a).1) ∧ ((rcR s T S a).1 = 0 → zs = (rcR s T S a).2) ∧ CR w' Bc mb n v' zs s ∧ FrT w w' Bc := by
  have HRD : Hid (∀ (k : Nat) (u : World), k + 16 ≤ s.size → k % 4 = 0 → MemAt u mb s → Calls Try.prog 224 #[mv mb n, .int .i64 (k : Int)] u fun e w' => e = .returned (dA (dAt s k)) ∧ Below u.heap.size u w') := fun k u hk h4 hm => readDesc_any mb n s k u hm hn hs hk h4
  have HAD : Hid (∀ {u : World} {v : Value} {zs : List BU} (k : Nat), CR u Bc mb n v zs s → zs.length ≤ 1000 → Calls Try.prog 226 #[.pointer (some ⟨Bc, 0, none⟩), buA (bf (dAt s k))] u fun e w' => e = .returned (.int .i64 (adC s zs (bf (dAt s k)))) ∧ ∃ v', CR w' Bc mb n v' (adZ s zs (bf (dAt s k))) s ∧ FrT u w' Bc) := fun k hc hl => crAdd_any hc _ hn hs (dAt_len s k) hl
  have HIT : Hid (∀ {u : World} {v : Value} {zs : List BU} (T S num : Int) (inn wr nx id av us : Bool) (P L : Nat), CR u Bc mb n v zs s → P ≤ 4294967295 → L ≤ 4294967295 → Calls Try.prog 225 #[.pointer (some ⟨Bc, 0, none⟩), .agg #[.int .i64 T, .int .i64 S, .bool inn], .agg #[.int .i64 P, .int .i64 L, .bool wr, .bool nx, .bool id, .bool av, .bool us, .int .i64 num]] u fun e w' => e = .returned (.tuple #[itA (itC s.size inn nx P L) P L, .int .i64 (itC s.size inn nx P L)]) ∧ Below u.heap.size u w') := fun T S num inn wr nx id av us P L hc hp hl => indirect_any hc T S num inn wr nx id av us P L hn hs hp hl
  have HWB : Hid (∀ k, 0 ≤ wv s k ∧ wv s k ≤ 4294967295) := fun k => by have := wv_b s k; omega
  have HR0 : Hid (RT w (w.alloc (.cells #[.int .i64 T, .int .i64 S, .bool false] 282)) T S false Bc mb n v [] s) := ⟨heap_new _ _, h.below (bx1 _ _), FrT.of_below (bx1 _ _), h.lt⟩
  have HB0 : Hid (S ≤ 16 ∧ T % 4 = 0 ∧ T + S * 16 ≤ s.size ∧ a ≤ 4294967295) := ⟨hS, hT4, hT, ha⟩
  have HSZ : Hid (s.size ≤ 65536) := hs
  clear h hn hs hS hT4 hT ha
  unfold mv at HRD
  go_enter Try.func222, Try.ntmps222
  go_wp2_with fail
  go_step3
  go_wp2_with fail
  go_step3
  go_wp2_with fail
  generalize (w.alloc (.cells #[.int .i64 T, .int .i64 S, .bool false] 282)) = W0 at *
  go_loopg [2] 1 (fun g s2 wr => ∃ (T' S' a' : Nat) (inn : Bool) (v' : Value) (zs : List BU), s2 = .int .i64 a' ∧ RT w wr T' S' inn Bc mb n v' zs s ∧ Hid (S' ≤ 16 ∧ T' % 4 = 0 ∧ T' + S' * 16 ≤ s.size ∧ a' ≤ 4294967295) ∧ Hid (zs.length ≤ 16 ∧ (inn = false → g = 1 ∧ zs.length = 0)) ∧ Hid (rcR s T S a = rdT s (KK s inn) T' S' S' a' zs))
  case atStart => exact ⟨T, S, a, false, v, [], rfl, HR0.out, HB0, ⟨by simp, fun _ => ⟨rfl, rfl⟩⟩, rfl⟩
  case round =>
    obtain ⟨T', S', a', inn, v', zs, rfl, hrt, HB, HZ, HE⟩ := hrel
    have HRT : Hid _ := hrt
    clear hrt HR0 HB0
    obtain ⟨G, hG⟩ : ∃ G, gk = G := ⟨_, rfl⟩
    rw [hG] at HZ
    go_wp2_with fail
    go_loopg [2, 7] S' (fun g2 s2 s7 wx => ∃ (c a2 : Nat) (v2 : Value) (zs2 : List BU), c + g2 = S' ∧ s2 = .int .i64 a2 ∧ s7 = .int .i64 c ∧ RT w wx T' S' inn Bc mb n v2 zs2 s ∧ a2 ≤ 4294967295 ∧ Hid (zs2.length = zs.length + c) ∧ Hid (rcR s T S a = rdT s (KK s inn) T' S' g2 a2 zs2))
    case atStart => exact ⟨0, a', v', zs, by omega, rfl, rfl, HRT.out, HB.out.2.2.2, rfl, HE⟩
    case round =>
      obtain ⟨c, a2, v2, zs2, hcg, rfl, rfl, hrt, ha2, HZ2, HE2⟩ := hrel
      have HR2 : Hid _ := hrt
      obtain ⟨c0, k0, k1, k2⟩ := hrt.cels
      have ltc := hrt.cr.lt
      have lt1 := hrt.l1
      clear hrt HRT HE
      have hSb : (S' : Int) ≤ 16 := by have := HB.out.1; omega
      have hcb : (c : Int) ≤ (S' : Int) := by omega
      have hab : (a2 : Int) ≤ 4294967295 := by omega
      by_cases hge : S' ≤ a2
      · have hge' : (S' : Int) ≤ (a2 : Int) := by omega
        have EE : Hid (rcR s T S a = (5, [])) := (show rcR s T S a = (5, []) by rw [HE2.out]; cases gk <;> simp [rdT, hge])
        clear HE2
        go_wp2_with fail
        try rw [Exit.noGoto_ret]
        go_ret
        rw [EE.out]
        exact ⟨_, _, rfl, fun h => absurd h (show ¬ (5 : Int) = 0 by decide), HR2.out.cr, HR2.out.fr⟩
      have hge' : ¬ (S' : Int) ≤ (a2 : Int) := by omega
      cases gk with
      | zero =>
        have hcS : (c : Int) = (S' : Int) := by omega
        have EE : Hid (rcR s T S a = (9, [])) := (show rcR s T S a = (9, []) by rw [HE2.out]; simp [rdT, hge])
        clear HE2
        go_wp2_with fail
        try rw [Exit.noGoto_ret]
        go_ret
        rw [EE.out]
        exact ⟨_, _, rfl, fun h => absurd h (show ¬ (9 : Int) = 0 by decide), HR2.out.cr, HR2.out.fr⟩
      | succ g2 =>
        have hcS : ¬ (c : Int) = (S' : Int) := by omega
        have hcl : c < S' := by omega
        have HA1 : Hid _ := fun (u : World) (hm : CR u Bc mb n v2 zs2 s) => HAD.out (T' + a2 * 16) hm (by have := HZ2.out; have := HZ.out.1; have := HB.out.1; omega)
        have HR1 : Hid _ := fun (u : World) hm => HRD.out (T' + a2 * 16) u (by have := HB.out; omega) (by have := HB.out; omega) hm
        have EE : Hid _ := HE2.out
        unfold rdT at EE
        rw [if_neg hge] at EE
        clear HE2
        have HNB : Hid (∃ P L N : Nat, (dAt s (T' + a2 * 16)).pos = P ∧ (dAt s (T' + a2 * 16)).len = L ∧ (dAt s (T' + a2 * 16)).number = N ∧ P ≤ 4294967295 ∧ L ≤ 4294967295 ∧ N ≤ 4294967295) := by
          have b0 := HWB.out (T' + a2 * 16)
          have b1 := HWB.out (T' + a2 * 16 + 4)
          have b2 := HWB.out (T' + a2 * 16 + 12)
          refine ⟨(wv s (T' + a2 * 16)).toNat, (wv s (T' + a2 * 16 + 4)).toNat, (wv s (T' + a2 * 16 + 12)).toNat, ?_, ?_, ?_, by omega, by omega, by omega⟩
          · show wv s (T' + a2 * 16) = _; omega
          · show wv s (T' + a2 * 16 + 4) = _; omega
          · show wv s (T' + a2 * 16 + 12) = _; omega
        have hATb : ((T' + a2 * 16 : Nat) : Int) ≤ 65536 := by have := HB.out; have := HSZ.out; omega
        have hAT : ((T' + a2 * 16 : Nat) : Int) = (T' : Int) + (a2 : Int) * 16 := by omega
        have hTb : (T' : Int) ≤ 65536 := by omega
        rw [hAT] at HR1
        have hw1 : IntKind.i64.wrap ((a2 : Int) * 16) = (a2 : Int) * 16 := by rw [IntKind.wrap_i64]; omega
        have hw2 : IntKind.i64.wrap ((T' : Int) + (a2 : Int) * 16) = (T' : Int) + (a2 : Int) * 16 := by rw [IntKind.wrap_i64]; omega
        generalize dAt s (T' + a2 * 16) = dd at *
        obtain ⟨e1, e2, e3, e4, e5, e6, e7, e8⟩ := dd
        simp only at HNB
        obtain ⟨P, L, NM, rfl, rfl, rfl, hPb, hLb, hNb⟩ := HNB.out
        clear HNB HWB
        unfold bf at HA1 EE
        unfold dA at HR1
        unfold buA at HA1
        simp only [Int.toNat_natCast] at HA1 EE HR1
        clear HRD HAD hge
        go_upto_region 7 with fail
        go_cut [8] (fun s8 wc => ∃ B3, s8 = .pointer (some ⟨B3, 0, none⟩) ∧ RTD w wc T' S' inn Bc mb n v2 zs2 s B3 #[.int .i64 P, .int .i64 L, .bool e3, .bool e4, .bool e5, .bool e6, .bool e7, .int .i64 NM])
        case first =>
          have HXR : Hid (RT w wr.drew T' S' inn Bc mb n v2 zs2 s) := HR2.out.step ((Below.refl _ _).drew)
          have HK : Hid _ := HXR.out.cels
          clear c0 k0 k1 k2
          have ltX : Bc < wr.drew.heap.size := ltc
          refine wp_region_held (S := fun w' => w'.cell? ⟨Bc, 0, none⟩ = some (.slice (some ⟨mb, 0, none⟩) n n) ∧ w'.cell? ⟨w.heap.size, 0, none⟩ = some (.int .i64 T') ∧ w'.cell? ⟨w.heap.size, 1, none⟩ = some (.int .i64 S') ∧ w'.cell? ⟨w.heap.size, 2, none⟩ = some (.bool inn)) (by kernel_rfl) ?_
          change wpAnyH _ _ _ _ _ _ _ _ (World.drew _)
          generalize wr.drew = X at *
          refine wpAnyH_take (i := 0) (v := .pointer (some ⟨Bc, 0, none⟩)) rfl (by kernel_rfl) (by kernel_rfl) (by kernel_rfl) (fun _ _ _ h => h) (Or.inl ⟨by kernel_rfl, fun w9 h9 => ?_⟩) HK.out ?_
          · clear h9
            go_simp
          refine wpAnyH_take (i := 1) (v := .pointer (some ⟨Bc, 0, none⟩)) rfl (by kernel_rfl) (by kernel_rfl) (by kernel_rfl) (fun _ _ _ h => h) (Or.inl ⟨by kernel_rfl, fun w9 h9 => ?_⟩) HK.out ?_
          · clear h9
            go_simp
          refine wpAnyH_take (i := 2) (v := .pointer (some ⟨Bc, 0, none⟩)) rfl (by kernel_rfl) (by kernel_rfl) (by kernel_rfl) (fun _ _ _ h => h) (Or.inl ⟨by kernel_rfl, fun w9 h9 => ?_⟩) HK.out ?_
          · clear h9
            go_simp
          refine wpAnyH_take (i := 3) (v := .slice (some ⟨mb, 0, none⟩) n n) rfl (by kernel_rfl) (by kernel_rfl) (by kernel_rfl) (fun _ _ _ h => h) (Or.inl ⟨by kernel_rfl, fun w9 h9 => ?_⟩) HK.out ?_
          · obtain ⟨d0, d1, d2, d3⟩ := h9
            go_simp
          refine wpAnyH_take (i := 4) (v := .pointer (some ⟨w.heap.size, 0, none⟩)) rfl (by kernel_rfl) (by kernel_rfl) (by kernel_rfl) (fun _ _ _ h => h) (Or.inl ⟨by kernel_rfl, fun w9 h9 => ?_⟩) HK.out ?_
          · clear h9
            go_simp
          refine wpAnyH_take (i := 5) (v := .int .i64 T') rfl (by kernel_rfl) (by kernel_rfl) (by kernel_rfl) (fun _ _ _ h => h) (Or.inl ⟨by kernel_rfl, fun w9 h9 => ?_⟩) HK.out ?_
          · obtain ⟨d0, d1, d2, d3⟩ := h9
            go_simp
          refine wpAnyH_take (i := 6) (v := .int .i64 a2) rfl (by kernel_rfl) (by kernel_rfl) (by kernel_rfl) (fun _ _ _ h => h) (Or.inl ⟨by kernel_rfl, fun w9 h9 => ?_⟩) HK.out ?_
          · clear h9
            go_simp
          refine wpAnyH_take (i := 7) (v := .int .i64 ((a2 : Int) * 16)) rfl (by kernel_rfl) (by kernel_rfl) (by kernel_rfl) (fun _ _ _ h => h) (Or.inl ⟨by kernel_rfl, fun w9 h9 => ?_⟩) HK.out ?_
          · clear h9
            go_simp
          refine wpAnyH_take (i := 8) (v := .int .i64 ((T' : Int) + (a2 : Int) * 16)) rfl (by kernel_rfl) (by kernel_rfl) (by kernel_rfl) (fun _ _ _ h => h) (Or.inl ⟨by kernel_rfl, fun w9 h9 => ?_⟩) HK.out ?_
          · clear h9
            go_simp
          refine wpAnyH_all (rs := [9, 10]) (by kernel_rfl) (by simp) (all_two (held_step rfl (by kernel_rfl) fun K hK => ?_) (held_step rfl (by kernel_rfl) fun K hK => ?_))
          · go_simp
            refine Calls.mono (HR1.out _ HXR.out.cr.mem) ?_
            rintro e y2 ⟨rfl, hu⟩
            have H2 : Hid _ := HXR.out.step hu
            clear hu
            go_simp
            refine hK _ _ H2.out.cels ?_
            clear hK K
            refine held_one 10 (by kernel_rfl) rfl (by kernel_rfl) fun K hK => ?_
            go_simp
            have H3 : Hid _ := RTD.new H2.out #[.int .i64 0, .int .i64 0, .bool false, .bool false, .bool false, .bool false, .bool false, .int .i64 0]
            refine hK _ _ H3.out.rt.cels ?_
            clear hK K
            generalize (y2.alloc (.cells #[.int .i64 0, .int .i64 0, .bool false, .bool false, .bool false, .bool false, .bool false, .int .i64 0] 287)) = V at *
            generalize y2.heap.size = B3 at *
            have HP : Hid _ := (((((((H3.out.put 0 (.int .i64 P)).put 1 (.int .i64 L)).put 2 (.bool e3)).put 3 (.bool e4)).put 4 (.bool e5)).put 5 (.bool e6)).put 6 (.bool e7)).put 7 (.int .i64 NM)
            have z0 := bC H3.out.box 0 _ rfl
            have z1 := bC H3.out.box 1 _ rfl
            have z2 := bC H3.out.box 2 _ rfl
            have z3 := bC H3.out.box 3 _ rfl
            have z4 := bC H3.out.box 4 _ rfl
            have z5 := bC H3.out.box 5 _ rfl
            have z6 := bC H3.out.box 6 _ rfl
            have z7 := bC H3.out.box 7 _ rfl
            have zf := fun k => bF H3.out.box k
            have zl := H3.out.lt
            refine held_one 11 (by kernel_rfl) rfl (by kernel_rfl) fun K hK => ?_
            go_simp
            refine hK _ _ HP.out.rt.cels ?_
            clear hK K
            refine wpAnyH_done (by kernel_rfl) ?_ _
            go_simp
            go_wp2_with fail
            go_meet
            case rel => exact ⟨_, rfl, HP.out⟩
          · go_simp
            have H3 : Hid _ := RTD.new HXR.out #[.int .i64 0, .int .i64 0, .bool false, .bool false, .bool false, .bool false, .bool false, .int .i64 0]
            refine hK _ _ H3.out.rt.cels ?_
            clear hK K
            refine held_one 9 (by kernel_rfl) rfl (by kernel_rfl) fun K hK => ?_
            go_simp
            refine Calls.mono (HR1.out _ H3.out.rt.cr.mem) ?_
            rintro e y2 ⟨rfl, hu⟩
            have H4 : Hid _ := H3.out.step hu
            clear hu
            go_simp
            refine hK _ _ H4.out.rt.cels ?_
            clear hK K
            have HP : Hid _ := (((((((H4.out.put 0 (.int .i64 P)).put 1 (.int .i64 L)).put 2 (.bool e3)).put 3 (.bool e4)).put 4 (.bool e5)).put 5 (.bool e6)).put 6 (.bool e7)).put 7 (.int .i64 NM)
            have z0 := bC H4.out.box 0 _ rfl
            have z1 := bC H4.out.box 1 _ rfl
            have z2 := bC H4.out.box 2 _ rfl
            have z3 := bC H4.out.box 3 _ rfl
            have z4 := bC H4.out.box 4 _ rfl
            have z5 := bC H4.out.box 5 _ rfl
            have z6 := bC H4.out.box 6 _ rfl
            have z7 := bC H4.out.box 7 _ rfl
            have zf := fun k => bF H4.out.box k
            have zl := H4.out.lt
            refine held_one 11 (by kernel_rfl) rfl (by kernel_rfl) fun K hK => ?_
            go_simp
            refine hK _ _ HP.out.rt.cels ?_
            clear hK K
            refine wpAnyH_done (by kernel_rfl) ?_ _
            go_simp
            go_wp2_with fail
            go_meet
            case rel => exact ⟨_, rfl, HP.out⟩
        case rest =>
          obtain ⟨B3, rfl, hrd⟩ := hcut
          have HD3 : Hid _ := hrd
          clear hrd HR2 c0 k0 k1 k2 ltc lt1 HR1
          have z0 := bC HD3.out.box 0 _ rfl
          have z1 := bC HD3.out.box 1 _ rfl
          have z2 := bC HD3.out.box 2 _ rfl
          have z3 := bC HD3.out.box 3 _ rfl
          have z4 := bC HD3.out.box 4 _ rfl
          have z5 := bC HD3.out.box 5 _ rfl
          have z6 := bC HD3.out.box 6 _ rfl
          have z7 := bC HD3.out.box 7 _ rfl
          have zf := fun k => bF HD3.out.box k
          have zl := HD3.out.lt
          have l1 := HD3.out.rt.l1
          obtain ⟨c0, k0, k1, k2⟩ := HD3.out.rt.cels
          cases e5
          case true =>
            rw [if_pos rfl] at EE
            unfold KK at EE
            simp only [Int.toNat_natCast] at EE
            have HI1 : Hid _ := HIT.out (T' : Int) (S' : Int) (NM : Int) inn e3 e4 true e6 e7 P L HD3.out.rt.cr hPb hLb
            clear HIT HA1
            by_cases hit : itC s.size inn e4 P L = 0
            · have HOK : Hid _ := itC_ok hit
              rw [hit] at HI1
              rw [if_pos hit] at EE
              rw [show itA 0 P L = .agg #[.int .i64 P, .int .i64 ((L / 16 : Nat) : Int), .bool true] from rfl] at HI1
              clear hit
              have HL16 : Hid (L % 16 = 0) := HOK.out.2.2.2.1
              have HPL : Hid (P + L / 16 * 16 ≤ s.size) := (show P + L / 16 * 16 ≤ s.size by have := HOK.out; omega)
              generalize hQ : L / 16 = Q at *
              go_wp2_with fail
              refine Calls.mono HI1.out ?_
              rintro e y3 ⟨rfl, hu⟩
              have HD4 : Hid _ := (HD3.out.step hu).rt.step (bx1 y3 (.cells #[.int .i64 P, .int .i64 (Q : Int), .bool true] 282))
              have HX4 : Hid ((y3.alloc (.cells #[.int .i64 P, .int .i64 (Q : Int), .bool true] 282)).heap[y3.heap.size]? = some (.cells #[.int .i64 P, .int .i64 (Q : Int), .bool true] 282 (0, 0))) := heap_new _ _
              clear hu HD3 z0 z1 z2 z3 z4 z5 z6 z7 zf zl l1 c0 k0 k1 k2 HI1
              go_upto_region 10 with fail
              generalize (y3.alloc (.cells #[.int .i64 P, .int .i64 (Q : Int), .bool true] 282)) = y4 at *
              generalize y3.heap.size = B4 at *
              have HD5 : Hid _ := HD4.out.to P Q true
              have l1 := HD4.out.l1
              obtain ⟨c0, k0, k1, k2⟩ := HD4.out.cels
              have kf := fun k => bF HD4.out.b1 k
              have x0 := bC HX4.out 0 _ rfl
              have x1 := bC HX4.out 1 _ rfl
              have x2 := bC HX4.out 2 _ rfl
              go_wp2_with fail
              go_roundg 0
              case measure => have := (HZ.out.2 HOK.out.1).1; omega
              case rel =>
                refine ⟨P, Q, 0, true, v2, zs2, rfl, HD5.out, ⟨HOK.out.2.2.2.2.1, HOK.out.2.2.1, HPL.out, by omega⟩, ⟨by have := HZ2.out; have := (HZ.out.2 HOK.out.1).2; have := HB.out.1; omega, fun h => absurd h (by decide)⟩, ?_⟩
                rw [KK_true]
                exact EE
            · rw [if_neg hit] at EE
              rw [show itA (itC s.size inn e4 P L) P L = .agg #[.int .i64 0, .int .i64 0, .bool false] from if_neg hit] at HI1
              generalize itC s.size inn e4 P L = IC at *
              have hb2 : (IC != 0) = true := by simp [hit]
              have HIC : Hid _ := hit
              clear hit
              go_wp2_with fail
              refine Calls.mono HI1.out ?_
              rintro e y3 ⟨rfl, hu⟩
              have HD4 : Hid _ := (HD3.out.step hu).rt.step (bx1 y3 (.cells #[.int .i64 0, .int .i64 0, .bool false] 282))
              clear hu HD3 z0 z1 z2 z3 z4 z5 z6 z7 zf zl l1 c0 k0 k1 k2 HI1
              go_wp2_with fail
              try rw [Exit.noGoto_ret]
              go_ret
              rw [EE.out]
              exact ⟨_, _, rfl, fun h => absurd h HIC.out, HD4.out.cr, HD4.out.fr⟩
          case false =>
            rw [if_neg (by simp)] at EE
            clear HIT
            go_wp2_with fail
            refine Calls.mono (HA1.out _ HD3.out.rt.cr) ?_
            rintro e y3 ⟨rfl, v3, hcr, hfr⟩
            have HD4 : Hid _ := HD3.out.add hcr hfr
            clear hcr hfr HD3 z0 z1 z2 z3 z4 z5 z6 z7 zf zl l1 c0 k0 k1 k2 HA1
            have z0 := bC HD4.out.box 0 _ rfl
            have z1 := bC HD4.out.box 1 _ rfl
            have z2 := bC HD4.out.box 2 _ rfl
            have z3 := bC HD4.out.box 3 _ rfl
            have z4 := bC HD4.out.box 4 _ rfl
            have z5 := bC HD4.out.box 5 _ rfl
            have z6 := bC HD4.out.box 6 _ rfl
            have z7 := bC HD4.out.box 7 _ rfl
            have zf := fun k => bF HD4.out.box k
            have zl := HD4.out.lt
            have HZZ : Hid (adZ s zs2 ⟨P, L, e3⟩ = if adC s zs2 ⟨P, L, e3⟩ = 0 then zs2 ++ [⟨P, L, e3⟩] else zs2) := rfl
            generalize adC s zs2 ⟨P, L, e3⟩ = AC at *
            by_cases hac : AC = 0
            · subst hac
              rw [if_pos rfl] at EE HZZ
              rw [HZZ.out] at HD4
              clear HZZ
              cases e4
              · rw [if_neg (by simp)] at EE
                go_wp2_with fail
                try rw [Exit.noGoto_ret]
                go_ret
                rw [EE.out]
                exact ⟨_, _, rfl, fun _ => rfl, HD4.out.rt.cr, HD4.out.rt.fr⟩
              · rw [if_pos rfl] at EE
                go_wp2_with fail
                go_roundg g2
                case measure => omega
                case rel => exact ⟨c + 1, NM, v3, zs2 ++ [⟨P, L, e3⟩], by omega, rfl, by simp, HD4.out.rt, hNb, by have := HZ2.out; show _ = _; simp; omega, EE⟩
            · rw [if_neg hac] at EE HZZ
              rw [HZZ.out] at HD4
              clear HZZ
              have hb2 : (AC != 0) = true := by simp [hac]
              have HAC : Hid _ := hac
              clear hac
              go_wp2_with fail
              try rw [Exit.noGoto_ret]
              go_ret
              rw [EE.out]
              exact ⟨_, _, rfl, fun h => absurd h HAC.out, HD4.out.rt.cr, HD4.out.rt.fr⟩
end Go.Proofs.Ythhbfghbpapklab
