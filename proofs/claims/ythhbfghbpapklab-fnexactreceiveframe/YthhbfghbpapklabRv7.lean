import Derived.Test.YthhbfghbpapklabRv6
namespace Go.Proofs.Ythhbfghbpapklab
open Go.ChangeShapes Go.WideShapes Go.ChangeAt Go.RowKit

set_option maxRecDepth 100000
theorem S3.oth {w u : World} {S D A U T G : Int} {B3 B : Nat} {cs : Array Value} (h : S3 w u S D A U T G B3 cs) (hB : w.heap.size + 1 < B) (hn : B3 ≠ B) (o : Nat) (x : Value) : S3 w (u.setCell ⟨B, o, none⟩ x) S D A U T G B3 cs :=
  ⟨⟨h.tb.bel.setCell (by simp; omega) _, (Below.heap_setCell _ _ _ _ (by simp; omega)).trans h.tb.b1, (Below.heap_setCell _ _ _ _ (by simp; omega)).trans h.tb.b2⟩, (Below.heap_setCell _ _ _ _ (by simp; omega)).trans h.bx, h.ge⟩
set_option maxHeartbeats 4000000 in
theorem specRV_good (s f : ByteArray) (S D A U T G : Nat) (hp : qOk s ⟨S, D, A, U, T, G⟩ = true) (hf : f.size ≤ 1500) : AnsV 9 s ⟨S, D, A, U, T, G⟩ f (if (rvR s S D A U T G false f).1 = 0 then (0, (rvR s S D A U T G false f).2.1, (rvR s S D A U T G false f).2.2.1, 1, (rvR s S D A U T G false f).2.2.2) else svC (rvR s S D A U T G false f).1) := by
  intro w
  obtain ⟨hm, hz, ⟨t0, t1⟩, ⟨g0, g1⟩, ⟨b1, b2, b3⟩, ⟨c1, c2, c3⟩, ⟨e1, e2, e3⟩⟩ := qOk_b hp
  obtain ⟨m1, m2, m3⟩ := memOk_b hm
  simp only at hz b1 b2 b3 c1 c2 c3 e1 e2 e3 t0 t1 g0 g1
  have hS : 1 ≤ S ∧ S ≤ 16 := by unfold szB at hz; simp at hz; omega
  have hd1 : decide (65536 < (f.size : Int)) = false := decide_eq_false (by omega)
  have hd2 : decide (65536 < (s.size : Int)) = false := decide_eq_false (by omega)
  have hd3 : decide ((1500 : Int) < (f.size : Int)) = false := decide_eq_false (by omega)
  have HQ : Hid _ := fun u => specQueueFault_any s ⟨S, D, A, U, T, G⟩ u (by omega)
  rw [qF_ok hp] at HQ
  have HTC : Hid _ := specTC_good s S D A T U G hp
  have HRE : Hid (∀ c h p zs, tcR s S D A T U G = (c, h, p, zs) → rvR s S D A U T G false f = if c = 0 then (if rmS zs < f.size then (4, s, ⟨S, D, A, U, T, G⟩, false) else (0, gcM (spK s f zs zs.length).1 S U G h f.size, ⟨S, D, A, U, ((T + 1) % 65536 : Nat), ((G + 1) % 65536 : Nat)⟩, (wv (gcM (spK s f zs zs.length).1 S U G h f.size) A % 2 == 0))) else (c, s, ⟨S, D, A, U, T, G⟩, false)) := fun c h p zs hq => by unfold rvR; rw [hq, Bool.false_or]
  have HOK : Hid (∀ h p zs, tcR s S D A T U G = (0, h, p, zs) → p = ⟨S, D, A, U, ((T + 1) % 65536 : Nat), G⟩ ∧ (∀ z ∈ zs, 0 ≤ z.len ∧ z.len ≤ 65536) ∧ zs.length ≤ 32 ∧ spV s zs f = (spK s f zs zs.length).1 ∧ (∀ x : World, Calls Try.prog 43 #[.string (spK s f zs zs.length).1, qA ⟨S, D, A, U, ((T + 1) % 65536 : Nat), G⟩, .int .i64 h, .int .i64 f.size] x fun e w' => e = .returned (gcA 0 (gcM (spK s f zs zs.length).1 S U G h f.size) ⟨S, D, A, U, ((T + 1) % 65536 : Nat), (((G + 1) % 65536 : Nat) : Int)⟩ (wv (gcM (spK s f zs zs.length).1 S U G h f.size) A % 2 == 0)) ∧ Below x.heap.size x w')) := fun h p zs hq => by
    obtain ⟨h1, h2, h3, h4⟩ := tcR_ok hq
    refine ⟨h1, fun z hz => inW_len (h3 z hz) m2, by omega, ?_, fun x => ?_⟩
    · unfold spV
      rw [if_neg (by omega), if_pos (bsB_of hm (by omega) h3)]
    · have hk := (spK_size s f zs s.size rfl (fun j hj => h3 _ (List.getElem_mem hj)) zs.length (Nat.le_refl _)).1
      refine specGC_good (spK s f zs zs.length).1 S D A U ((T + 1) % 65536) G h f.size x (qOk_sz hp hk (by omega)) ?_
      unfold gcB
      rw [h2, Bool.true_and]
      unfold wdB
      simp
      omega
  have HSP : Hid _ := fun (x : World) (v : Value) (zs : List BU) (h : BUrow x v zs) (hl : zs.length ≤ 32) => specSpread_any s f h (by omega) (by omega) (by omega)
  have HRM : Hid _ := fun (x : World) (v : Value) (zs : List BU) (h : BUrow x v zs) (hz : ∀ z ∈ zs, 0 ≤ z.len ∧ z.len ≤ 65536) (hl : zs.length ≤ 32) => l11Room_any h hz (by omega)
  have hfb : (f.size : Int) ≤ 1500 := by omega
  generalize rvR s S D A U T G false f = RR at *
  obtain ⟨TT, hTT⟩ : ∃ TT, tcR s S D A T U G = TT := ⟨_, rfl⟩
  rw [hTT] at HTC HOK HRE
  obtain ⟨tc, th, ⟨p0, p1, p2, p3, p4, p5⟩, tz⟩ := TT
  have HR1 : Hid _ := HRE.out tc th ⟨p0, p1, p2, p3, p4, p5⟩ tz rfl
  have HO1 : Hid _ := fun (h0 : tc = 0) => HOK.out th ⟨p0, p1, p2, p3, p4, p5⟩ tz (by rw [h0])
  clear HOK
  generalize (spK s f tz tz.length).1 = M1 at *
  generalize gcM M1 S U G th f.size = M2 at *
  generalize (wv M2 A % 2 == 0) = bt at *
  generalize (((T + 1) % 65536 : Nat) : Int) = T2 at *
  generalize (((G + 1) % 65536 : Nat) : Int) = G2 at *
  clear HRE hTT hp hf hm hz t0 t1 g0 g1 b1 b2 b3 c1 c2 c3 e1 e2 e3 m1 m2 m3 hS
  unfold qA at HQ HTC HO1 ⊢
  unfold tcA at HTC
  unfold svV svC svA q00
  unfold gcA at HO1
  simp only at HQ HTC HO1 ⊢
  have HX0 : Hid (TwoBx w ((w.alloc (.cells #[.int .i64 S, .int .i64 D, .int .i64 A, .int .i64 U, .int .i64 T, .int .i64 G] 24)).alloc (.cells #[.int .i64 0, .string ⟨#[]⟩, .int .i64 0, .int .i64 0, .int .i64 0, .int .i64 0, .int .i64 0, .int .i64 0, .string ⟨#[]⟩, .int .i64 0, .bool false] 26)) #[.int .i64 S, .int .i64 D, .int .i64 A, .int .i64 U, .int .i64 T, .int .i64 G] 24 #[.int .i64 0, .string ⟨#[]⟩, .int .i64 0, .int .i64 0, .int .i64 0, .int .i64 0, .int .i64 0, .int .i64 0, .string ⟨#[]⟩, .int .i64 0, .bool false] 26) := TwoBx.of _ _ _ _ _ (Below.refl _ _)
  go_enter Try.func9, Try.ntmps9
  go_upto_region 1 with fail
  generalize ((w.alloc (.cells #[.int .i64 S, .int .i64 D, .int .i64 A, .int .i64 U, .int .i64 T, .int .i64 G] 24)).alloc (.cells #[.int .i64 0, .string ⟨#[]⟩, .int .i64 0, .int .i64 0, .int .i64 0, .int .i64 0, .int .i64 0, .int .i64 0, .string ⟨#[]⟩, .int .i64 0, .bool false] 26)) = W0 at *
  have k0 := HX0.out.c1 0 _ rfl
  have k1 := HX0.out.c1 1 _ rfl
  have k2 := HX0.out.c1 2 _ rfl
  have k3 := HX0.out.c1 3 _ rfl
  have k4 := HX0.out.c1 4 _ rfl
  have k5 := HX0.out.c1 5 _ rfl
  go_upto_region 5 with (go_at_call 40; refine Calls.mono (HQ.out _) ?_; rintro e u1 ⟨rfl, hu1⟩; have HX1 : Hid _ := HX0.out.step hu1; clear hu1 k0 k1 k2 k3 k4 k5)
  clear HQ HX0 hd1 hd2 hd3
  go_cut [7] (fun s7 wc => ∃ B3 ao cap, s7 = .pointer (some ⟨B3, 0, none⟩) ∧ S3 w wc S D A U T G B3 #[.int .i64 tc, .int .i64 th, .slice ao tz.length cap, .int .i64 p0, .int .i64 p1, .int .i64 p2, .int .i64 p3, .int .i64 p4, .int .i64 p5] ∧ wc.ownsRow w.heap.size 153 3 (.slice ao tz.length cap) tz.length (buR tz))
  case first =>
    have k0 := HX1.out.c1 0 _ rfl
    have k1 := HX1.out.c1 1 _ rfl
    have k2 := HX1.out.c1 2 _ rfl
    have k3 := HX1.out.c1 3 _ rfl
    have k4 := HX1.out.c1 4 _ rfl
    have k5 := HX1.out.c1 5 _ rfl
    go_wp2_with (go_at_call 41; refine Calls.mono (HTC.out _) ?_; rintro e y2 ⟨v, rfl, ho, hu⟩; obtain ⟨ao, cap, rfl⟩ := bu_sl ho; have HX2 : Hid _ := HX1.out.step hu; have HO2 : Hid (y2.ownsRow w.heap.size 153 3 (.slice ao tz.length cap) tz.length (buR tz)) := bu_weak ho HX1.out.bel.size; clear ho hu k0 k1 k2 k3 k4 k5)
    go_meet
    case rel =>
      exact ⟨_, ao, cap, rfl, ⟨HX2.out.step (bx1 _ _), heap_new _ _, HX2.out.lt2⟩, bu_below HO2.out (bx1 _ _)⟩
  case rest =>
    obtain ⟨B3, ao, cap, rfl, hs3, hrow⟩ := hcut
    have HV : Hid _ := hs3
    have HO : Hid _ := hrow
    clear hs3 hrow HTC HX1
    have z0 := bC HV.out.bx 0 (.int .i64 tc) rfl
    have z1 := bC HV.out.bx 1 (.int .i64 th) rfl
    have z2 := bC HV.out.bx 2 (.slice ao tz.length cap) rfl
    have z3 := bC HV.out.bx 3 (.int .i64 p0) rfl
    have z4 := bC HV.out.bx 4 (.int .i64 p1) rfl
    have z5 := bC HV.out.bx 5 (.int .i64 p2) rfl
    have z6 := bC HV.out.bx 6 (.int .i64 p3) rfl
    have z7 := bC HV.out.bx 7 (.int .i64 p4) rfl
    have z8 := bC HV.out.bx 8 (.int .i64 p5) rfl
    have zl := HV.out.lt
    by_cases htc : tc = 0
    · subst htc
      rw [if_pos rfl] at HR1
      obtain ⟨hp9, hz9, hl9, hsp9, hgc9⟩ := HO1.out rfl
      injection hp9 with hq0 hq1 hq2 hq3 hq4 hq5
      have HL9 : Hid _ := hl9
      have HZ9 : Hid _ := hz9
      have HSE : Hid _ := hsp9
      have HGC : Hid _ := hgc9
      have HTE : Hid _ := hq4
      subst hq0 hq1 hq2 hq3 hq4 hq5
      clear hz9 hl9 hsp9 hgc9
      have HRM1 : Hid _ := HRM.out _ _ _ (BUrow.of HO.out) HZ9.out HL9.out
      clear HRM
      by_cases hrm : rmS tz < (f.size : Int)
      · rw [if_pos hrm] at HR1
        obtain rfl := HR1.out
        go_wp2_with (go_at_call 42; refine Calls.mono HRM1.out ?_; rintro e y2 ⟨rfl, hu⟩; have HV2 : Hid _ := HV.out.step hu; clear hu; have r0 := HV2.out.tb.c2 0 _ rfl; have r1 := HV2.out.tb.c2 1 _ rfl; have r2 := HV2.out.tb.c2 2 _ rfl; have r3 := HV2.out.tb.c2 3 _ rfl; have r4 := HV2.out.tb.c2 4 _ rfl; have r5 := HV2.out.tb.c2 5 _ rfl; have r6 := HV2.out.tb.c2 6 _ rfl; have r7 := HV2.out.tb.c2 7 _ rfl; have r8 := HV2.out.tb.c2 8 _ rfl; have r9 := HV2.out.tb.c2 9 _ rfl; have r10 := HV2.out.tb.c2 10 _ rfl; have rf := fun k => HV2.out.tb.f2 k; have rl := HV2.out.tb.lt2)
        refine bodyPost_ret (v := .agg #[.int .i64 4, .string ⟨#[]⟩, .int .i64 0, .int .i64 0, .int .i64 0, .int .i64 0, .int .i64 0, .int .i64 0, .string ⟨#[]⟩, .int .i64 0, .bool false]) ?_ rfl ⟨by first | rfl | simp, ?_⟩
        · simp [results, Try.results9, go_sem, r0, r1, r2, r3, r4, r5, r6, r7, r8, r9, r10]
        · exact (((((((((((HV2.out.tb.bel.setCell (by simp) _).setCell (by simp) _).setCell (by simp) _).setCell (by simp) _).setCell (by simp) _).setCell (by simp) _).setCell (by simp) _).setCell (by simp) _).setCell (by simp) _).setCell (by simp) _).setCell (by simp) _)
      · rw [if_neg hrm] at HR1
        obtain rfl := HR1.out
        have HSP1 : Hid (∀ x : World, BUrow x (.slice ao tz.length cap) tz → Calls Try.prog 44 #[.string s, .slice ao tz.length cap, .string f] x fun e w' => e = .returned (.string M1) ∧ Below x.heap.size x w') := fun x h => by
          have h9 := HSP.out x _ tz h HL9.out
          rw [HSE.out] at h9
          exact h9
        clear HSP HSE HL9 HZ9 HR1 HTE
        go_upto_region 10 with (go_at_call 42; refine Calls.mono HRM1.out ?_; rintro e y2 ⟨rfl, hu⟩; have HV2 : Hid _ := HV.out.step hu; have HO2 : Hid _ := bu_below HO.out hu; clear hu)
        clear HRM1 z0 z1 z2 z3 z4 z5 z6 z7 z8 zl HV HO
        go_cut [8] (fun s8 wc => ∃ B8, s8 = .pointer (some ⟨B8, 0, none⟩) ∧ TwoBx w wc #[.int .i64 S, .int .i64 D, .int .i64 A, .int .i64 U, .int .i64 T, .int .i64 G] 24 #[.int .i64 0, .string ⟨#[]⟩, .int .i64 0, .int .i64 0, .int .i64 0, .int .i64 0, .int .i64 0, .int .i64 0, .string ⟨#[]⟩, .int .i64 0, .bool false] 26 ∧ wc.heap[B8]? = some (.cells #[.int .i64 0, .string M2, .int .i64 S, .int .i64 D, .int .i64 A, .int .i64 U, .int .i64 p4, .int .i64 G2, .bool bt] 80 (0, 0)))
        case first =>
          have HV0 : Hid _ := HV2.out.step ((Below.refl _ _).drew)
          have HO0 : Hid _ := bu_below HO2.out ((Below.refl _ _).drew)
          refine wp_region_held (S := fun w' => w'.cell? ⟨B3, 0, none⟩ = some (.int .i64 0) ∧ w'.cell? ⟨B3, 1, none⟩ = some (.int .i64 th) ∧ w'.cell? ⟨B3, 2, none⟩ = some (.slice ao tz.length cap) ∧ w'.cell? ⟨B3, 3, none⟩ = some (.int .i64 S) ∧ w'.cell? ⟨B3, 4, none⟩ = some (.int .i64 D) ∧ w'.cell? ⟨B3, 5, none⟩ = some (.int .i64 A) ∧ w'.cell? ⟨B3, 6, none⟩ = some (.int .i64 U) ∧ w'.cell? ⟨B3, 7, none⟩ = some (.int .i64 p4) ∧ w'.cell? ⟨B3, 8, none⟩ = some (.int .i64 G)) (by kernel_rfl) ?_
          change wpAnyH _ _ _ _ _ _ _ _ (World.drew _)
          generalize y2.drew = Y0 at *
          clear HV2 HO2
          have HK : Hid _ := HV0.out.nine
          refine wpAnyH_take (i := 0) (v := .string s) rfl (by kernel_rfl) (by kernel_rfl) (by kernel_rfl) (fun _ _ _ h => h) (Or.inl ⟨by kernel_rfl, fun w9 h9 => ?_⟩) HK.out ?_
          · clear h9
            go_simp
          refine wpAnyH_take (i := 1) (v := .pointer (some ⟨B3, 2, none⟩)) rfl (by kernel_rfl) (by kernel_rfl) (by kernel_rfl) (fun _ _ _ h => h) (Or.inl ⟨by kernel_rfl, fun w9 h9 => ?_⟩) HK.out ?_
          · clear h9
            go_simp
          refine wpAnyH_take (i := 2) (v := .slice ao tz.length cap) rfl (by kernel_rfl) (by kernel_rfl) (by kernel_rfl) (fun _ _ _ h => h) (Or.inl ⟨by kernel_rfl, fun w9 h9 => ?_⟩) HK.out ?_
          · obtain ⟨d0, d1, d2, d3, d4, d5, d6, d7, d8⟩ := h9
            go_simp
          refine wpAnyH_take (i := 3) (v := .string f) rfl (by kernel_rfl) (by kernel_rfl) (by kernel_rfl) (fun _ _ _ h => h) (Or.inl ⟨by kernel_rfl, fun w9 h9 => ?_⟩) HK.out ?_
          · clear h9
            go_simp
          refine wpAnyH_take (i := 5) (v := .pointer (some ⟨B3, 3, none⟩)) rfl (by kernel_rfl) (by kernel_rfl) (by kernel_rfl) (fun _ _ _ h => h) (Or.inl ⟨by kernel_rfl, fun w9 h9 => ?_⟩) HK.out ?_
          · clear h9
            go_simp
          refine wpAnyH_take (i := 6) (v := .agg #[.int .i64 S, .int .i64 D, .int .i64 A, .int .i64 U, .int .i64 p4, .int .i64 G]) rfl (by kernel_rfl) (by kernel_rfl) (by kernel_rfl) (fun _ _ _ h => h) (Or.inl ⟨by kernel_rfl, fun w9 h9 => ?_⟩) HK.out ?_
          · obtain ⟨d0, d1, d2, d3, d4, d5, d6, d7, d8⟩ := h9
            go_simp
          refine wpAnyH_take (i := 7) (v := .pointer (some ⟨B3, 1, none⟩)) rfl (by kernel_rfl) (by kernel_rfl) (by kernel_rfl) (fun _ _ _ h => h) (Or.inl ⟨by kernel_rfl, fun w9 h9 => ?_⟩) HK.out ?_
          · clear h9
            go_simp
          refine wpAnyH_take (i := 8) (v := .int .i64 th) rfl (by kernel_rfl) (by kernel_rfl) (by kernel_rfl) (fun _ _ _ h => h) (Or.inl ⟨by kernel_rfl, fun w9 h9 => ?_⟩) HK.out ?_
          · obtain ⟨d0, d1, d2, d3, d4, d5, d6, d7, d8⟩ := h9
            go_simp
          refine wpAnyH_take (i := 9) (v := .string f) rfl (by kernel_rfl) (by kernel_rfl) (by kernel_rfl) (fun _ _ _ h => h) (Or.inl ⟨by kernel_rfl, fun w9 h9 => ?_⟩) HK.out ?_
          · clear h9
            go_simp
          refine wpAnyH_take (i := 10) (v := .int .i64 f.size) rfl (by kernel_rfl) (by kernel_rfl) (by kernel_rfl) (fun _ _ _ h => h) (Or.inl ⟨by kernel_rfl, fun w9 h9 => ?_⟩) HK.out ?_
          · clear h9
            go_simp
          refine wpAnyH_all (rs := [4, 12]) (by kernel_rfl) (by simp) (all_two (held_step rfl (by kernel_rfl) fun K hK => ?_) (held_step rfl (by kernel_rfl) fun K hK => ?_))
          · go_simp
            refine Calls.mono (HSP1.out _ (BUrow.of HO0.out)) ?_
            rintro e Y1 ⟨rfl, hu⟩
            have HV1 : Hid _ := HV0.out.step hu
            have HO1 : Hid _ := bu_below HO0.out hu
            clear hu
            go_simp
            refine hK _ _ HV1.out.nine ?_
            clear hK K
            refine wpAnyH_all (rs := [11, 12]) (by kernel_rfl) (by simp) (all_two (held_step rfl (by kernel_rfl) fun K hK => ?_) (held_step rfl (by kernel_rfl) fun K hK => ?_))
            · go_simp
              refine Calls.mono (HGC.out _) ?_
              rintro e Y2 ⟨rfl, hu⟩
              have HV2 : Hid _ := HV1.out.step hu
              have HO2 : Hid _ := bu_below HO1.out hu
              clear hu
              go_simp
              refine hK _ _ HV2.out.nine ?_
              clear hK K
              refine held_one 12 (by kernel_rfl) rfl (by kernel_rfl) fun K hK => ?_
              go_simp
              have HV3 : Hid _ := HV2.out.step (bx1 Y2 (.cells #[.int .i64 0, .string ⟨#[]⟩, .int .i64 0, .int .i64 0, .int .i64 0, .int .i64 0, .int .i64 0, .int .i64 0, .bool false] 80))
              have HO3 : Hid _ := bu_below HO2.out (bx1 Y2 (.cells #[.int .i64 0, .string ⟨#[]⟩, .int .i64 0, .int .i64 0, .int .i64 0, .int .i64 0, .int .i64 0, .int .i64 0, .bool false] 80))
              have HX3 : Hid ((Y2.alloc (.cells #[.int .i64 0, .string ⟨#[]⟩, .int .i64 0, .int .i64 0, .int .i64 0, .int .i64 0, .int .i64 0, .int .i64 0, .bool false] 80)).heap[Y2.heap.size]? = some (.cells #[.int .i64 0, .string ⟨#[]⟩, .int .i64 0, .int .i64 0, .int .i64 0, .int .i64 0, .int .i64 0, .int .i64 0, .bool false] 80 (0, 0))) := heap_new _ _
              have HG8 : Hid (w.heap.size + 1 < Y2.heap.size) := HV2.out.tb.lt2
              have HN8 : Hid (B3 < Y2.heap.size) := HV2.out.lt
              refine hK _ _ HV3.out.nine ?_
              clear hK K
              generalize (Y2.alloc (.cells #[.int .i64 0, .string ⟨#[]⟩, .int .i64 0, .int .i64 0, .int .i64 0, .int .i64 0, .int .i64 0, .int .i64 0, .bool false] 80)) = Y3 at *
              generalize Y2.heap.size = B8 at *
              have q0 := bC HX3.out 0 _ rfl
              have q1 := bC HX3.out 1 _ rfl
              have q2 := bC HX3.out 2 _ rfl
              have q3 := bC HX3.out 3 _ rfl
              have q4 := bC HX3.out 4 _ rfl
              have q5 := bC HX3.out 5 _ rfl
              have q6 := bC HX3.out 6 _ rfl
              have q7 := bC HX3.out 7 _ rfl
              have q8 := bC HX3.out 8 _ rfl
              have qf := fun k => bF HX3.out k
              have ql : B8 < Y3.heap.size := (Array.getElem?_eq_some_iff.1 HX3.out).1
              have HS9 : Hid _ := (((((((((HV3.out.oth (B := B8) HG8.out (Nat.ne_of_lt HN8.out) 0 (.int .i64 0)).oth (B := B8) HG8.out (Nat.ne_of_lt HN8.out) 1 (.string M2)).oth (B := B8) HG8.out (Nat.ne_of_lt HN8.out) 2 (.int .i64 S)).oth (B := B8) HG8.out (Nat.ne_of_lt HN8.out) 3 (.int .i64 D)).oth (B := B8) HG8.out (Nat.ne_of_lt HN8.out) 4 (.int .i64 A)).oth (B := B8) HG8.out (Nat.ne_of_lt HN8.out) 5 (.int .i64 U)).oth (B := B8) HG8.out (Nat.ne_of_lt HN8.out) 6 (.int .i64 p4)).oth (B := B8) HG8.out (Nat.ne_of_lt HN8.out) 7 (.int .i64 G2)).oth (B := B8) HG8.out (Nat.ne_of_lt HN8.out) 8 (.bool bt))
              have H9 : Hid _ := (nineS (w := w) (by have := HG8.out; omega) HV3.out.tb.bel HX3.out (.int .i64 0) (.string M2) (.int .i64 S) (.int .i64 D) (.int .i64 A) (.int .i64 U) (.int .i64 p4) (.int .i64 G2) (.bool bt)).1
              refine held_one 13 (by kernel_rfl) rfl (by kernel_rfl) fun K hK => ?_
              go_simp
              refine hK _ _ HS9.out.nine ?_
              clear hK K
              refine wpAnyH_done (by kernel_rfl) ?_ _
              go_simp
              go_wp2_with fail
              go_meet
              case rel => exact ⟨B8, rfl, HS9.out.tb, H9.out⟩
            · go_simp
              have HV2 : Hid _ := HV1.out.step (bx1 Y1 (.cells #[.int .i64 0, .string ⟨#[]⟩, .int .i64 0, .int .i64 0, .int .i64 0, .int .i64 0, .int .i64 0, .int .i64 0, .bool false] 80))
              have HO2 : Hid _ := bu_below HO1.out (bx1 Y1 (.cells #[.int .i64 0, .string ⟨#[]⟩, .int .i64 0, .int .i64 0, .int .i64 0, .int .i64 0, .int .i64 0, .int .i64 0, .bool false] 80))
              have HX2 : Hid ((Y1.alloc (.cells #[.int .i64 0, .string ⟨#[]⟩, .int .i64 0, .int .i64 0, .int .i64 0, .int .i64 0, .int .i64 0, .int .i64 0, .bool false] 80)).heap[Y1.heap.size]? = some (.cells #[.int .i64 0, .string ⟨#[]⟩, .int .i64 0, .int .i64 0, .int .i64 0, .int .i64 0, .int .i64 0, .int .i64 0, .bool false] 80 (0, 0))) := heap_new _ _
              have HG8 : Hid (w.heap.size + 1 < Y1.heap.size) := HV1.out.tb.lt2
              have HN8 : Hid (B3 < Y1.heap.size) := HV1.out.lt
              refine hK _ _ HV2.out.nine ?_
              clear hK K
              generalize (Y1.alloc (.cells #[.int .i64 0, .string ⟨#[]⟩, .int .i64 0, .int .i64 0, .int .i64 0, .int .i64 0, .int .i64 0, .int .i64 0, .bool false] 80)) = Y2 at *
              generalize Y1.heap.size = B8 at *
              refine held_one 11 (by kernel_rfl) rfl (by kernel_rfl) fun K hK => ?_
              go_simp
              refine Calls.mono (HGC.out _) ?_
              rintro e Y3 ⟨rfl, hu⟩
              have HV3 : Hid _ := HV2.out.step hu
              have HO3 : Hid _ := bu_below HO2.out hu
              have HX3 : Hid (Y3.heap[B8]? = some (.cells #[.int .i64 0, .string ⟨#[]⟩, .int .i64 0, .int .i64 0, .int .i64 0, .int .i64 0, .int .i64 0, .int .i64 0, .bool false] 80 (0, 0))) := (hu.block _ (Array.getElem?_eq_some_iff.1 HX2.out).1).trans HX2.out
              clear hu
              go_simp
              refine hK _ _ HV3.out.nine ?_
              clear hK K
              have q0 := bC HX3.out 0 _ rfl
              have q1 := bC HX3.out 1 _ rfl
              have q2 := bC HX3.out 2 _ rfl
              have q3 := bC HX3.out 3 _ rfl
              have q4 := bC HX3.out 4 _ rfl
              have q5 := bC HX3.out 5 _ rfl
              have q6 := bC HX3.out 6 _ rfl
              have q7 := bC HX3.out 7 _ rfl
              have q8 := bC HX3.out 8 _ rfl
              have qf := fun k => bF HX3.out k
              have ql : B8 < Y3.heap.size := (Array.getElem?_eq_some_iff.1 HX3.out).1
              have HS9 : Hid _ := (((((((((HV3.out.oth (B := B8) HG8.out (Nat.ne_of_lt HN8.out) 0 (.int .i64 0)).oth (B := B8) HG8.out (Nat.ne_of_lt HN8.out) 1 (.string M2)).oth (B := B8) HG8.out (Nat.ne_of_lt HN8.out) 2 (.int .i64 S)).oth (B := B8) HG8.out (Nat.ne_of_lt HN8.out) 3 (.int .i64 D)).oth (B := B8) HG8.out (Nat.ne_of_lt HN8.out) 4 (.int .i64 A)).oth (B := B8) HG8.out (Nat.ne_of_lt HN8.out) 5 (.int .i64 U)).oth (B := B8) HG8.out (Nat.ne_of_lt HN8.out) 6 (.int .i64 p4)).oth (B := B8) HG8.out (Nat.ne_of_lt HN8.out) 7 (.int .i64 G2)).oth (B := B8) HG8.out (Nat.ne_of_lt HN8.out) 8 (.bool bt))
              have H9 : Hid _ := (nineS (w := w) (by have := HG8.out; omega) HV3.out.tb.bel HX3.out (.int .i64 0) (.string M2) (.int .i64 S) (.int .i64 D) (.int .i64 A) (.int .i64 U) (.int .i64 p4) (.int .i64 G2) (.bool bt)).1
              refine held_one 13 (by kernel_rfl) rfl (by kernel_rfl) fun K hK => ?_
              go_simp
              refine hK _ _ HS9.out.nine ?_
              clear hK K
              refine wpAnyH_done (by kernel_rfl) ?_ _
              go_simp
              go_wp2_with fail
              go_meet
              case rel => exact ⟨B8, rfl, HS9.out.tb, H9.out⟩
          · go_simp
            have HV1 : Hid _ := HV0.out.step (bx1 Y0 (.cells #[.int .i64 0, .string ⟨#[]⟩, .int .i64 0, .int .i64 0, .int .i64 0, .int .i64 0, .int .i64 0, .int .i64 0, .bool false] 80))
            have HO1 : Hid _ := bu_below HO0.out (bx1 Y0 (.cells #[.int .i64 0, .string ⟨#[]⟩, .int .i64 0, .int .i64 0, .int .i64 0, .int .i64 0, .int .i64 0, .int .i64 0, .bool false] 80))
            have HX1 : Hid ((Y0.alloc (.cells #[.int .i64 0, .string ⟨#[]⟩, .int .i64 0, .int .i64 0, .int .i64 0, .int .i64 0, .int .i64 0, .int .i64 0, .bool false] 80)).heap[Y0.heap.size]? = some (.cells #[.int .i64 0, .string ⟨#[]⟩, .int .i64 0, .int .i64 0, .int .i64 0, .int .i64 0, .int .i64 0, .int .i64 0, .bool false] 80 (0, 0))) := heap_new _ _
            have HG8 : Hid (w.heap.size + 1 < Y0.heap.size) := HV0.out.tb.lt2
            have HN8 : Hid (B3 < Y0.heap.size) := HV0.out.lt
            refine hK _ _ HV1.out.nine ?_
            clear hK K
            generalize (Y0.alloc (.cells #[.int .i64 0, .string ⟨#[]⟩, .int .i64 0, .int .i64 0, .int .i64 0, .int .i64 0, .int .i64 0, .int .i64 0, .bool false] 80)) = Y1 at *
            generalize Y0.heap.size = B8 at *
            refine held_one 4 (by kernel_rfl) rfl (by kernel_rfl) fun K hK => ?_
            go_simp
            refine Calls.mono (HSP1.out _ (BUrow.of HO1.out)) ?_
            rintro e Y2 ⟨rfl, hu⟩
            have HV2 : Hid _ := HV1.out.step hu
            have HO2 : Hid _ := bu_below HO1.out hu
            have HX2 : Hid (Y2.heap[B8]? = some (.cells #[.int .i64 0, .string ⟨#[]⟩, .int .i64 0, .int .i64 0, .int .i64 0, .int .i64 0, .int .i64 0, .int .i64 0, .bool false] 80 (0, 0))) := (hu.block _ (Array.getElem?_eq_some_iff.1 HX1.out).1).trans HX1.out
            clear hu
            go_simp
            refine hK _ _ HV2.out.nine ?_
            clear hK K
            refine held_one 11 (by kernel_rfl) rfl (by kernel_rfl) fun K hK => ?_
            go_simp
            refine Calls.mono (HGC.out _) ?_
            rintro e Y3 ⟨rfl, hu⟩
            have HV3 : Hid _ := HV2.out.step hu
            have HO3 : Hid _ := bu_below HO2.out hu
            have HX3 : Hid (Y3.heap[B8]? = some (.cells #[.int .i64 0, .string ⟨#[]⟩, .int .i64 0, .int .i64 0, .int .i64 0, .int .i64 0, .int .i64 0, .int .i64 0, .bool false] 80 (0, 0))) := (hu.block _ (Array.getElem?_eq_some_iff.1 HX2.out).1).trans HX2.out
            clear hu
            go_simp
            refine hK _ _ HV3.out.nine ?_
            clear hK K
            have q0 := bC HX3.out 0 _ rfl
            have q1 := bC HX3.out 1 _ rfl
            have q2 := bC HX3.out 2 _ rfl
            have q3 := bC HX3.out 3 _ rfl
            have q4 := bC HX3.out 4 _ rfl
            have q5 := bC HX3.out 5 _ rfl
            have q6 := bC HX3.out 6 _ rfl
            have q7 := bC HX3.out 7 _ rfl
            have q8 := bC HX3.out 8 _ rfl
            have qf := fun k => bF HX3.out k
            have ql : B8 < Y3.heap.size := (Array.getElem?_eq_some_iff.1 HX3.out).1
            have HS9 : Hid _ := (((((((((HV3.out.oth (B := B8) HG8.out (Nat.ne_of_lt HN8.out) 0 (.int .i64 0)).oth (B := B8) HG8.out (Nat.ne_of_lt HN8.out) 1 (.string M2)).oth (B := B8) HG8.out (Nat.ne_of_lt HN8.out) 2 (.int .i64 S)).oth (B := B8) HG8.out (Nat.ne_of_lt HN8.out) 3 (.int .i64 D)).oth (B := B8) HG8.out (Nat.ne_of_lt HN8.out) 4 (.int .i64 A)).oth (B := B8) HG8.out (Nat.ne_of_lt HN8.out) 5 (.int .i64 U)).oth (B := B8) HG8.out (Nat.ne_of_lt HN8.out) 6 (.int .i64 p4)).oth (B := B8) HG8.out (Nat.ne_of_lt HN8.out) 7 (.int .i64 G2)).oth (B := B8) HG8.out (Nat.ne_of_lt HN8.out) 8 (.bool bt))
            have H9 : Hid _ := (nineS (w := w) (by have := HG8.out; omega) HV3.out.tb.bel HX3.out (.int .i64 0) (.string M2) (.int .i64 S) (.int .i64 D) (.int .i64 A) (.int .i64 U) (.int .i64 p4) (.int .i64 G2) (.bool bt)).1
            refine held_one 13 (by kernel_rfl) rfl (by kernel_rfl) fun K hK => ?_
            go_simp
            refine hK _ _ HS9.out.nine ?_
            clear hK K
            refine wpAnyH_done (by kernel_rfl) ?_ _
            go_simp
            go_wp2_with fail
            go_meet
            case rel => exact ⟨B8, rfl, HS9.out.tb, H9.out⟩
        case rest =>
          obtain ⟨B8, rfl, ht8, hb8⟩ := hcut
          have HT8 : Hid _ := ht8
          have HB8 : Hid _ := hb8
          clear ht8 hb8 HV2 HO2
          have ql : B8 < wc.heap.size := (Array.getElem?_eq_some_iff.1 HB8.out).1
          have q0 := bC HB8.out 0 (.int .i64 0) rfl
          have q1 := bC HB8.out 1 (.string M2) rfl
          have q2 := bC HB8.out 2 (.int .i64 S) rfl
          have q3 := bC HB8.out 3 (.int .i64 D) rfl
          have q4 := bC HB8.out 4 (.int .i64 A) rfl
          have q5 := bC HB8.out 5 (.int .i64 U) rfl
          have q6 := bC HB8.out 6 (.int .i64 p4) rfl
          have q7 := bC HB8.out 7 (.int .i64 G2) rfl
          have q8 := bC HB8.out 8 (.bool bt) rfl
          have r0 := HT8.out.c2 0 _ rfl
          have r1 := HT8.out.c2 1 _ rfl
          have r2 := HT8.out.c2 2 _ rfl
          have r3 := HT8.out.c2 3 _ rfl
          have r4 := HT8.out.c2 4 _ rfl
          have r5 := HT8.out.c2 5 _ rfl
          have r6 := HT8.out.c2 6 _ rfl
          have r7 := HT8.out.c2 7 _ rfl
          have r8 := HT8.out.c2 8 _ rfl
          have r9 := HT8.out.c2 9 _ rfl
          have r10 := HT8.out.c2 10 _ rfl
          have rf := fun k => HT8.out.f2 k
          have rl := HT8.out.lt2
          go_wp2_with fail
          refine bodyPost_ret (v := .agg #[.int .i64 0, .string M2, .int .i64 S, .int .i64 D, .int .i64 A, .int .i64 U, .int .i64 p4, .int .i64 G2, .string ⟨#[]⟩, .int .i64 1, .bool bt]) ?_ rfl ⟨by first | rfl | simp, ?_⟩
          · simp [results, Try.results9, go_sem, r0, r1, r2, r3, r4, r5, r6, r7, r8, r9, r10]
          · exact (((((((((((HT8.out.bel.setCell (by simp) _).setCell (by simp) _).setCell (by simp) _).setCell (by simp) _).setCell (by simp) _).setCell (by simp) _).setCell (by simp) _).setCell (by simp) _).setCell (by simp) _).setCell (by simp) _).setCell (by simp) _)
    · rw [if_neg htc] at HR1
      obtain rfl := HR1.out
      have r0 := HV.out.tb.c2 0 _ rfl
      have r1 := HV.out.tb.c2 1 _ rfl
      have r2 := HV.out.tb.c2 2 _ rfl
      have r3 := HV.out.tb.c2 3 _ rfl
      have r4 := HV.out.tb.c2 4 _ rfl
      have r5 := HV.out.tb.c2 5 _ rfl
      have r6 := HV.out.tb.c2 6 _ rfl
      have r7 := HV.out.tb.c2 7 _ rfl
      have r8 := HV.out.tb.c2 8 _ rfl
      have r9 := HV.out.tb.c2 9 _ rfl
      have r10 := HV.out.tb.c2 10 _ rfl
      have rf := fun k => HV.out.tb.f2 k
      have rl := HV.out.tb.lt2
      go_wp2_with fail
      refine bodyPost_ret (v := .agg #[.int .i64 tc, .string ⟨#[]⟩, .int .i64 0, .int .i64 0, .int .i64 0, .int .i64 0, .int .i64 0, .int .i64 0, .string ⟨#[]⟩, .int .i64 0, .bool false]) ?_ rfl ⟨by first | rfl | simp [htc], ?_⟩
      · simp [results, Try.results9, go_sem, r0, r1, r2, r3, r4, r5, r6, r7, r8, r9, r10]
      · exact (((((((((((HV.out.tb.bel.setCell (by simp) _).setCell (by simp) _).setCell (by simp) _).setCell (by simp) _).setCell (by simp) _).setCell (by simp) _).setCell (by simp) _).setCell (by simp) _).setCell (by simp) _).setCell (by simp) _).setCell (by simp) _)
end Go.Proofs.Ythhbfghbpapklab
