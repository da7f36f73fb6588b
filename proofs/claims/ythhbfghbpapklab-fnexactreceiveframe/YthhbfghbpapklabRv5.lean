import Derived.Test.YthhbfghbpapklabRv4
namespace Go.Proofs.Ythhbfghbpapklab
open Go.ChangeShapes Go.WideShapes Go.ChangeAt Go.RowKit

set_option maxRecDepth 100000
theorem TwoBx.six {w u : World} {ds : Array Value} {t2 : Nat} {S D A U T G : Int} (h : TwoBx w u #[.int .i64 S, .int .i64 D, .int .i64 A, .int .i64 U, .int .i64 T, .int .i64 G] 24 ds t2) : u.cell? ⟨w.heap.size, 0, none⟩ = some (.int .i64 S) ∧ u.cell? ⟨w.heap.size, 1, none⟩ = some (.int .i64 D) ∧ u.cell? ⟨w.heap.size, 2, none⟩ = some (.int .i64 A) ∧ u.cell? ⟨w.heap.size, 3, none⟩ = some (.int .i64 U) ∧ u.cell? ⟨w.heap.size, 4, none⟩ = some (.int .i64 T) ∧ u.cell? ⟨w.heap.size, 5, none⟩ = some (.int .i64 G) := ⟨h.c1 0 _ rfl, h.c1 1 _ rfl, h.c1 2 _ rfl, h.c1 3 _ rfl, h.c1 4 _ rfl, h.c1 5 _ rfl⟩
theorem TwoBx.lt2 {w u : World} {cs ds : Array Value} {t t2 : Nat} (h : TwoBx w u cs t ds t2) : w.heap.size + 1 < u.heap.size := (Array.getElem?_eq_some_iff.1 h.b2).1
theorem PT.eight {u : World} {b mb n t : Nat} {e1 e2 e3 e4 e5 e6 : Int} {rg : Bool} {rest : Array Value} {s : ByteArray} (h : PT u b mb n t ⟨e1, e2, e3, e4, e5, e6⟩ rg rest s) : u.cell? ⟨b, 0, none⟩ = some (.slice (some ⟨mb, 0, none⟩) n n) ∧ u.cell? ⟨b, 1, none⟩ = some (.int .i64 e1) ∧ u.cell? ⟨b, 2, none⟩ = some (.int .i64 e2) ∧ u.cell? ⟨b, 3, none⟩ = some (.int .i64 e3) ∧ u.cell? ⟨b, 4, none⟩ = some (.int .i64 e4) ∧ u.cell? ⟨b, 5, none⟩ = some (.int .i64 e5) ∧ u.cell? ⟨b, 6, none⟩ = some (.int .i64 e6) ∧ u.cell? ⟨b, 7, none⟩ = some (.bool rg) := ⟨h.cel 0 _ rfl, h.cel 1 _ rfl, h.cel 2 _ rfl, h.cel 3 _ rfl, h.cel 4 _ rfl, h.cel 5 _ rfl, h.cel 6 _ rfl, h.cel 7 _ rfl⟩
theorem PT.oth {u : World} {b mb n t B : Nat} {q : QV} {sg : Bool} {rest : Array Value} {s : ByteArray} (h : PT u b mb n t q sg rest s) (hb : b ≠ B) (hm : mb ≠ B) (o : Nat) (x : Value) : PT (u.setCell ⟨B, o, none⟩ x) b mb n t q sg rest s := ⟨(Below.heap_setCell _ _ _ _ (by simp; omega)).trans h.box, (Below.heap_setCell _ _ _ _ (by simp; omega)).trans h.mem, h.ne⟩
theorem TwoBx.fr2 {w u v : World} {cs ds : Array Value} {t t2 b mb : Nat} (h : TwoBx w u cs t ds t2) (hf : Fr2 u v b mb) (hb : w.heap.size + 1 < b) (hm : w.heap.size + 1 < mb) : TwoBx w v cs t ds t2 := by
  have hl := h.lt2
  have hs := h.bel.size
  refine ⟨⟨hf.os.trans h.bel.os, hf.tape.trans h.bel.tape, hf.output.trans h.bel.output, Nat.le_trans hs hf.size, fun k hk => (hf.block k (by omega) (by omega) (by omega)).trans (h.bel.block k hk)⟩, (hf.block _ (by omega) (by omega) (by omega)).trans h.b1, (hf.block _ (by omega) (by omega) (by omega)).trans h.b2⟩
theorem rvR_size {s f : ByteArray} {S D A U T G n : Nat} (hp : qOk s ⟨S, D, A, U, T, G⟩ = true) (hN : s.size = n * 256) : (rvR s S D A U T G false f).1 = 0 → (rvR s S D A U T G false f).2.1.size = n * 256 ∧ n ≤ 256 := by
  intro h0
  obtain ⟨hm, hz, _, _, _, _, ⟨e1, e2, e3⟩⟩ := qOk_b hp
  obtain ⟨m1, m2, m3⟩ := memOk_b hm
  simp only at hz e1 e2 e3
  have hS : 1 ≤ S ∧ S ≤ 16 := by unfold szB at hz; simp at hz; omega
  refine ⟨?_, by omega⟩
  obtain ⟨TT, hTT⟩ : ∃ TT, tcR s S D A T U G = TT := ⟨_, rfl⟩
  obtain ⟨c, hd, p, zs⟩ := TT
  unfold rvR at h0 ⊢
  rw [hTT] at h0 ⊢
  simp only at h0 ⊢
  by_cases hc : c = 0
  · subst hc
    obtain ⟨_, _, hi, _⟩ := tcR_ok hTT
    rw [if_pos rfl] at h0 ⊢
    by_cases hr : rmS zs < f.size
    · rw [if_pos hr] at h0
      simp at h0
    · rw [if_neg hr]
      have hk := (spK_size s f zs s.size rfl (fun j hj => hi _ (List.getElem_mem hj)) zs.length (Nat.le_refl _)).1
      have hg := gcM_size (spK s f zs zs.length).1 S U G hd f.size (by omega) hS.1
      simp only
      omega
  · rw [if_neg hc] at h0
    exact absurd h0 hc
set_option maxHeartbeats 4000000 in
theorem implRV_good (s f : ByteArray) (S D A U T G : Nat) (hp : qOk s ⟨S, D, A, U, T, G⟩ = true) (hf : f.size ≤ 1500) : AnsV 11 s ⟨S, D, A, U, T, G⟩ f (if (rvR s S D A U T G false f).1 = 0 then (0, (rvR s S D A U T G false f).2.1, (rvR s S D A U T G false f).2.2.1, 1, (rvR s S D A U T G false f).2.2.2) else svC (rvR s S D A U T G false f).1) := by
  intro w
  obtain ⟨hm, _⟩ := qOk_b hp
  obtain ⟨m1, m2, m3⟩ := memOk_b hm
  obtain ⟨n, hN⟩ : ∃ n, s.size = n * 256 := ⟨s.size / 256, by omega⟩
  have HT1 : Hid _ := fun u => tooLong_any s u
  have HT2 : Hid _ := fun u => tooLong_any f u
  rw [show decide (65536 < (s.size : Int)) = false from decide_eq_false (by omega)] at HT1
  rw [show decide (65536 < (f.size : Int)) = false from decide_eq_false (by omega)] at HT2
  have HQ : Hid _ := fun u => implQueueFault_any s ⟨S, D, A, U, T, G⟩ u (by omega)
  rw [qF_ok hp] at HQ
  have h4 : ¬ (1500 : Int) < (f.size : Int) := by omega
  have HRM : Hid _ := fun x => readMemory_any s n x hN (by omega)
  have HWK : Hid (∀ (x : World) (b mb g fcap : Nat), PT x b mb n 92 ⟨S, D, A, U, T, G⟩ false #[.slice (some ⟨g, 0, none⟩) f.size fcap] s → DA x g 0 f → g ≠ mb → f.size ≤ fcap → Calls Try.prog 48 #[.iface 84 (.pointer (some ⟨b, 0, none⟩)), .int .i64 1] x fun e w' => e = .returned (.tuple #[.int .i64 (if (rvR s S D A U T G false f).1 = 0 then 1 else 0), .int .i64 (rvR s S D A U T G false f).1]) ∧ PT w' b mb n 92 (rvR s S D A U T G false f).2.2.1 (rvR s S D A U T G false f).2.2.2 #[.slice (some ⟨g, 0, none⟩) f.size fcap] (rvR s S D A U T G false f).2.1 ∧ Fr2 x w' b mb) := fun x b mb g fcap h1 h2 h3 h5 => work_any S D A U T G h1 h2 h3 h5 hf hp hN
  have HRS : Hid ((rvR s S D A U T G false f).1 = 0 → (rvR s S D A U T G false f).2.1.size = n * 256 ∧ n ≤ 256) := rvR_size hp hN
  have HTX : Hid (∀ (x : World) (b : Nat) (m : ByteArray), MemAt x b m → m.size = n * 256 → n ≤ 256 → Calls Try.prog 49 #[mv b n] x fun e w' => e = .returned (.string m) ∧ Below x.heap.size x w') := fun x b m hM h1 h2 => memText_any b m n x hM h1 h2
  generalize rvR s S D A U T G false f = RR at *
  obtain ⟨rc, rm, ⟨e1, e2, e3, e4, e5, e6⟩, rg⟩ := RR
  clear hp hm m1 m2 m3 hN hf
  unfold svV svC svA q00
  unfold qA at HQ ⊢
  unfold mv at HRM HTX
  simp only at HQ HWK HRS ⊢
  have HX0 : Hid (TwoBx w ((w.alloc (.cells #[.int .i64 S, .int .i64 D, .int .i64 A, .int .i64 U, .int .i64 T, .int .i64 G] 24)).alloc (.cells #[.int .i64 0, .string ⟨#[]⟩, .int .i64 0, .int .i64 0, .int .i64 0, .int .i64 0, .int .i64 0, .int .i64 0, .string ⟨#[]⟩, .int .i64 0, .bool false] 26)) #[.int .i64 S, .int .i64 D, .int .i64 A, .int .i64 U, .int .i64 T, .int .i64 G] 24 #[.int .i64 0, .string ⟨#[]⟩, .int .i64 0, .int .i64 0, .int .i64 0, .int .i64 0, .int .i64 0, .int .i64 0, .string ⟨#[]⟩, .int .i64 0, .bool false] 26) := TwoBx.of _ _ _ _ _ (Below.refl _ _)
  go_enter Try.func11, Try.ntmps11
  go_wp2_with fail
  generalize ((w.alloc (.cells #[.int .i64 S, .int .i64 D, .int .i64 A, .int .i64 U, .int .i64 T, .int .i64 G] 24)).alloc (.cells #[.int .i64 0, .string ⟨#[]⟩, .int .i64 0, .int .i64 0, .int .i64 0, .int .i64 0, .int .i64 0, .int .i64 0, .string ⟨#[]⟩, .int .i64 0, .bool false] 26)) = W0 at *
  have k0 := HX0.out.c1 0 _ rfl
  have k1 := HX0.out.c1 1 _ rfl
  have k2 := HX0.out.c1 2 _ rfl
  have k3 := HX0.out.c1 3 _ rfl
  have k4 := HX0.out.c1 4 _ rfl
  have k5 := HX0.out.c1 5 _ rfl
  go_upto_region 5 with (first
    | (go_at_call 45; refine Calls.mono (HT1.out _) ?_; rintro e u1 ⟨rfl, hu1⟩; rw [hu1]; clear hu1)
    | (go_at_call 45; refine Calls.mono (HT2.out _) ?_; rintro e u1 ⟨rfl, hu1⟩; rw [hu1]; clear hu1)
    | (go_at_call 46; refine Calls.mono (HQ.out _) ?_; rintro e u1 ⟨rfl, hu1⟩; have HX1 : Hid _ := HX0.out.step hu1; clear hu1 k0 k1 k2 k3 k4 k5))
  clear HT1 HT2 HQ HX0 h4
  go_cut [7] (fun s7 wc => ∃ b mb g fcap, s7 = .pointer (some ⟨b, 0, none⟩) ∧ PT wc b mb n 92 ⟨S, D, A, U, T, G⟩ false #[.slice (some ⟨g, 0, none⟩) f.size fcap] s ∧ DA wc g 0 f ∧ g ≠ mb ∧ f.size ≤ fcap ∧ TwoBx w wc #[.int .i64 S, .int .i64 D, .int .i64 A, .int .i64 U, .int .i64 T, .int .i64 G] 24 #[.int .i64 0, .string ⟨#[]⟩, .int .i64 0, .int .i64 0, .int .i64 0, .int .i64 0, .int .i64 0, .int .i64 0, .string ⟨#[]⟩, .int .i64 0, .bool false] 26 ∧ w.heap.size + 1 < b ∧ w.heap.size + 1 < mb)
  case first =>
    have HXX : Hid _ := HX1.out.step ((Below.refl _ _).drew)
    refine wp_region_held (S := fun w' => w'.cell? ⟨w.heap.size, 0, none⟩ = some (.int .i64 S) ∧ w'.cell? ⟨w.heap.size, 1, none⟩ = some (.int .i64 D) ∧ w'.cell? ⟨w.heap.size, 2, none⟩ = some (.int .i64 A) ∧ w'.cell? ⟨w.heap.size, 3, none⟩ = some (.int .i64 U) ∧ w'.cell? ⟨w.heap.size, 4, none⟩ = some (.int .i64 T) ∧ w'.cell? ⟨w.heap.size, 5, none⟩ = some (.int .i64 G)) (by kernel_rfl) ?_
    change wpAnyH _ _ _ _ _ _ _ _ (World.drew _)
    generalize u1.drew = X at *
    clear HX1
    have HK : Hid _ := HXX.out.six
    refine wpAnyH_take (i := 0) (v := .string s) rfl (by kernel_rfl) (by kernel_rfl) (by kernel_rfl) (fun _ _ _ h => h) (Or.inl ⟨by kernel_rfl, fun w9 h9 => ?_⟩) HK.out ?_
    · clear h9
      go_simp
    refine wpAnyH_take (i := 2) (v := .agg #[.int .i64 S, .int .i64 D, .int .i64 A, .int .i64 U, .int .i64 T, .int .i64 G]) rfl (by kernel_rfl) (by kernel_rfl) (by kernel_rfl) (fun _ _ _ h => h) (Or.inl ⟨by kernel_rfl, fun w9 h9 => ?_⟩) HK.out ?_
    · obtain ⟨d0, d1, d2, d3, d4, d5⟩ := h9
      go_simp
    refine wpAnyH_take (i := 4) (v := .string f) rfl (by kernel_rfl) (by kernel_rfl) (by kernel_rfl) (fun _ _ _ h => h) (Or.inl ⟨by kernel_rfl, fun w9 h9 => ?_⟩) HK.out ?_
    · clear h9
      go_simp
    refine wpAnyH_all (rs := [1, 5]) (by kernel_rfl) (by simp) (all_two (held_step rfl (by kernel_rfl) fun K hK => ?_) (held_step rfl (by kernel_rfl) fun K hK => ?_))
    · go_simp
      refine Calls.mono (HRM.out _) ?_
      rintro e y2 ⟨rfl, hM, hu, hsz⟩
      have HZZ : Hid _ := hsz
      have HX2 : Hid _ := HXX.out.step hu
      have HM2 : Hid (MemAt y2 X.heap.size s) := hM
      have HL2 : Hid (w.heap.size + 1 < X.heap.size) := HXX.out.lt2
      clear hu hM hsz
      go_simp
      refine hK _ _ HX2.out.six ?_
      clear hK K
      have HK2 : Hid _ := HX2.out.six
      refine wpAnyH_take (i := 3) (v := .agg #[.slice (some ⟨X.heap.size, 0, none⟩) n n, .int .i64 S, .int .i64 D, .int .i64 A, .int .i64 U, .int .i64 T, .int .i64 G, .bool false]) rfl (by kernel_rfl) (by kernel_rfl) (by kernel_rfl) (fun _ _ _ h => h) (Or.inl ⟨by kernel_rfl, fun w9 h9 => ?_⟩) HK2.out ?_
      · clear h9
        go_simp
      have hcv := bw_conv y2 f
      refine held_one 5 (by kernel_rfl) rfl (by kernel_rfl) fun K hK => ?_
      go_simp
      have HX3 : Hid _ := HX2.out.step (bw_below y2 f)
      have HM3 : Hid (MemAt (Lib.bytesWorld y2 5 f) X.heap.size s) := HM2.out.below (bw_below y2 f) HM2.out.lt
      have HD3 : Hid _ := da_convC y2 f
      have hcap : f.size ≤ grownCap y2 f.size 0 5 := grownCap_ge _ _ _ _
      have hne : y2.heap.size ≠ X.heap.size := by have := HZZ.out; omega
      refine hK _ _ HX3.out.six ?_
      clear hK K hcv HM2
      generalize Lib.bytesWorld y2 5 f = y3 at *
      generalize grownCap y2 f.size 0 5 = cap at *
      generalize y2.heap.size = gg at *
      generalize X.heap.size = mb at *
      have HK3 : Hid _ := HX3.out.six
      refine wpAnyH_take (i := 6) (v := .agg #[.slice (some ⟨mb, 0, none⟩) n n, .int .i64 S, .int .i64 D, .int .i64 A, .int .i64 U, .int .i64 T, .int .i64 G, .bool false, .slice (some ⟨gg, 0, none⟩) f.size cap]) rfl (by kernel_rfl) (by kernel_rfl) (by kernel_rfl) (fun _ _ _ h => h) (Or.inl ⟨by kernel_rfl, fun w9 h9 => ?_⟩) HK3.out ?_
      · clear h9
        go_simp
      have HP4 : Hid _ := PT.new (n := n) (S := S) (D := D) (A := A) (U := U) (T := T) (G := G) (x := .slice (some ⟨gg, 0, none⟩) f.size cap) HM3.out
      have HX4 : Hid _ := HX3.out.step (bx1 y3 (.cells #[.slice (some ⟨mb, 0, none⟩) n n, .int .i64 S, .int .i64 D, .int .i64 A, .int .i64 U, .int .i64 T, .int .i64 G, .bool false, .slice (some ⟨gg, 0, none⟩) f.size cap] 92))
      have HD4 : Hid _ := HD3.out.below (bx1 y3 (.cells #[.slice (some ⟨mb, 0, none⟩) n n, .int .i64 S, .int .i64 D, .int .i64 A, .int .i64 U, .int .i64 T, .int .i64 G, .bool false, .slice (some ⟨gg, 0, none⟩) f.size cap] 92))
      have HL4 : Hid (w.heap.size + 1 < y3.heap.size) := HX3.out.lt2
      refine held_one 7 (by kernel_rfl) rfl (by kernel_rfl) fun K hK => ?_
      go_simp
      refine hK _ _ HX4.out.six ?_
      clear hK K
      generalize (y3.alloc (.cells #[.slice (some ⟨mb, 0, none⟩) n n, .int .i64 S, .int .i64 D, .int .i64 A, .int .i64 U, .int .i64 T, .int .i64 G, .bool false, .slice (some ⟨gg, 0, none⟩) f.size cap] 92)) = y4 at *
      generalize y3.heap.size = b at *
      have HK4 : Hid _ := HX4.out.six
      refine wpAnyH_take (i := 8) (v := .pointer (some ⟨b, 0, none⟩)) rfl (by kernel_rfl) (by kernel_rfl) (by kernel_rfl) (fun _ _ _ h => h) (Or.inl ⟨by kernel_rfl, fun w9 h9 => ?_⟩) HK4.out ?_
      · clear h9
        go_simp
      refine wpAnyH_done (by kernel_rfl) ?_ _
      go_simp
      go_wp2_with fail
      go_meet
      case rel => exact ⟨b, mb, gg, cap, rfl, HP4.out, HD4.out, hne, hcap, HX4.out, HL4.out, HL2.out⟩
    · have hcv := bw_conv X f
      go_simp
      have HX2 : Hid _ := HXX.out.step (bw_below X f)
      have HD2 : Hid _ := da_convC X f
      have hcap : f.size ≤ grownCap X f.size 0 5 := grownCap_ge _ _ _ _
      have HL2b : Hid (w.heap.size + 1 < X.heap.size) := HXX.out.lt2
      have hlX : X.heap.size < (Lib.bytesWorld X 5 f).heap.size := by rw [Lib.bytesWorld_size]; omega
      refine hK _ _ HX2.out.six ?_
      clear hK K hcv
      generalize Lib.bytesWorld X 5 f = y2 at *
      generalize grownCap X f.size 0 5 = cap at *
      generalize X.heap.size = gg at *
      refine held_one 1 (by kernel_rfl) rfl (by kernel_rfl) fun K hK => ?_
      go_simp
      refine Calls.mono (HRM.out _) ?_
      rintro e y3 ⟨rfl, hM, hu, hsz⟩
      clear hsz
      have HX3 : Hid _ := HX2.out.step hu
      have HD3 : Hid _ := HD2.out.below hu
      have HM3 : Hid (MemAt y3 y2.heap.size s) := hM
      have hne : gg ≠ y2.heap.size := by omega
      have HL2 : Hid (w.heap.size + 1 < y2.heap.size) := HX2.out.lt2
      clear hu hM
      go_simp
      refine hK _ _ HX3.out.six ?_
      clear hK K
      generalize y2.heap.size = mb at *
      have HK3 : Hid _ := HX3.out.six
      refine wpAnyH_take (i := 3) (v := .agg #[.slice (some ⟨mb, 0, none⟩) n n, .int .i64 S, .int .i64 D, .int .i64 A, .int .i64 U, .int .i64 T, .int .i64 G, .bool false]) rfl (by kernel_rfl) (by kernel_rfl) (by kernel_rfl) (fun _ _ _ h => h) (Or.inl ⟨by kernel_rfl, fun w9 h9 => ?_⟩) HK3.out ?_
      · clear h9
        go_simp
      refine wpAnyH_take (i := 6) (v := .agg #[.slice (some ⟨mb, 0, none⟩) n n, .int .i64 S, .int .i64 D, .int .i64 A, .int .i64 U, .int .i64 T, .int .i64 G, .bool false, .slice (some ⟨gg, 0, none⟩) f.size cap]) rfl (by kernel_rfl) (by kernel_rfl) (by kernel_rfl) (fun _ _ _ h => h) (Or.inl ⟨by kernel_rfl, fun w9 h9 => ?_⟩) HK3.out ?_
      · clear h9
        go_simp
      have HP4 : Hid _ := PT.new (n := n) (S := S) (D := D) (A := A) (U := U) (T := T) (G := G) (x := .slice (some ⟨gg, 0, none⟩) f.size cap) HM3.out
      have HX4 : Hid _ := HX3.out.step (bx1 y3 (.cells #[.slice (some ⟨mb, 0, none⟩) n n, .int .i64 S, .int .i64 D, .int .i64 A, .int .i64 U, .int .i64 T, .int .i64 G, .bool false, .slice (some ⟨gg, 0, none⟩) f.size cap] 92))
      have HD4 : Hid _ := HD3.out.below (bx1 y3 (.cells #[.slice (some ⟨mb, 0, none⟩) n n, .int .i64 S, .int .i64 D, .int .i64 A, .int .i64 U, .int .i64 T, .int .i64 G, .bool false, .slice (some ⟨gg, 0, none⟩) f.size cap] 92))
      have HL4 : Hid (w.heap.size + 1 < y3.heap.size) := HX3.out.lt2
      refine held_one 7 (by kernel_rfl) rfl (by kernel_rfl) fun K hK => ?_
      go_simp
      refine hK _ _ HX4.out.six ?_
      clear hK K
      generalize (y3.alloc (.cells #[.slice (some ⟨mb, 0, none⟩) n n, .int .i64 S, .int .i64 D, .int .i64 A, .int .i64 U, .int .i64 T, .int .i64 G, .bool false, .slice (some ⟨gg, 0, none⟩) f.size cap] 92)) = y4 at *
      generalize y3.heap.size = b at *
      have HK4 : Hid _ := HX4.out.six
      refine wpAnyH_take (i := 8) (v := .pointer (some ⟨b, 0, none⟩)) rfl (by kernel_rfl) (by kernel_rfl) (by kernel_rfl) (fun _ _ _ h => h) (Or.inl ⟨by kernel_rfl, fun w9 h9 => ?_⟩) HK4.out ?_
      · clear h9
        go_simp
      refine wpAnyH_done (by kernel_rfl) ?_ _
      go_simp
      go_wp2_with fail
      go_meet
      case rel => exact ⟨b, mb, gg, cap, rfl, HP4.out, HD4.out, hne, hcap, HX4.out, HL4.out, HL2.out⟩
  case rest =>
    obtain ⟨b, mb, g, fcap, rfl, hpt, hda, hgm, hfc, hx, hb1, hb2⟩ := hcut
    have HW1 : Hid _ := HWK.out wc b mb g fcap hpt hda hgm hfc
    have HX : Hid _ := hx
    have HLT : Hid (w.heap.size + 1 < b ∧ w.heap.size + 1 < mb) := ⟨hb1, hb2⟩
    clear hpt hda hx HWK HRM HX1
    by_cases hrc : rc = 0
    · subst hrc
      obtain ⟨hs1, hs2⟩ := HRS.out rfl
      have HT9 : Hid _ := fun (x : World) (hM : MemAt x mb rm) => HTX.out x mb rm hM hs1 hs2
      clear HTX HRS hs1 hs2
      go_upto_region 9 with (go_at_call 48; refine Calls.mono HW1.out ?_; rintro e y1 ⟨rfl, hp1, hf1⟩; have HP1 : Hid _ := hp1; have HX1 : Hid _ := HX.out.fr2 hf1 HLT.out.1 HLT.out.2; clear hp1 hf1)
      clear HW1 HX
      have HXX : Hid _ := HX1.out.step ((Below.refl _ _).drew)
      have HPP : Hid _ := HP1.out.below ((Below.refl _ _).drew)
      refine wp_region_held (S := fun w' => w'.cell? ⟨b, 0, none⟩ = some (.slice (some ⟨mb, 0, none⟩) n n) ∧ w'.cell? ⟨b, 1, none⟩ = some (.int .i64 e1) ∧ w'.cell? ⟨b, 2, none⟩ = some (.int .i64 e2) ∧ w'.cell? ⟨b, 3, none⟩ = some (.int .i64 e3) ∧ w'.cell? ⟨b, 4, none⟩ = some (.int .i64 e4) ∧ w'.cell? ⟨b, 5, none⟩ = some (.int .i64 e5) ∧ w'.cell? ⟨b, 6, none⟩ = some (.int .i64 e6) ∧ w'.cell? ⟨b, 7, none⟩ = some (.bool rg)) (by kernel_rfl) ?_
      change wpAnyH _ _ _ _ _ _ _ _ (World.drew _)
      generalize y1.drew = X at *
      clear HX1 HP1
      have HK : Hid _ := HPP.out.eight
      refine wpAnyH_take (i := 0) (v := .pointer (some ⟨b, 0, none⟩)) rfl (by kernel_rfl) (by kernel_rfl) (by kernel_rfl) (fun _ _ _ h => h) (Or.inl ⟨by kernel_rfl, fun w9 h9 => ?_⟩) HK.out ?_
      · clear h9
        go_simp
      refine wpAnyH_take (i := 1) (v := .pointer (some ⟨b, 0, none⟩)) rfl (by kernel_rfl) (by kernel_rfl) (by kernel_rfl) (fun _ _ _ h => h) (Or.inl ⟨by kernel_rfl, fun w9 h9 => ?_⟩) HK.out ?_
      · clear h9
        go_simp
      refine wpAnyH_take (i := 2) (v := .pointer (some ⟨b, 0, none⟩)) rfl (by kernel_rfl) (by kernel_rfl) (by kernel_rfl) (fun _ _ _ h => h) (Or.inl ⟨by kernel_rfl, fun w9 h9 => ?_⟩) HK.out ?_
      · clear h9
        go_simp
      refine wpAnyH_take (i := 3) (v := .pointer (some ⟨b, 0, none⟩)) rfl (by kernel_rfl) (by kernel_rfl) (by kernel_rfl) (fun _ _ _ h => h) (Or.inl ⟨by kernel_rfl, fun w9 h9 => ?_⟩) HK.out ?_
      · clear h9
        go_simp
      refine wpAnyH_take (i := 4) (v := .slice (some ⟨mb, 0, none⟩) n n) rfl (by kernel_rfl) (by kernel_rfl) (by kernel_rfl) (fun _ _ _ h => h) (Or.inl ⟨by kernel_rfl, fun w9 h9 => ?_⟩) HK.out ?_
      · obtain ⟨d0, d1, d2, d3, d4, d5, d6, d7⟩ := h9
        go_simp
      refine wpAnyH_take (i := 6) (v := .pointer (some ⟨b, 0, none⟩)) rfl (by kernel_rfl) (by kernel_rfl) (by kernel_rfl) (fun _ _ _ h => h) (Or.inl ⟨by kernel_rfl, fun w9 h9 => ?_⟩) HK.out ?_
      · clear h9
        go_simp
      refine wpAnyH_take (i := 7) (v := .pointer (some ⟨b, 0, none⟩)) rfl (by kernel_rfl) (by kernel_rfl) (by kernel_rfl) (fun _ _ _ h => h) (Or.inl ⟨by kernel_rfl, fun w9 h9 => ?_⟩) HK.out ?_
      · clear h9
        go_simp
      refine wpAnyH_take (i := 8) (v := .pointer (some ⟨b, 0, none⟩)) rfl (by kernel_rfl) (by kernel_rfl) (by kernel_rfl) (fun _ _ _ h => h) (Or.inl ⟨by kernel_rfl, fun w9 h9 => ?_⟩) HK.out ?_
      · clear h9
        go_simp
      refine wpAnyH_take (i := 9) (v := .pointer (some ⟨b, 1, none⟩)) rfl (by kernel_rfl) (by kernel_rfl) (by kernel_rfl) (fun _ _ _ h => h) (Or.inl ⟨by kernel_rfl, fun w9 h9 => ?_⟩) HK.out ?_
      · clear h9
        go_simp
      refine wpAnyH_take (i := 10) (v := .agg #[.int .i64 e1, .int .i64 e2, .int .i64 e3, .int .i64 e4, .int .i64 e5, .int .i64 e6]) rfl (by kernel_rfl) (by kernel_rfl) (by kernel_rfl) (fun _ _ _ h => h) (Or.inl ⟨by kernel_rfl, fun w9 h9 => ?_⟩) HK.out ?_
      · obtain ⟨d0, d1, d2, d3, d4, d5, d6, d7⟩ := h9
        go_simp
      refine wpAnyH_take (i := 11) (v := .int .i64 1) rfl (by kernel_rfl) (by kernel_rfl) (by kernel_rfl) (fun _ _ _ h => h) (Or.inl ⟨by kernel_rfl, fun w9 h9 => ?_⟩) HK.out ?_
      · clear h9
        go_simp
      refine wpAnyH_take (i := 12) (v := .pointer (some ⟨b, 0, none⟩)) rfl (by kernel_rfl) (by kernel_rfl) (by kernel_rfl) (fun _ _ _ h => h) (Or.inl ⟨by kernel_rfl, fun w9 h9 => ?_⟩) HK.out ?_
      · clear h9
        go_simp
      refine wpAnyH_take (i := 13) (v := .pointer (some ⟨b, 0, none⟩)) rfl (by kernel_rfl) (by kernel_rfl) (by kernel_rfl) (fun _ _ _ h => h) (Or.inl ⟨by kernel_rfl, fun w9 h9 => ?_⟩) HK.out ?_
      · clear h9
        go_simp
      refine wpAnyH_take (i := 14) (v := .pointer (some ⟨b, 0, none⟩)) rfl (by kernel_rfl) (by kernel_rfl) (by kernel_rfl) (fun _ _ _ h => h) (Or.inl ⟨by kernel_rfl, fun w9 h9 => ?_⟩) HK.out ?_
      · clear h9
        go_simp
      refine wpAnyH_take (i := 15) (v := .pointer (some ⟨b, 7, none⟩)) rfl (by kernel_rfl) (by kernel_rfl) (by kernel_rfl) (fun _ _ _ h => h) (Or.inl ⟨by kernel_rfl, fun w9 h9 => ?_⟩) HK.out ?_
      · clear h9
        go_simp
      refine wpAnyH_take (i := 16) (v := .bool rg) rfl (by kernel_rfl) (by kernel_rfl) (by kernel_rfl) (fun _ _ _ h => h) (Or.inl ⟨by kernel_rfl, fun w9 h9 => ?_⟩) HK.out ?_
      · obtain ⟨d0, d1, d2, d3, d4, d5, d6, d7⟩ := h9
        go_simp
      refine held_one 5 (by kernel_rfl) rfl (by kernel_rfl) fun K hK => ?_
      go_simp
      refine Calls.mono (HT9.out _ HPP.out.mem) ?_
      rintro e y2 ⟨rfl, hu⟩
      have HX2 : Hid _ := HXX.out.step hu
      have HP2 : Hid _ := HPP.out.below hu
      clear hu
      go_simp
      refine hK _ _ HP2.out.eight ?_
      clear hK K
      have HK2 : Hid _ := HP2.out.eight
      refine wpAnyH_take (i := 17) (v := .agg #[.int .i64 0, .string rm, .int .i64 e1, .int .i64 e2, .int .i64 e3, .int .i64 e4, .int .i64 e5, .int .i64 e6, .string ⟨#[]⟩, .int .i64 1, .bool rg]) rfl (by kernel_rfl) (by kernel_rfl) (by kernel_rfl) (fun _ _ _ h => h) (Or.inl ⟨by kernel_rfl, fun w9 h9 => ?_⟩) HK2.out ?_
      · clear h9
        go_simp
      have r0 := HX2.out.c2 0 _ rfl
      have r1 := HX2.out.c2 1 _ rfl
      have r2 := HX2.out.c2 2 _ rfl
      have r3 := HX2.out.c2 3 _ rfl
      have r4 := HX2.out.c2 4 _ rfl
      have r5 := HX2.out.c2 5 _ rfl
      have r6 := HX2.out.c2 6 _ rfl
      have r7 := HX2.out.c2 7 _ rfl
      have r8 := HX2.out.c2 8 _ rfl
      have r9 := HX2.out.c2 9 _ rfl
      have r10 := HX2.out.c2 10 _ rfl
      have rf := fun k => HX2.out.f2 k
      have rl := HX2.out.lt2
      have HP3 : Hid _ := (((((((((((HP2.out.oth (B := w.heap.size + 1) (by have := HLT.out; omega) (by have := HLT.out; omega) 0 (.int .i64 0)).oth (B := w.heap.size + 1) (by have := HLT.out; omega) (by have := HLT.out; omega) 1 (.string rm)).oth (B := w.heap.size + 1) (by have := HLT.out; omega) (by have := HLT.out; omega) 2 (.int .i64 e1)).oth (B := w.heap.size + 1) (by have := HLT.out; omega) (by have := HLT.out; omega) 3 (.int .i64 e2)).oth (B := w.heap.size + 1) (by have := HLT.out; omega) (by have := HLT.out; omega) 4 (.int .i64 e3)).oth (B := w.heap.size + 1) (by have := HLT.out; omega) (by have := HLT.out; omega) 5 (.int .i64 e4)).oth (B := w.heap.size + 1) (by have := HLT.out; omega) (by have := HLT.out; omega) 6 (.int .i64 e5)).oth (B := w.heap.size + 1) (by have := HLT.out; omega) (by have := HLT.out; omega) 7 (.int .i64 e6)).oth (B := w.heap.size + 1) (by have := HLT.out; omega) (by have := HLT.out; omega) 8 (.string ⟨#[]⟩)).oth (B := w.heap.size + 1) (by have := HLT.out; omega) (by have := HLT.out; omega) 9 (.int .i64 1)).oth (B := w.heap.size + 1) (by have := HLT.out; omega) (by have := HLT.out; omega) 10 (.bool rg))
      refine held_one 18 (by kernel_rfl) rfl (by kernel_rfl) fun K hK => ?_
      go_simp
      refine hK _ _ HP3.out.eight ?_
      clear hK K HP3
      refine wpAnyH_done (by kernel_rfl) ?_ _
      go_simp
      go_wp2_with fail
      refine bodyPost_ret (v := .agg #[.int .i64 0, .string rm, .int .i64 e1, .int .i64 e2, .int .i64 e3, .int .i64 e4, .int .i64 e5, .int .i64 e6, .string ⟨#[]⟩, .int .i64 1, .bool rg]) ?_ rfl ⟨rfl, ?_⟩
      · simp [results, Try.results11, go_sem, r0, r1, r2, r3, r4, r5, r6, r7, r8, r9, r10]
      · exact (((((((((((HX2.out.bel.setCell (by simp) _).setCell (by simp) _).setCell (by simp) _).setCell (by simp) _).setCell (by simp) _).setCell (by simp) _).setCell (by simp) _).setCell (by simp) _).setCell (by simp) _).setCell (by simp) _).setCell (by simp) _)
    · go_wp2_with (go_at_call 48; refine Calls.mono HW1.out ?_; rintro e y1 ⟨rfl, hp1, hf1⟩; have HX1 : Hid _ := HX.out.fr2 hf1 HLT.out.1 HLT.out.2; clear hp1 hf1; have r0 := HX1.out.c2 0 _ rfl; have r1 := HX1.out.c2 1 _ rfl; have r2 := HX1.out.c2 2 _ rfl; have r3 := HX1.out.c2 3 _ rfl; have r4 := HX1.out.c2 4 _ rfl; have r5 := HX1.out.c2 5 _ rfl; have r6 := HX1.out.c2 6 _ rfl; have r7 := HX1.out.c2 7 _ rfl; have r8 := HX1.out.c2 8 _ rfl; have r9 := HX1.out.c2 9 _ rfl; have r10 := HX1.out.c2 10 _ rfl; have rf := fun k => HX1.out.f2 k)
      refine bodyPost_ret (v := .agg #[.int .i64 rc, .string ⟨#[]⟩, .int .i64 0, .int .i64 0, .int .i64 0, .int .i64 0, .int .i64 0, .int .i64 0, .string ⟨#[]⟩, .int .i64 0, .bool false]) ?_ rfl ⟨?_, ?_⟩
      · simp [results, Try.results11, go_sem, r0, r1, r2, r3, r4, r5, r6, r7, r8, r9, r10]
      · first | rfl | (rw [if_neg hrc]) | simp [hrc]
      · exact (((((((((((HX1.out.bel.setCell (by simp) _).setCell (by simp) _).setCell (by simp) _).setCell (by simp) _).setCell (by simp) _).setCell (by simp) _).setCell (by simp) _).setCell (by simp) _).setCell (by simp) _).setCell (by simp) _).setCell (by simp) _)
/-- What ReceiveFrame answers. -/
def rfT (s : ByteArray) (q : QV) (f : ByteArray) : SvR :=
  if 65536 < s.size then svC 2 else if 65536 < f.size then svC 2 else if qOk s q = true then (if 1500 < f.size then svC 1 else (if (rvR s q.size.toNat q.desc.toNat q.avail.toNat q.used.toNat q.taken.toNat q.given.toNat false f).1 = 0 then (0, (rvR s q.size.toNat q.desc.toNat q.avail.toNat q.used.toNat q.taken.toNat q.given.toNat false f).2.1, (rvR s q.size.toNat q.desc.toNat q.avail.toNat q.used.toNat q.taken.toNat q.given.toNat false f).2.2.1, 1, (rvR s q.size.toNat q.desc.toNat q.avail.toNat q.used.toNat q.taken.toNat q.given.toNat false f).2.2.2) else svC (rvR s q.size.toNat q.desc.toNat q.avail.toNat q.used.toNat q.taken.toNat q.given.toNat false f).1)) else svC 1
theorem qn {s : ByteArray} {q : QV} (h : qOk s q = true) : ∃ S D A U T G : Nat, q = ⟨S, D, A, U, T, G⟩ := by
  obtain ⟨_, hsz, ht, hg, hd, ha, hu⟩ := qOk_b h
  have hS : 1 ≤ q.size := by unfold szB at hsz; simp at hsz; omega
  obtain ⟨sz, d, a, us, tk, gv⟩ := q
  simp only at hS ht hg hd ha hu
  obtain ⟨S, rfl⟩ := Int.eq_ofNat_of_zero_le (show 0 ≤ sz by omega)
  obtain ⟨D, rfl⟩ := Int.eq_ofNat_of_zero_le hd.2.1
  obtain ⟨A, rfl⟩ := Int.eq_ofNat_of_zero_le ha.2.1
  obtain ⟨U, rfl⟩ := Int.eq_ofNat_of_zero_le hu.2.1
  obtain ⟨T, rfl⟩ := Int.eq_ofNat_of_zero_le ht.1
  obtain ⟨G, rfl⟩ := Int.eq_ofNat_of_zero_le hg.1
  exact ⟨S, D, A, U, T, G, rfl⟩
theorem implRV_any (s f : ByteArray) (q : QV) (hs : s.size ≤ 1048576) (hfs : f.size ≤ 1048576) : AnsV 11 s q f (rfT s q f) := by
  unfold rfT
  by_cases h1 : 65536 < s.size
  · rw [if_pos h1]
    exact implRV_long1 s f q hs hfs h1
  rw [if_neg h1]
  by_cases h2 : 65536 < f.size
  · rw [if_pos h2]
    exact implRV_long2 s f q hs hfs h1 h2
  rw [if_neg h2]
  cases hp : qOk s q
  · rw [if_neg (by simp)]
    exact implRV_form1 s f q hs hfs h1 h2 hp
  rw [if_pos rfl]
  by_cases h3 : 1500 < f.size
  · rw [if_pos h3]
    exact implRV_form2 s f q hs hfs h1 h2 hp h3
  rw [if_neg h3]
  obtain ⟨S, D, A, U, T, G, rfl⟩ := qn hp
  exact implRV_good s f S D A U T G hp (by omega)
end Go.Proofs.Ythhbfghbpapklab
