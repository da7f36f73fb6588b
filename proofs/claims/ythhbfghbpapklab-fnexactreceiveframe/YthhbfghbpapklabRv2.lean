import Derived.Test.YthhbfghbpapklabRv1
namespace Go.Proofs.Ythhbfghbpapklab
open Go.ChangeShapes Go.WideShapes Go.ChangeAt Go.RowKit

theorem own9 {u : World} {C n B : Nat} {v : Value} {xs : List Value} {x0 x1 x2 x3 x4 x5 x6 x7 x8 : Value} (h : u.ownsRow C 153 3 v n xs) (hn : v.ownBlock ≠ some B) : (((((((((u.setCell ⟨B, 0, none⟩ x0).setCell ⟨B, 1, none⟩ x1).setCell ⟨B, 2, none⟩ x2).setCell ⟨B, 3, none⟩ x3).setCell ⟨B, 4, none⟩ x4).setCell ⟨B, 5, none⟩ x5).setCell ⟨B, 6, none⟩ x6).setCell ⟨B, 7, none⟩ x7).setCell ⟨B, 8, none⟩ x8).ownsRow C 153 3 v n xs := by
  have h0 := own_set (p := ⟨B, 0, none⟩) (x := x0) h hn
  have h1 := own_set (p := ⟨B, 1, none⟩) (x := x1) h0 hn
  have h2 := own_set (p := ⟨B, 2, none⟩) (x := x2) h1 hn
  have h3 := own_set (p := ⟨B, 3, none⟩) (x := x3) h2 hn
  have h4 := own_set (p := ⟨B, 4, none⟩) (x := x4) h3 hn
  have h5 := own_set (p := ⟨B, 5, none⟩) (x := x5) h4 hn
  have h6 := own_set (p := ⟨B, 6, none⟩) (x := x6) h5 hn
  have h7 := own_set (p := ⟨B, 7, none⟩) (x := x7) h6 hn
  exact own_set (p := ⟨B, 8, none⟩) (x := x8) h7 hn
theorem RV.nine {w u : World} {b mb n t : Nat} {q : QV} {sg : Bool} {rest : Array Value} {s : ByteArray} {g : Nat} {f : ByteArray} {B3 : Nat} {a0 a1 a2 a3 a4 a5 a6 a7 a8 : Value} (h : RV w u b mb n t q sg rest s g f B3 #[a0, a1, a2, a3, a4, a5, a6, a7, a8]) (x0 x1 x2 x3 x4 x5 x6 x7 x8 : Value) : RV w (((((((((u.setCell ⟨B3, 0, none⟩ x0).setCell ⟨B3, 1, none⟩ x1).setCell ⟨B3, 2, none⟩ x2).setCell ⟨B3, 3, none⟩ x3).setCell ⟨B3, 4, none⟩ x4).setCell ⟨B3, 5, none⟩ x5).setCell ⟨B3, 6, none⟩ x6).setCell ⟨B3, 7, none⟩ x7).setCell ⟨B3, 8, none⟩ x8) b mb n t q sg rest s g f B3 #[x0, x1, x2, x3, x4, x5, x6, x7, x8] := by
  have h0 : RV w (u.setCell ⟨B3, 0, none⟩ x0) b mb n t q sg rest s g f B3 #[x0, a1, a2, a3, a4, a5, a6, a7, a8] := by simpa using h.put 0 x0
  have h1 : RV w ((u.setCell ⟨B3, 0, none⟩ x0).setCell ⟨B3, 1, none⟩ x1) b mb n t q sg rest s g f B3 #[x0, x1, a2, a3, a4, a5, a6, a7, a8] := by simpa using h0.put 1 x1
  have h2 : RV w (((u.setCell ⟨B3, 0, none⟩ x0).setCell ⟨B3, 1, none⟩ x1).setCell ⟨B3, 2, none⟩ x2) b mb n t q sg rest s g f B3 #[x0, x1, x2, a3, a4, a5, a6, a7, a8] := by simpa using h1.put 2 x2
  have h3 : RV w ((((u.setCell ⟨B3, 0, none⟩ x0).setCell ⟨B3, 1, none⟩ x1).setCell ⟨B3, 2, none⟩ x2).setCell ⟨B3, 3, none⟩ x3) b mb n t q sg rest s g f B3 #[x0, x1, x2, x3, a4, a5, a6, a7, a8] := by simpa using h2.put 3 x3
  have h4 : RV w (((((u.setCell ⟨B3, 0, none⟩ x0).setCell ⟨B3, 1, none⟩ x1).setCell ⟨B3, 2, none⟩ x2).setCell ⟨B3, 3, none⟩ x3).setCell ⟨B3, 4, none⟩ x4) b mb n t q sg rest s g f B3 #[x0, x1, x2, x3, x4, a5, a6, a7, a8] := by simpa using h3.put 4 x4
  have h5 : RV w ((((((u.setCell ⟨B3, 0, none⟩ x0).setCell ⟨B3, 1, none⟩ x1).setCell ⟨B3, 2, none⟩ x2).setCell ⟨B3, 3, none⟩ x3).setCell ⟨B3, 4, none⟩ x4).setCell ⟨B3, 5, none⟩ x5) b mb n t q sg rest s g f B3 #[x0, x1, x2, x3, x4, x5, a6, a7, a8] := by simpa using h4.put 5 x5
  have h6 : RV w (((((((u.setCell ⟨B3, 0, none⟩ x0).setCell ⟨B3, 1, none⟩ x1).setCell ⟨B3, 2, none⟩ x2).setCell ⟨B3, 3, none⟩ x3).setCell ⟨B3, 4, none⟩ x4).setCell ⟨B3, 5, none⟩ x5).setCell ⟨B3, 6, none⟩ x6) b mb n t q sg rest s g f B3 #[x0, x1, x2, x3, x4, x5, x6, a7, a8] := by simpa using h5.put 6 x6
  have h7 : RV w ((((((((u.setCell ⟨B3, 0, none⟩ x0).setCell ⟨B3, 1, none⟩ x1).setCell ⟨B3, 2, none⟩ x2).setCell ⟨B3, 3, none⟩ x3).setCell ⟨B3, 4, none⟩ x4).setCell ⟨B3, 5, none⟩ x5).setCell ⟨B3, 6, none⟩ x6).setCell ⟨B3, 7, none⟩ x7) b mb n t q sg rest s g f B3 #[x0, x1, x2, x3, x4, x5, x6, x7, a8] := by simpa using h6.put 7 x7
  have h8 : RV w (((((((((u.setCell ⟨B3, 0, none⟩ x0).setCell ⟨B3, 1, none⟩ x1).setCell ⟨B3, 2, none⟩ x2).setCell ⟨B3, 3, none⟩ x3).setCell ⟨B3, 4, none⟩ x4).setCell ⟨B3, 5, none⟩ x5).setCell ⟨B3, 6, none⟩ x6).setCell ⟨B3, 7, none⟩ x7).setCell ⟨B3, 8, none⟩ x8) b mb n t q sg rest s g f B3 #[x0, x1, x2, x3, x4, x5, x6, x7, x8] := by simpa using h7.put 8 x8
  exact h8
theorem PT.seven {u : World} {b mb n t : Nat} {S D A U T G : Int} {sg : Bool} {rest : Array Value} {s : ByteArray} (h : PT u b mb n t ⟨S, D, A, U, T, G⟩ sg rest s) : u.cell? ⟨b, 0, none⟩ = some (.slice (some ⟨mb, 0, none⟩) n n) ∧ u.cell? ⟨b, 1, none⟩ = some (.int .i64 S) ∧ u.cell? ⟨b, 2, none⟩ = some (.int .i64 D) ∧ u.cell? ⟨b, 3, none⟩ = some (.int .i64 A) ∧ u.cell? ⟨b, 4, none⟩ = some (.int .i64 U) ∧ u.cell? ⟨b, 5, none⟩ = some (.int .i64 T) ∧ u.cell? ⟨b, 6, none⟩ = some (.int .i64 G) := ⟨h.cel 0 _ rfl, h.cel 1 _ rfl, h.cel 2 _ rfl, h.cel 3 _ rfl, h.cel 4 _ rfl, h.cel 5 _ rfl, h.cel 6 _ rfl⟩
set_option maxRecDepth 100000 in
set_option maxHeartbeats 4000000 in
theorem recvServe_any {w : World} {b mb n g fcap : Nat} {s f : ByteArray} {sg : Bool} (S D A U T G : Nat) (h : PT w b mb n 92 ⟨S, D, A, U, T, G⟩ sg #[.slice (some ⟨g, 0, none⟩) f.size fcap] s) (hd : DA w g 0 f) (hgm : g ≠ mb) (hfc : f.size ≤ fcap) (hf : f.size ≤ 1500) (hp : qOk s ⟨S, D, A, U, T, G⟩ = true) (hn : s.size = n * 256) :
    Calls Try.prog 210 #[.pointer (some ⟨b, 0, none⟩)] w fun e w' => e = .returned (.int .i64 (rvR s S D A U T G sg f).1) ∧ PT w' b mb n 92 (rvR s S D A U T G sg f).2.2.1 (rvR s S D A U T G sg f).2.2.2 #[.slice (some ⟨g, 0, none⟩) f.size fcap] (rvR s S D A U T G sg f).2.1 ∧ Fr2 w w' b mb := by
  obtain ⟨hm, hz, ⟨t0, t1⟩, ⟨g0, g1⟩, ⟨b1, b2, b3⟩, ⟨c1, c2, c3⟩, ⟨e1, e2, e3⟩⟩ := qOk_b hp
  obtain ⟨m1, m2, m3⟩ := memOk_b hm
  simp only at hz b1 b2 b3 c1 c2 c3 e1 e2 e3 t0 t1 g0 g1
  have hS : 1 ≤ S ∧ S ≤ 16 := by unfold szB at hz; simp at hz; omega
  have HTC : Hid _ := fun (x : World) (h : MemAt x mb s) => takeChain_any S D A T U G h hn m2 hS.1 hS.2 (by omega) (by omega) (by omega) (by omega) (by omega)
  have HOK : Hid _ := fun h p zs (hq : tcR s S D A T U G = (0, h, p, zs)) => tcR_ok hq
  have HSP : Hid (∀ (x : World) (B : Nat) (v : Value) (zs : List BU), x.ownsRow B 153 3 v zs.length (buR zs) → MemAt x mb s → DA x g 0 f → (∀ j (hj : j < zs.length), inW s.size zs[j].pos zs[j].len = true) → zs.length ≤ 1000 → Calls Try.prog 66 #[mv mb n, v, .slice (some ⟨g, 0, none⟩) f.size fcap] x fun e w' => e = .returned (.tuple #[]) ∧ MemAt w' mb (spK s f zs zs.length).1 ∧ x.grownBy w' (some mb)) := fun x B v zs hr hm2 hd2 hz2 hl => spread_any hr hm2 hd2 hgm hfc hn m2 hz2 hl (by omega)
  have HGB : Hid (∀ (x : World) (c hd : Int) (v : Value) (s' : ByteArray) (sg : Bool) (q : QV), (∃ ao L cap, v = .slice ao L cap) → s'.size = s.size → PT x b mb n 92 q sg #[.slice (some ⟨g, 0, none⟩) f.size fcap] s' → Calls Try.prog 212 #[.pointer (some ⟨b, 0, none⟩), tcA c hd v ⟨S, D, A, U, ((T + 1) % 65536 : Nat), G⟩, .int .i64 f.size] x fun e w' => e = .returned (.tuple #[]) ∧ PT w' b mb n 92 ⟨S, D, A, U, ((T + 1) % 65536 : Nat), (((G + 1) % 65536 : Nat) : Int)⟩ (sg || (wv (gcM s' S U G hd f.size) A % 2 == 0)) #[.slice (some ⟨g, 0, none⟩) f.size fcap] (gcM s' S U G hd f.size) ∧ Fr2 x w' b mb) := fun x c hd v s' sg q hv hs' hpt => giveBack_any S A U G D _ c hd _ v hv hpt (by omega) (by omega) hS.1 hS.2 (by omega) (by omega) (by omega) (by omega) (by omega)
  have HS16 : Hid (S ≤ 16 ∧ s.size ≤ 65536) := ⟨hS.2, m2⟩
  have HRE : Hid (∀ c h p zs, tcR s S D A T U G = (c, h, p, zs) → rvR s S D A U T G sg f = if c = 0 then (if rmS zs < f.size then (4, s, ⟨S, D, A, U, T, G⟩, sg) else (0, gcM (spK s f zs zs.length).1 S U G h f.size, ⟨S, D, A, U, ((T + 1) % 65536 : Nat), ((G + 1) % 65536 : Nat)⟩, sg || (wv (gcM (spK s f zs zs.length).1 S U G h f.size) A % 2 == 0))) else (c, s, ⟨S, D, A, U, T, G⟩, sg)) := fun c h p zs hq => by unfold rvR; rw [hq]
  have HP0 : Hid _ := h
  have HD0 : Hid _ := hd
  have HLT : Hid (b < w.heap.size ∧ g < w.heap.size ∧ mb < w.heap.size) := ⟨h.lt, hd.lt, h.mem.lt⟩
  have hfb : (f.size : Int) ≤ 1500 := by omega
  generalize rvR s S D A U T G sg f = RR at *
  obtain ⟨TT, hTT⟩ : ∃ TT, tcR s S D A T U G = TT := ⟨_, rfl⟩
  rw [hTT] at HTC HOK HRE
  obtain ⟨tc, th, ⟨p0, p1, p2, p3, p4, p5⟩, tz⟩ := TT
  have HR1 : Hid _ := HRE.out tc th ⟨p0, p1, p2, p3, p4, p5⟩ tz rfl
  clear HRE hTT h hd hfc hf hp hm hz t0 t1 g0 g1 b1 b2 b3 c1 c2 c3 e1 e2 e3 m1 m2 m3 hn hS
  unfold qA at HTC
  unfold mv at HTC HSP
  unfold tcA at HTC HGB
  simp only at HTC
  go_enter Try.func210, Try.ntmps210
  go_upto_region 1 with fail
  go_cut [3] (fun s3 wc => ∃ B3 ao cap, s3 = .pointer (some ⟨B3, 0, none⟩) ∧ RV w wc b mb n 92 ⟨S, D, A, U, T, G⟩ sg #[.slice (some ⟨g, 0, none⟩) f.size fcap] s g f B3 #[.int .i64 tc, .int .i64 th, .slice ao tz.length cap, .int .i64 p0, .int .i64 p1, .int .i64 p2, .int .i64 p3, .int .i64 p4, .int .i64 p5] ∧ wc.ownsRow w.heap.size 153 3 (.slice ao tz.length cap) tz.length (buR tz))
  case first =>
    have HXP : Hid (PT w.drew b mb n 92 ⟨S, D, A, U, T, G⟩ sg #[.slice (some ⟨g, 0, none⟩) f.size fcap] s) := HP0.out.below ((Below.refl _ _).drew)
    have HXD : Hid (DA w.drew g 0 f) := HD0.out.below ((Below.refl _ _).drew)
    have HXB : Hid (Below w.heap.size w w.drew) := (Below.refl _ _).drew
    have HK : Hid _ := HXP.out.seven
    have ltX : b < w.drew.heap.size := HXP.out.lt
    clear HSP HGB HOK HR1
    refine wp_region_held (S := fun w' => w'.cell? ⟨b, 0, none⟩ = some (.slice (some ⟨mb, 0, none⟩) n n) ∧ w'.cell? ⟨b, 1, none⟩ = some (.int .i64 S) ∧ w'.cell? ⟨b, 2, none⟩ = some (.int .i64 D) ∧ w'.cell? ⟨b, 3, none⟩ = some (.int .i64 A) ∧ w'.cell? ⟨b, 4, none⟩ = some (.int .i64 U) ∧ w'.cell? ⟨b, 5, none⟩ = some (.int .i64 T) ∧ w'.cell? ⟨b, 6, none⟩ = some (.int .i64 G)) (by kernel_rfl) ?_
    change wpAnyH _ _ _ _ _ _ _ _ (World.drew _)
    generalize w.drew = X at *
    refine wpAnyH_take (i := 0) (v := .pointer (some ⟨b, 0, none⟩)) rfl (by kernel_rfl) (by kernel_rfl) (by kernel_rfl) (fun _ _ _ h => h) (Or.inl ⟨by kernel_rfl, fun w9 h9 => ?_⟩) HK.out ?_
    · clear h9
      go_simp
    refine wpAnyH_take (i := 1) (v := .pointer (some ⟨b, 0, none⟩)) rfl (by kernel_rfl) (by kernel_rfl) (by kernel_rfl) (fun _ _ _ h => h) (Or.inl ⟨by kernel_rfl, fun w9 h9 => ?_⟩) HK.out ?_
    · clear h9
      go_simp
    refine wpAnyH_take (i := 2) (v := .pointer (some ⟨b, 0, none⟩)) rfl (by kernel_rfl) (by kernel_rfl) (by kernel_rfl) (fun _ _ _ h => h) (Or.inl ⟨by kernel_rfl, fun w9 h9 => ?_⟩) HK.out ?_
    · clear h9
      go_simp
    refine wpAnyH_take (i := 3) (v := .pointer (some ⟨b, 0, none⟩)) rfl (by kernel_rfl) (by kernel_rfl) (by kernel_rfl) (fun _ _ _ h => h) (Or.inl ⟨by kernel_rfl, fun w9 h9 => ?_⟩) HK.out ?_
    · clear h9
      go_simp
    refine wpAnyH_take (i := 4) (v := .slice (some ⟨mb, 0, none⟩) n n) rfl (by kernel_rfl) (by kernel_rfl) (by kernel_rfl) (fun _ _ _ h => h) (Or.inl ⟨by kernel_rfl, fun w9 h9 => ?_⟩) HK.out ?_
    · obtain ⟨d0, d1, d2, d3, d4, d5, d6⟩ := h9
      go_simp
    refine wpAnyH_take (i := 5) (v := .pointer (some ⟨b, 0, none⟩)) rfl (by kernel_rfl) (by kernel_rfl) (by kernel_rfl) (fun _ _ _ h => h) (Or.inl ⟨by kernel_rfl, fun w9 h9 => ?_⟩) HK.out ?_
    · clear h9
      go_simp
    refine wpAnyH_take (i := 6) (v := .pointer (some ⟨b, 0, none⟩)) rfl (by kernel_rfl) (by kernel_rfl) (by kernel_rfl) (fun _ _ _ h => h) (Or.inl ⟨by kernel_rfl, fun w9 h9 => ?_⟩) HK.out ?_
    · clear h9
      go_simp
    refine wpAnyH_take (i := 7) (v := .pointer (some ⟨b, 0, none⟩)) rfl (by kernel_rfl) (by kernel_rfl) (by kernel_rfl) (fun _ _ _ h => h) (Or.inl ⟨by kernel_rfl, fun w9 h9 => ?_⟩) HK.out ?_
    · clear h9
      go_simp
    refine wpAnyH_take (i := 8) (v := .pointer (some ⟨b, 1, none⟩)) rfl (by kernel_rfl) (by kernel_rfl) (by kernel_rfl) (fun _ _ _ h => h) (Or.inl ⟨by kernel_rfl, fun w9 h9 => ?_⟩) HK.out ?_
    · clear h9
      go_simp
    refine wpAnyH_take (i := 9) (v := .agg #[.int .i64 S, .int .i64 D, .int .i64 A, .int .i64 U, .int .i64 T, .int .i64 G]) rfl (by kernel_rfl) (by kernel_rfl) (by kernel_rfl) (fun _ _ _ h => h) (Or.inl ⟨by kernel_rfl, fun w9 h9 => ?_⟩) HK.out ?_
    · obtain ⟨d0, d1, d2, d3, d4, d5, d6⟩ := h9
      go_simp
    refine wpAnyH_all (rs := [10, 11]) (by kernel_rfl) (by simp) (all_two (held_step rfl (by kernel_rfl) fun K hK => ?_) (held_step rfl (by kernel_rfl) fun K hK => ?_))
    · go_simp
      refine Calls.mono (HTC.out _ HXP.out.mem) ?_
      rintro e y2 ⟨v, rfl, ho, hu⟩
      obtain ⟨ao, cap, rfl⟩ := bu_sl ho
      have HP2 : Hid _ := HXP.out.below hu
      have HD2 : Hid _ := HXD.out.below hu
      have HB2 : Hid (Below w.heap.size w y2) := HXB.out.trans (hu.mono HXB.out.size)
      have HO2 : Hid (y2.ownsRow w.heap.size 153 3 (.slice ao tz.length cap) tz.length (buR tz)) := bu_weak ho HXB.out.size
      clear hu ho
      go_simp
      refine hK _ _ HP2.out.seven ?_
      clear hK K
      refine held_one 11 (by kernel_rfl) rfl (by kernel_rfl) fun K hK => ?_
      go_simp
      have H3 : Hid _ := RV.new (w := w) HP2.out HD2.out HB2.out HLT.out.1 HLT.out.2.1 HLT.out.2.2 #[.int .i64 0, .int .i64 0, .slice none 0 0, .int .i64 0, .int .i64 0, .int .i64 0, .int .i64 0, .int .i64 0, .int .i64 0]
      have HO3 : Hid ((y2.alloc (.cells #[.int .i64 0, .int .i64 0, .slice none 0 0, .int .i64 0, .int .i64 0, .int .i64 0, .int .i64 0, .int .i64 0, .int .i64 0] 76)).ownsRow w.heap.size 153 3 (.slice ao tz.length cap) tz.length (buR tz)) := bu_below HO2.out (bx1 _ _)
      have HNB : Hid ((Value.slice ao tz.length cap).ownBlock ≠ some y2.heap.size) := fun e => by have := (HO2.out.lt _ e).2; omega
      refine hK _ _ H3.out.pt.seven ?_
      clear hK K
      generalize (y2.alloc (.cells #[.int .i64 0, .int .i64 0, .slice none 0 0, .int .i64 0, .int .i64 0, .int .i64 0, .int .i64 0, .int .i64 0, .int .i64 0] 76)) = V at *
      generalize y2.heap.size = B3 at *
      have HP : Hid _ := H3.out.nine (.int .i64 tc) (.int .i64 th) (.slice ao tz.length cap) (.int .i64 p0) (.int .i64 p1) (.int .i64 p2) (.int .i64 p3) (.int .i64 p4) (.int .i64 p5)
      have z0 := bC H3.out.bx 0 _ rfl
      have z1 := bC H3.out.bx 1 _ rfl
      have z2 := bC H3.out.bx 2 _ rfl
      have z3 := bC H3.out.bx 3 _ rfl
      have z4 := bC H3.out.bx 4 _ rfl
      have z5 := bC H3.out.bx 5 _ rfl
      have z6 := bC H3.out.bx 6 _ rfl
      have z7 := bC H3.out.bx 7 _ rfl
      have z8 := bC H3.out.bx 8 _ rfl
      have zf := fun k => bF H3.out.bx k
      have zl := H3.out.lt
      refine held_one 12 (by kernel_rfl) rfl (by kernel_rfl) fun K hK => ?_
      go_simp
      refine hK _ _ HP.out.pt.seven ?_
      clear hK K
      refine wpAnyH_done (by kernel_rfl) ?_ _
      go_simp
      go_wp2_with fail
      go_meet
      case rel => exact ⟨_, ao, cap, rfl, HP.out, own9 HO3.out HNB.out⟩
    · go_simp
      have H3 : Hid _ := RV.new (w := w) HXP.out HXD.out HXB.out HLT.out.1 HLT.out.2.1 HLT.out.2.2 #[.int .i64 0, .int .i64 0, .slice none 0 0, .int .i64 0, .int .i64 0, .int .i64 0, .int .i64 0, .int .i64 0, .int .i64 0]
      have hB3 : X.heap.size < (X.alloc (.cells #[.int .i64 0, .int .i64 0, .slice none 0 0, .int .i64 0, .int .i64 0, .int .i64 0, .int .i64 0, .int .i64 0, .int .i64 0] 76)).heap.size := by simp
      refine hK _ _ H3.out.pt.seven ?_
      clear hK K
      generalize (X.alloc (.cells #[.int .i64 0, .int .i64 0, .slice none 0 0, .int .i64 0, .int .i64 0, .int .i64 0, .int .i64 0, .int .i64 0, .int .i64 0] 76)) = X2 at *
      generalize X.heap.size = B3 at *
      refine held_one 10 (by kernel_rfl) rfl (by kernel_rfl) fun K hK => ?_
      go_simp
      refine Calls.mono (HTC.out _ H3.out.pt.mem) ?_
      rintro e y2 ⟨v, rfl, ho, hu⟩
      obtain ⟨ao, cap, rfl⟩ := bu_sl ho
      have H4 : Hid _ := H3.out.step hu
      have HNB : Hid ((Value.slice ao tz.length cap).ownBlock ≠ some B3) := fun e => by have := (ho.lt _ e).1; omega
      have HO3 : Hid (y2.ownsRow w.heap.size 153 3 (.slice ao tz.length cap) tz.length (buR tz)) := bu_weak ho (by have := H3.out.fr.size; omega)
      clear hu ho
      go_simp
      refine hK _ _ H4.out.pt.seven ?_
      clear hK K
      have HP : Hid _ := H4.out.nine (.int .i64 tc) (.int .i64 th) (.slice ao tz.length cap) (.int .i64 p0) (.int .i64 p1) (.int .i64 p2) (.int .i64 p3) (.int .i64 p4) (.int .i64 p5)
      have z0 := bC H4.out.bx 0 _ rfl
      have z1 := bC H4.out.bx 1 _ rfl
      have z2 := bC H4.out.bx 2 _ rfl
      have z3 := bC H4.out.bx 3 _ rfl
      have z4 := bC H4.out.bx 4 _ rfl
      have z5 := bC H4.out.bx 5 _ rfl
      have z6 := bC H4.out.bx 6 _ rfl
      have z7 := bC H4.out.bx 7 _ rfl
      have z8 := bC H4.out.bx 8 _ rfl
      have zf := fun k => bF H4.out.bx k
      have zl := H4.out.lt
      refine held_one 12 (by kernel_rfl) rfl (by kernel_rfl) fun K hK => ?_
      go_simp
      refine hK _ _ HP.out.pt.seven ?_
      clear hK K
      refine wpAnyH_done (by kernel_rfl) ?_ _
      go_simp
      go_wp2_with fail
      go_meet
      case rel => exact ⟨_, ao, cap, rfl, HP.out, own9 HO3.out HNB.out⟩
  case rest =>
    obtain ⟨B3, ao, cap, rfl, hrv, hrow⟩ := hcut
    have HV : Hid _ := hrv
    have HO : Hid _ := hrow
    clear hrv hrow HTC HP0 HD0
    have z0 := bC HV.out.bx 0 (.int .i64 tc) rfl
    have z1 := bC HV.out.bx 1 (.int .i64 th) rfl
    have z2 := bC HV.out.bx 2 (.slice ao tz.length cap) rfl
    have z3 := bC HV.out.bx 3 (.int .i64 p0) rfl
    have z4 := bC HV.out.bx 4 (.int .i64 p1) rfl
    have z5 := bC HV.out.bx 5 (.int .i64 p2) rfl
    have z6 := bC HV.out.bx 6 (.int .i64 p3) rfl
    have z7 := bC HV.out.bx 7 (.int .i64 p4) rfl
    have z8 := bC HV.out.bx 8 (.int .i64 p5) rfl
    have zl := HV.out.lt
    by_cases htc : tc = 0
    · subst htc
      rw [if_pos rfl] at HR1
      obtain ⟨hp9, hh9, hi9, hl9⟩ := HOK.out _ _ _ rfl
      have HI : Hid _ := hi9
      have HLZ : Hid (tz.length ≤ 1000) := (show tz.length ≤ 1000 by have := HS16.out.1; omega)
      injection hp9 with e0 e1 e2 e3 e4 e5
      subst e0 e1 e2 e3 e4 e5
      have HBO : Hid _ := fun (x : World) (hx : BUrow x (.slice ao tz.length cap) tz) => bytesOf_any hx (fun z hz => inW_len (HI.out z hz) HS16.out.2) HLZ.out
      have HRB : Hid _ := rmS_b tz (fun z hz => inW_len (HI.out z hz) HS16.out.2)
      clear HOK hh9 hi9 hl9
      have c8 := HV.out.pt.rest 0 (.slice (some ⟨g, 0, none⟩) f.size fcap) rfl
      have cl := HV.out.pt.lt
      by_cases hrm : rmS tz < (f.size : Int)
      · rw [if_pos hrm] at HR1
        go_wp2_with (go_at_call 101; refine Calls.mono (HBO.out _ (BUrow.of HO.out)) ?_; rintro e y3 ⟨rfl, hu⟩; have HV3 : Hid _ := HV.out.step hu; clear hu)
        go_ret
        rw [HR1.out]
        exact ⟨rfl, HV3.out.pt, HV3.out.fr⟩
      rw [if_neg hrm] at HR1
      go_wp2_with (go_at_call 101; refine Calls.mono (HBO.out _ (BUrow.of HO.out)) ?_; rintro e y3 ⟨rfl, hu⟩; have HV3 : Hid _ := HV.out.step hu; have HO3 : Hid (y3.ownsRow w.heap.size 153 3 (.slice ao tz.length cap) tz.length (buR tz)) := bu_below HO.out hu; clear hu)
      have HSS : Hid ((spK s f tz tz.length).1.size = s.size) := (spK_size s f tz s.size rfl (fun j hj => HI.out _ (List.getElem_mem hj)) tz.length (Nat.le_refl _)).1
      have HS1 : Hid _ := fun (x : World) (hr : x.ownsRow w.heap.size 153 3 (.slice ao tz.length cap) tz.length (buR tz)) (hm : MemAt x mb s) (hd : DA x g 0 f) => HSP.out x w.heap.size _ tz hr hm hd (fun j hj => HI.out _ (List.getElem_mem hj)) HLZ.out
      generalize (spK s f tz tz.length).1 = M1 at *
      clear HV HO HSP HBO HRB HI hrm z0 z1 z2 z3 z4 z5 z6 z7 z8 zl c8 cl
      go_cut [] (fun wc => RV w wc b mb n 92 ⟨S, D, A, U, T, G⟩ sg #[.slice (some ⟨g, 0, none⟩) f.size fcap] M1 g f B3 #[.int .i64 0, .int .i64 th, .slice ao tz.length cap, .int .i64 (S : Int), .int .i64 (D : Int), .int .i64 (A : Int), .int .i64 (U : Int), .int .i64 (((T + 1) % 65536 : Nat) : Int), .int .i64 (G : Int)])
      case first =>
        have c0 := HV3.out.pt.cel 0 (.slice (some ⟨mb, 0, none⟩) n n) rfl
        have c8 := HV3.out.pt.rest 0 (.slice (some ⟨g, 0, none⟩) f.size fcap) rfl
        have z2 := bC HV3.out.bx 2 (.slice ao tz.length cap) rfl
        have zl := HV3.out.lt
        have cl := HV3.out.pt.lt
        go_region_held3 (fun w' => w'.cell? ⟨b, 0, none⟩ = some (.slice (some ⟨mb, 0, none⟩) n n) ∧ w'.cell? ⟨b, 8, none⟩ = some (.slice (some ⟨g, 0, none⟩) f.size fcap) ∧ w'.cell? ⟨B3, 2, none⟩ = some (.slice ao tz.length cap)) (go_keep) ((go_at_call 66; refine Calls.mono (HS1.out _ (bu_below HO3.out ((Below.refl _ _).drew)) (HV3.out.step ((Below.refl _ _).drew)).pt.mem (HV3.out.step ((Below.refl _ _).drew)).da) ?_; rintro e y4 ⟨rfl, hM, hg⟩; have hg2 : y3.grownBy y4 (some mb) := ⟨hg.os, hg.tape, hg.output, hg.size, hg.block⟩; have HV4 : Hid _ := HV3.out.mem hg2 hM hgm; have c0' := HV4.out.pt.cel 0 (.slice (some ⟨mb, 0, none⟩) n n) rfl; have c8' := HV4.out.pt.rest 0 (.slice (some ⟨g, 0, none⟩) f.size fcap) rfl; have z2' := bC HV4.out.bx 2 (.slice ao tz.length cap) rfl; clear hM hg hg2))
        all_goals
          go_wp2_with fail
          go_meet
          case rel => exact HV4.out
      case rest =>
        have HV4 : Hid _ := hcut
        clear hcut HV3 HO3 HS1
        have HG1 : Hid _ := fun (x : World) (hp : PT x b mb n 92 ⟨S, D, A, U, T, G⟩ sg #[.slice (some ⟨g, 0, none⟩) f.size fcap] M1) => HGB.out x 0 th (.slice ao tz.length cap) M1 sg ⟨S, D, A, U, T, G⟩ ⟨_, _, _, rfl⟩ HSS.out hp
        clear HGB
        go_upto_region 8 with fail
        go_cut [] (fun wc => PT wc b mb n 92 ⟨S, D, A, U, ((T + 1) % 65536 : Nat), (((G + 1) % 65536 : Nat) : Int)⟩ (sg || (wv (gcM M1 S U G th f.size) A % 2 == 0)) #[.slice (some ⟨g, 0, none⟩) f.size fcap] (gcM M1 S U G th f.size) ∧ Fr2 w wc b mb)
        case first =>
          have z0 := bC HV4.out.bx 0 (.int .i64 0) rfl
          have z1 := bC HV4.out.bx 1 (.int .i64 th) rfl
          have z2 := bC HV4.out.bx 2 (.slice ao tz.length cap) rfl
          have z3 := bC HV4.out.bx 3 (.int .i64 (S : Int)) rfl
          have z4 := bC HV4.out.bx 4 (.int .i64 (D : Int)) rfl
          have z5 := bC HV4.out.bx 5 (.int .i64 (A : Int)) rfl
          have z6 := bC HV4.out.bx 6 (.int .i64 (U : Int)) rfl
          have z7 := bC HV4.out.bx 7 (.int .i64 (((T + 1) % 65536 : Nat) : Int)) rfl
          have z8 := bC HV4.out.bx 8 (.int .i64 (G : Int)) rfl
          have zl := HV4.out.lt
          have cl := HV4.out.pt.lt
          generalize (wv (gcM M1 S U G th f.size) A % 2 == 0) = BIT at *
          generalize gcM M1 S U G th f.size = M2 at *
          generalize (((G + 1) % 65536 : Nat) : Int) = G2 at *
          generalize (((T + 1) % 65536 : Nat) : Int) = T2 at *
          go_region_held3 (fun w' => w'.cell? ⟨B3, 0, none⟩ = some (.int .i64 0) ∧ w'.cell? ⟨B3, 1, none⟩ = some (.int .i64 th) ∧ w'.cell? ⟨B3, 2, none⟩ = some (.slice ao tz.length cap) ∧ w'.cell? ⟨B3, 3, none⟩ = some (.int .i64 (S : Int)) ∧ w'.cell? ⟨B3, 4, none⟩ = some (.int .i64 (D : Int)) ∧ w'.cell? ⟨B3, 5, none⟩ = some (.int .i64 (A : Int)) ∧ w'.cell? ⟨B3, 6, none⟩ = some (.int .i64 (U : Int)) ∧ w'.cell? ⟨B3, 7, none⟩ = some (.int .i64 T2) ∧ w'.cell? ⟨B3, 8, none⟩ = some (.int .i64 (G : Int))) (go_keep) ((go_at_call 212; refine Calls.mono (HG1.out _ (HV4.out.pt.below ((Below.refl _ _).drew))) ?_; rintro e y5 ⟨rfl, hP, hF⟩; have hF2 : Fr2 wc y5 b mb := ⟨hF.os, hF.tape, hF.output, hF.size, hF.block⟩; have HP5 : Hid _ := hP; have HF5 : Hid _ := HV4.out.fr.trans2 hF2; have hbx := (hF2.block B3 zl (by have := HV4.out.ge; have := HV4.out.ltb; omega) (by have := HV4.out.ge; have := HV4.out.ltm; omega)).trans HV4.out.bx; have z0' := bC hbx 0 (.int .i64 0) rfl; have z1' := bC hbx 1 (.int .i64 th) rfl; have z2' := bC hbx 2 (.slice ao tz.length cap) rfl; have z3' := bC hbx 3 (.int .i64 (S : Int)) rfl; have z4' := bC hbx 4 (.int .i64 (D : Int)) rfl; have z5' := bC hbx 5 (.int .i64 (A : Int)) rfl; have z6' := bC hbx 6 (.int .i64 (U : Int)) rfl; have z7' := bC hbx 7 (.int .i64 T2) rfl; have z8' := bC hbx 8 (.int .i64 (G : Int)) rfl; clear hP hF hF2 hbx))
          all_goals
            go_wp2_with fail
            go_meet
            case rel => exact ⟨HP5.out, HF5.out⟩
        case rest =>
          obtain ⟨hP, hF⟩ := hcut
          have HP5 : Hid _ := hP
          have HF5 : Hid _ := hF
          clear hP hF HV4 HG1
          go_wp2_with fail
          go_ret
          rw [HR1.out]
          exact ⟨rfl, HP5.out, HF5.out⟩
    · rw [if_neg htc] at HR1
      have htb : (tc != 0) = true := by simp [htc]
      go_wp2_with fail
      go_ret
      rw [HR1.out]
      exact ⟨rfl, HV.out.pt, HV.out.fr⟩
end Go.Proofs.Ythhbfghbpapklab
