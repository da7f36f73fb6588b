import Derived.Test.YtfagohdmepnkkaaDr4
import Derived.Test.YtfagohdmepnkkaaSMap7
namespace Go.Proofs.Ytfagohdmepnkkaa
open Go.ChangeShapes Go.WideShapes Go.ChangeAt Go.RowKit

theorem lit_draw {u u2 : World} {b t : Nat} {C : List Int} {lo hi : Int} (hb : b < u.heap.size) (hg : (u.alloc (.cells (C.map (Value.int .i64)).toArray t)).grownBy u2 (some b)) (Q : Nat) (hQ : Q < C.length) (hin : inB lo hi C) : ∃ y : Int, u2.cell? ⟨u.heap.size, Q, none⟩ = some (.int .i64 y) ∧ lo ≤ y ∧ y ≤ hi ∧ y ∈ C := by
  have h1 : u2.heap[u.heap.size]? = some (.cells (C.map (Value.int .i64)).toArray t (0, 0)) := (hg.block _ (by simp) (by simp; omega)).trans (MapKept.heap_alloc u _).1
  exact ⟨C[Q], lit_cell h1 hQ, (hin.at hQ).1, (hin.at hQ).2, List.getElem_mem hQ⟩
theorem sl_toM (v : Option Addr) (n cap k : Nat) (hk : k ≤ cap) (w : World) : Sem.run Try.prog (Instr.slice 33 (.slice v n cap) none (some (.int .i64 (k : Int))) none) w = .ok (.slice v k cap) w := by
  have h1 : (k : Int) ≤ (cap : Int) := by omega
  go_simp
theorem PMrow.take {w : World} {ao : Option Addr} {cap : Nat} {zs : List PM} (h : PMrow w (.slice ao zs.length cap) zs) (k : Nat) (hk : k ≤ zs.length) : PMrow w (.slice ao k cap) (zs.take k) := by
  rcases h with ⟨rfl, _⟩ | ⟨g, o, cap2, hv, hc, hg, hat⟩
  · simp at hk
    subst hk
    exact .inl ⟨rfl, _, _, rfl⟩
  · injection hv with e1 e2 e3
    subst e1 e3
    have hl : (zs.take k).length = k := by rw [List.length_take]; omega
    refine .inr ⟨g, o, cap, by rw [hl], by omega, hg, fun j hj => ?_⟩
    have h2 := hat j (by omega)
    rw [List.getElem_take]
    exact h2
theorem PMrow.cap {w : World} {ao : Option Addr} {n cap : Nat} {zs : List PM} (h : PMrow w (.slice ao n cap) zs) : zs.length ≤ cap ∨ zs = [] := by
  rcases h with ⟨rfl, _⟩ | ⟨g, o, cap2, hv, hc, hg, hat⟩
  · exact .inr rfl
  · injection hv with e1 e2 e3
    subst e3
    exact .inl hc
def lenV : Value → Nat
  | .slice _ n _ => n
  | _ => 0
theorem memOk_of {s : ByteArray} {N : Nat} (h : s.size = N * 256) (h0 : 8 ≤ N) (h1 : N ≤ 40) : memOk s = true := by
  exact decide_eq_true ⟨by omega, by omega, by omega⟩
theorem in4 {s : ByteArray} {N : Nat} (h : s.size = N * 256) (h0 : 8 ≤ N) : inF s [2, 3, 4, 5] := by
  intro x hx
  simp at hx
  rcases hx with rfl | rfl | rfl | rfl <;> exact ⟨by omega, by omega⟩
theorem lit4 (u : World) : Irow (u.alloc (.cells #[.int .i64 2, .int .i64 3, .int .i64 4, .int .i64 5] 2)) (.slice (some ⟨u.heap.size, 0, none⟩) 4 4) [2, 3, 4, 5] := by
  have h : (u.alloc (.cells #[.int .i64 2, .int .i64 3, .int .i64 4, .int .i64 5] 2)).heap[u.heap.size]? = some (.cells #[.int .i64 2, .int .i64 3, .int .i64 4, .int .i64 5] 2 (0, 0)) := (MapKept.heap_alloc u _).1
  refine .inr ⟨u.heap.size, 0, 4, rfl, by decide, by simp, fun k hk => ?_⟩
  have hk4 : k < 4 := hk
  obtain rfl | rfl | rfl | rfl : k = 0 ∨ k = 1 ∨ k = 2 ∨ k = 3 := by omega
  all_goals exact ed_cells _ _ _ _ h _ _ rfl
set_option maxRecDepth 100000 in
set_option maxHeartbeats 8000000 in
theorem src_tables (B0 : Nat) (a : Option Addr) (len cap : Nat) (w : World) (h : SrcOk w B0 a len cap) :
    Calls Try.prog 75 #[.pointer (some ⟨B0, 0, none⟩)] w fun e w' => ∃ s : ByteArray, e = .returned (.string s) ∧ memOk s = true ∧ 2048 ≤ s.size ∧ s.size ≤ 10240 ∧ SrcOk w' B0 a len cap ∧ w.grownBy w' (some B0) := by
  have hlt := h.lt
  have HS0 : Hid (SrcOk w B0 a len cap) := h
  have HG0 : Hid (w.grownBy w (some B0)) := World.grownBy.refl _ _
  clear h
  go_enter Try.func75, Try.ntmps75
  have HSa : Hid (SrcOk (w.alloc (.cells #[.int .i64 8, .int .i64 12, .int .i64 40] 2)) B0 a len cap) := HS0.out.far (World.grownBy_alloc _ _ none)
  have HGa : Hid (w.grownBy (w.alloc (.cells #[.int .i64 8, .int .i64 12, .int .i64 40] 2)) (some B0)) := Lib.grownBy_trans HG0.out gAl
  have hPx : B0 < w.heap.size := by have := HG0.out.size; omega
  go_wp2_with fail
  refine (src_n B0 a len cap 3 (w.alloc (.cells #[.int .i64 8, .int .i64 12, .int .i64 40] 2)) HSa.out (by omega)).mono ?_
  rintro e V1 ⟨q9, rfl, q90, q91, hsV, hgV⟩
  obtain ⟨Qn, rfl⟩ := Int.eq_ofNat_of_zero_le q90
  have hQn : Qn < 3 := by omega
  have hQn1 : (Qn : Int) < 3 := by omega
  obtain ⟨yn, hyn, hynlo, hynhi, hynm⟩ := lit_draw (C := [8, 12, 40]) (lo := 8) (hi := 40) hPx hgV Qn hQn (by unfold inB; decide)
  have HS1 : Hid (SrcOk V1 B0 a len cap) := hsV
  have HG1 : Hid (w.grownBy V1 (some B0)) := Lib.grownBy_trans HGa.out hgV
  clear hsV hgV HSa HGa HS0 HG0 q91 q90
  obtain ⟨N, rfl⟩ := Int.eq_ofNat_of_zero_le (show 0 ≤ yn by omega)
  have hN0 : 8 ≤ N := by omega
  have hN1 : N ≤ 40 := by omega
  go_wp2_with fail
  refine (src_frames B0 a len cap N V1 HS1.out (by omega) hN1).mono ?_
  rintro e V2 ⟨s0, rfl, hz0, hs2, hg2⟩
  have HS2 : Hid (SrcOk V2 B0 a len cap) := hs2
  have HG2 : Hid (w.grownBy V2 (some B0)) := Lib.grownBy_trans HG1.out hg2
  have hzf := zfr_size s0 1 (by omega)
  have HZ1 : Hid ((zfr s0 1).size = N * 256) := (show _ = _ by rw [hzf]; exact hz0)
  have z1 : (s0.extract 0 256).size = 256 := by rw [ByteArray.size_extract]; omega
  have z2 : (s0.extract 512 s0.size).size ≤ s0.size := by rw [ByteArray.size_extract]; omega
  have c1 := fun w => run_string_add_sum (P := Try.prog) w (s0.extract 0 256) zB (by rw [zB_size]; omega)
  have c2 := fun w => run_string_add_sum (P := Try.prog) w (s0.extract 0 256 ++ zB) (s0.extract 512 s0.size) (by rw [ByteArray.size_append, zB_size]; omega)
  have sl1 : ∀ u : World, Sem.run Try.prog (Instr.slice 9 (.string s0) none (some (.int .i64 256)) none) u = .ok (.string (s0.extract 0 256)) u := fun u => sl_to s0 256 (by omega) u
  have sl2 : ∀ u : World, Sem.run Try.prog (Instr.slice 9 (.string s0) (some (.int .i64 512)) none none) u = .ok (.string (s0.extract 512 s0.size)) u := fun u => sl_fromK s0 512 (by omega) u
  have hmk : ∀ u : World, (Instr.makeSlice 52 (.int .i64 256) (.int .i64 256)).run Try.prog u = .ok (.slice (some ⟨u.heap.size, 0, none⟩) 256 256) (u.alloc (.cells (zrs 256).toArray 5)) := fun u => mkBytes u 256 (by omega)
  have hcv : Sem.run Try.prog (convert 52 9 (.slice (some ⟨V2.heap.size, 0, none⟩) 256 256)) (V2.alloc (.cells (zrs 256).toArray 5)).drew = .ok (.string zB) (V2.alloc (.cells (zrs 256).toArray 5)).drew := conv_zB V2.drew
  have HZF : Hid (s0.extract 0 256 ++ zB ++ s0.extract 512 s0.size = zfr s0 1) := rfl
  clear hs2 hg2 HS1 HG1 hzf z1 z2 hyn hz0
  go_wp2_with fail
  go_region
  go_upto_region 4 with fail
  have HS3 : Hid (SrcOk (V2.alloc (.cells (zrs 256).toArray 5)).drew B0 a len cap) := HS2.out.bel ((Below.refl _ _).alloc (Nat.le_refl _) _).drew
  have HG3 : Hid (w.grownBy (V2.alloc (.cells (zrs 256).toArray 5)).drew (some B0)) := gbel HG2.out ((Below.refl _ _).alloc (Nat.le_refl _) _).drew
  generalize (V2.alloc (.cells (zrs 256).toArray 5)).drew = V3 at *
  rw [HZF.out]
  generalize zfr s0 1 = s1 at *
  clear c1 c2 sl1 sl2 hmk hcv HS2 HG2 HZF
  go_wp2_with fail
  refine (src_maps B0 a len cap N V3 HS3.out hN1).mono ?_
  rintro e V4 ⟨v, ms, rfl, ho, l1, l7, hfl, hs4, hg4⟩
  obtain ⟨a5, c5, he5⟩ := pm_sl ho
  subst he5
  have HS4 : Hid (SrcOk V4 B0 a len cap) := hs4
  have HG4 : Hid (w.grownBy V4 (some B0)) := Lib.grownBy_trans HG3.out hg4
  have HR4 : Hid (PMrow V4 (.slice a5 ms.length c5) ms) := PMrow.of ho
  clear ho hs4 hg4 HS3 HG3 hfl l1
  go_wp2
  go_loopw [4, 5] (fun m l wr => ∃ (s : ByteArray) (ks : List PM), m = .string s ∧ s.size = N * 256 ∧ PMrow wr l ks ∧ ks.length ≤ 7 ∧ SrcOk wr B0 a len cap ∧ w.grownBy wr (some B0)) (fun _ l _ => lenV l)
  case atStart => exact ⟨s1, ms, rfl, HZ1.out, HR4.out, l7, HS4.out, HG4.out⟩
  case round =>
    clear HS4 HG4 HR4 HZ1
    obtain ⟨s, ks, rfl, hz, hr, hk7, hs, hg⟩ := hrel
    obtain ⟨a6, c6, he6⟩ := hr.sl
    subst he6
    have HZ : Hid (s.size = N * 256) := hz
    have HR : Hid (PMrow wr (.slice a6 ks.length c6) ks) := hr
    have HS : Hid (SrcOk wr B0 a len cap) := hs
    have HG : Hid (w.grownBy wr (some B0)) := hg
    clear hz hr hs hg
    by_cases hk0 : ks.length = 0
    · have hk1 : ¬ (0 : Int) < (ks.length : Int) := by omega
      go_upto_region 10 with fail
      clear HR hk1
      go_wp2_with fail
      refine (src_one B0 a len cap 6 wr HS.out (by omega)).mono ?_
      rintro e X1 ⟨t1, rfl, hs1, hg1⟩
      have HSX1 : Hid (SrcOk X1 B0 a len cap) := hs1
      have HGX1 : Hid (w.grownBy X1 (some B0)) := Lib.grownBy_trans HG.out hg1
      clear hs1 hg1 HS HG
      cases t1
      · skip
        go_wp2_with fail
        refine (src_one B0 a len cap 6 X1 HSX1.out (by omega)).mono ?_
        rintro e Y1 ⟨t2, rfl, hs1, hg1⟩
        have HSY1 : Hid (SrcOk Y1 B0 a len cap) := hs1
        have HGY1 : Hid (w.grownBy Y1 (some B0)) := Lib.grownBy_trans HGX1.out hg1
        clear hs1 hg1 HSX1 HGX1
        cases t2
        · go_wp2
          go_ret
          exact ⟨_, rfl, memOk_of HZ.out hN0 hN1, by rw [HZ.out]; omega, by rw [HZ.out]; omega, HSY1.out, HGY1.out⟩
        · go_wp2_with fail
          refine (src_n B0 a len cap 3 Y1 HSY1.out (by omega)).mono ?_
          rintro e Y2 ⟨qb, rfl, qb0, qb1, hs1, hg1⟩
          obtain ⟨D, rfl⟩ := Int.eq_ofNat_of_zero_le qb0
          have hD3 : D < 3 := by omega
          have HSY2 : Hid (SrcOk Y2 B0 a len cap) := hs1
          have HGY2 : Hid (w.grownBy Y2 (some B0)) := Lib.grownBy_trans HGY1.out hg1
          clear hs1 hg1 HSY1 HGY1 qb1 qb0
          have HSa : Hid (SrcOk (Y2.alloc (.cells #[.int .i64 1, .int .i64 76819, .int .i64 2, .int .i64 0] 2)) B0 a len cap) := HSY2.out.far (World.grownBy_alloc _ _ none)
          have HGa : Hid (w.grownBy (Y2.alloc (.cells #[.int .i64 1, .int .i64 76819, .int .i64 2, .int .i64 0] 2)) (some B0)) := Lib.grownBy_trans HGY2.out gAl
          have hPx : B0 < Y2.heap.size := by have := HGY2.out.size; omega
          go_wp2_with fail
          refine (src_n B0 a len cap 4 (Y2.alloc (.cells #[.int .i64 1, .int .i64 76819, .int .i64 2, .int .i64 0] 2)) HSa.out (by omega)).mono ?_
          rintro e Y3 ⟨q9, rfl, q90, q91, hsV, hgV⟩
          obtain ⟨Qb, rfl⟩ := Int.eq_ofNat_of_zero_le q90
          have hQb : Qb < 4 := by omega
          have hQb1 : (Qb : Int) < 4 := by omega
          obtain ⟨yb, hyb, hyblo, hybhi, hybm⟩ := lit_draw (C := [1, 76819, 2, 0]) (lo := 0) (hi := 76819) hPx hgV Qb hQb (by unfold inB; decide)
          have HSY3 : Hid (SrcOk Y3 B0 a len cap) := hsV
          have HGY3 : Hid (w.grownBy Y3 (some B0)) := Lib.grownBy_trans HGa.out hgV
          clear hsV hgV HSa HGa HSY2 HGY2 q91 q90
          have HSW : Hid (∀ u : World, Calls Try.prog 42 #[.string s, .int .i64 (512 + 4 * (D : Int)), .int .i64 yb] u fun e w' => e = .returned (.string (setv s (512 + 4 * D) yb)) ∧ Below u.heap.size u w') := fun u => by
            have q := specSetWord_yes s (512 + 4 * D) yb u (by rw [HZ.out]; omega) (by rw [HZ.out]; omega)
            rw [show ((512 + 4 * D : Nat) : Int) = 512 + 4 * (D : Int) by omega] at q
            exact q
          have HZT : Hid ((setv s (512 + 4 * D) yb).size = N * 256) := (show _ = _ by rw [setv_sz _ _ _ (by rw [HZ.out]; omega)]; exact HZ.out)
          go_wp2_with (go_at_call 42; refine Calls.mono (HSW.out _) ?_; rintro e Y4 ⟨rfl, hb4⟩; have HSY4 : Hid (SrcOk Y4 B0 a len cap) := HSY3.out.bel hb4; have HGY4 : Hid (w.grownBy Y4 (some B0)) := gbel HGY3.out hb4; clear hb4)
          go_ret
          exact ⟨_, rfl, memOk_of HZT.out hN0 hN1, by rw [HZT.out]; omega, by rw [HZT.out]; omega, HSY4.out, HGY4.out⟩
      · skip
        go_wp2_with fail
        refine (src_n B0 a len cap 3 X1 HSX1.out (by omega)).mono ?_
        rintro e X2 ⟨qa, rfl, qa0, qa1, hs1, hg1⟩
        obtain ⟨A, rfl⟩ := Int.eq_ofNat_of_zero_le qa0
        have hA3 : A < 3 := by omega
        have HSX2 : Hid (SrcOk X2 B0 a len cap) := hs1
        have HGX2 : Hid (w.grownBy X2 (some B0)) := Lib.grownBy_trans HGX1.out hg1
        clear hs1 hg1 HSX1 HGX1 qa1 qa0
        have HSa : Hid (SrcOk (X2.alloc (.cells #[.int .i64 8451, .int .i64 65281, .int .i64 16387, .int .i64 2147483649] 2)) B0 a len cap) := HSX2.out.far (World.grownBy_alloc _ _ none)
        have HGa : Hid (w.grownBy (X2.alloc (.cells #[.int .i64 8451, .int .i64 65281, .int .i64 16387, .int .i64 2147483649] 2)) (some B0)) := Lib.grownBy_trans HGX2.out gAl
        have hPx : B0 < X2.heap.size := by have := HGX2.out.size; omega
        go_wp2_with fail
        refine (src_n B0 a len cap 4 (X2.alloc (.cells #[.int .i64 8451, .int .i64 65281, .int .i64 16387, .int .i64 2147483649] 2)) HSa.out (by omega)).mono ?_
        rintro e X3 ⟨q9, rfl, q90, q91, hsV, hgV⟩
        obtain ⟨Qa, rfl⟩ := Int.eq_ofNat_of_zero_le q90
        have hQa : Qa < 4 := by omega
        have hQa1 : (Qa : Int) < 4 := by omega
        obtain ⟨ya, hya, hyalo, hyahi, hyam⟩ := lit_draw (C := [8451, 65281, 16387, 2147483649]) (lo := 8451) (hi := 2147483649) hPx hgV Qa hQa (by unfold inB; decide)
        have HSX3 : Hid (SrcOk X3 B0 a len cap) := hsV
        have HGX3 : Hid (w.grownBy X3 (some B0)) := Lib.grownBy_trans HGa.out hgV
        clear hsV hgV HSa HGa HSX2 HGX2 q91 q90
        have HSW : Hid (∀ u : World, Calls Try.prog 42 #[.string s, .int .i64 (256 + 4 * (A : Int)), .int .i64 ya] u fun e w' => e = .returned (.string (setv s (256 + 4 * A) ya)) ∧ Below u.heap.size u w') := fun u => by
          have q := specSetWord_yes s (256 + 4 * A) ya u (by rw [HZ.out]; omega) (by rw [HZ.out]; omega)
          rw [show ((256 + 4 * A : Nat) : Int) = 256 + 4 * (A : Int) by omega] at q
          exact q
        have HZS : Hid ((setv s (256 + 4 * A) ya).size = N * 256) := (show _ = _ by rw [setv_sz _ _ _ (by rw [HZ.out]; omega)]; exact HZ.out)
        go_upto_region 13 with (go_at_call 42; refine Calls.mono (HSW.out _) ?_; rintro e X4 ⟨rfl, hb4⟩; have HSX4 : Hid (SrcOk X4 B0 a len cap) := HSX3.out.bel hb4; have HGX4 : Hid (w.grownBy X4 (some B0)) := gbel HGX3.out hb4; clear hb4)
        generalize setv s (256 + 4 * A) ya = S5 at *
        clear HSW HSX3 HGX3 hya
        go_wp2_with fail
        refine (src_one B0 a len cap 6 X4 HSX4.out (by omega)).mono ?_
        rintro e Y1 ⟨t2, rfl, hs1, hg1⟩
        have HSY1 : Hid (SrcOk Y1 B0 a len cap) := hs1
        have HGY1 : Hid (w.grownBy Y1 (some B0)) := Lib.grownBy_trans HGX4.out hg1
        clear hs1 hg1 HSX4 HGX4
        cases t2
        · go_wp2
          go_ret
          exact ⟨_, rfl, memOk_of HZS.out hN0 hN1, by rw [HZS.out]; omega, by rw [HZS.out]; omega, HSY1.out, HGY1.out⟩
        · go_wp2_with fail
          refine (src_n B0 a len cap 3 Y1 HSY1.out (by omega)).mono ?_
          rintro e Y2 ⟨qb, rfl, qb0, qb1, hs1, hg1⟩
          obtain ⟨D, rfl⟩ := Int.eq_ofNat_of_zero_le qb0
          have hD3 : D < 3 := by omega
          have HSY2 : Hid (SrcOk Y2 B0 a len cap) := hs1
          have HGY2 : Hid (w.grownBy Y2 (some B0)) := Lib.grownBy_trans HGY1.out hg1
          clear hs1 hg1 HSY1 HGY1 qb1 qb0
          have HSa : Hid (SrcOk (Y2.alloc (.cells #[.int .i64 1, .int .i64 76819, .int .i64 2, .int .i64 0] 2)) B0 a len cap) := HSY2.out.far (World.grownBy_alloc _ _ none)
          have HGa : Hid (w.grownBy (Y2.alloc (.cells #[.int .i64 1, .int .i64 76819, .int .i64 2, .int .i64 0] 2)) (some B0)) := Lib.grownBy_trans HGY2.out gAl
          have hPx : B0 < Y2.heap.size := by have := HGY2.out.size; omega
          go_wp2_with fail
          refine (src_n B0 a len cap 4 (Y2.alloc (.cells #[.int .i64 1, .int .i64 76819, .int .i64 2, .int .i64 0] 2)) HSa.out (by omega)).mono ?_
          rintro e Y3 ⟨q9, rfl, q90, q91, hsV, hgV⟩
          obtain ⟨Qb, rfl⟩ := Int.eq_ofNat_of_zero_le q90
          have hQb : Qb < 4 := by omega
          have hQb1 : (Qb : Int) < 4 := by omega
          obtain ⟨yb, hyb, hyblo, hybhi, hybm⟩ := lit_draw (C := [1, 76819, 2, 0]) (lo := 0) (hi := 76819) hPx hgV Qb hQb (by unfold inB; decide)
          have HSY3 : Hid (SrcOk Y3 B0 a len cap) := hsV
          have HGY3 : Hid (w.grownBy Y3 (some B0)) := Lib.grownBy_trans HGa.out hgV
          clear hsV hgV HSa HGa HSY2 HGY2 q91 q90
          have HSW : Hid (∀ u : World, Calls Try.prog 42 #[.string S5, .int .i64 (512 + 4 * (D : Int)), .int .i64 yb] u fun e w' => e = .returned (.string (setv S5 (512 + 4 * D) yb)) ∧ Below u.heap.size u w') := fun u => by
            have q := specSetWord_yes S5 (512 + 4 * D) yb u (by rw [HZS.out]; omega) (by rw [HZS.out]; omega)
            rw [show ((512 + 4 * D : Nat) : Int) = 512 + 4 * (D : Int) by omega] at q
            exact q
          have HZT : Hid ((setv S5 (512 + 4 * D) yb).size = N * 256) := (show _ = _ by rw [setv_sz _ _ _ (by rw [HZS.out]; omega)]; exact HZS.out)
          go_wp2_with (go_at_call 42; refine Calls.mono (HSW.out _) ?_; rintro e Y4 ⟨rfl, hb4⟩; have HSY4 : Hid (SrcOk Y4 B0 a len cap) := HSY3.out.bel hb4; have HGY4 : Hid (w.grownBy Y4 (some B0)) := gbel HGY3.out hb4; clear hb4)
          go_ret
          exact ⟨_, rfl, memOk_of HZT.out hN0 hN1, by rw [HZT.out]; omega, by rw [HZT.out]; omega, HSY4.out, HGY4.out⟩
    · have hk1 : (0 : Int) < (ks.length : Int) := by omega
      have hcap : ks.length ≤ c6 := by
        rcases HR.out.cap with q | q
        · exact q
        · rw [q] at hk0
          simp at hk0
      have HB : Below wr.heap.size wr (wr.alloc (.cells #[.int .i64 2, .int .i64 3, .int .i64 4, .int .i64 5] 2)) := (Below.refl _ _).alloc (Nat.le_refl _) _
      have HMP := specMaps_good s 1 (HR.out.below HB) (lit4 wr) (memOk_of HZ.out hN0 hN1) (by rw [HZ.out]; omega) (in4 HZ.out hN0) (by omega) (by decide)
      have HOK := mst_ok (mem := s) (root := 1) (ms := ks) (free := [2, 3, 4, 5]) (by rw [HZ.out]; omega) (in4 HZ.out hN0) ks.length
      have HSA : Hid (SrcOk (wr.alloc (.cells #[.int .i64 2, .int .i64 3, .int .i64 4, .int .i64 5] 2)) B0 a len cap) := HS.out.bel HB
      have HGA : Hid (w.grownBy (wr.alloc (.cells #[.int .i64 2, .int .i64 3, .int .i64 4, .int .i64 5] 2)) (some B0)) := gbel HG.out HB
      have HRA : Hid (PMrow (wr.alloc (.cells #[.int .i64 2, .int .i64 3, .int .i64 4, .int .i64 5] 2)) (.slice a6 ks.length c6) ks) := HR.out.below HB
      clear HS HG HR HB
      generalize mst s 1 ks [2, 3, 4, 5] ks.length = T at *
      generalize mAt s 1 ks [2, 3, 4, 5] ks.length = tA at *
      have HMH : Hid _ := HMP
      clear HMP
      by_cases hc : T.c = 0
      · have HZT : Hid (T.mem.size = N * 256) := (show _ = _ from (HOK hc).1.trans HZ.out)
        have HC : Hid (T.c = 0) := hc
        clear HOK hc
        go_upto_region 7 with (go_at_call 12; refine Calls.mono HMH.out ?_; rintro r U1 ⟨hb, hq⟩; obtain ⟨_, v9, rfl, ho9⟩ := hq.resolve_right (fun q => q.1 HC.out); obtain ⟨a9, c9, he9⟩ := ho9.irow.sl; subst he9; have HS1 : Hid (SrcOk U1 B0 a len cap) := HSA.out.bel hb; have HG1 : Hid (w.grownBy U1 (some B0)) := gbel HGA.out hb; clear hb hq ho9 HMH; unfold resA)
        have HX : Hid ((U1.alloc (.cells #[.int .i64 0, .int .i64 0, .string T.mem, .slice a9 T.free.length c9] 31)).heap[U1.heap.size]? = some (.cells #[.int .i64 0, .int .i64 0, .string T.mem, .slice a9 T.free.length c9] 31 (0, 0))) := (MapKept.heap_alloc U1 _).1
        have HS2 : Hid (SrcOk (U1.alloc (.cells #[.int .i64 0, .int .i64 0, .string T.mem, .slice a9 T.free.length c9] 31)) B0 a len cap) := HS1.out.far (World.grownBy_alloc _ _ none)
        have HG2 : Hid (w.grownBy (U1.alloc (.cells #[.int .i64 0, .int .i64 0, .string T.mem, .slice a9 T.free.length c9] 31)) (some B0)) := Lib.grownBy_trans HG1.out gAl
        generalize U1.alloc (.cells #[.int .i64 0, .int .i64 0, .string T.mem, .slice a9 T.free.length c9] 31) = U2 at *
        clear HS1 HG1 HSA HGA HRA
        obtain ⟨x0, x1, x2, x3⟩ := cel4P HX.out
        generalize T.mem = s3 at *
        go_upto_region 10 with fail
        clear x0 x1 x2 x3 HX
        go_wp2_with fail
        refine (src_one B0 a len cap 6 U2 HS2.out (by omega)).mono ?_
        rintro e X1 ⟨t1, rfl, hs1, hg1⟩
        have HSX1 : Hid (SrcOk X1 B0 a len cap) := hs1
        have HGX1 : Hid (w.grownBy X1 (some B0)) := Lib.grownBy_trans HG2.out hg1
        clear hs1 hg1 HS2 HG2
        cases t1
        · skip
          go_wp2_with fail
          refine (src_one B0 a len cap 6 X1 HSX1.out (by omega)).mono ?_
          rintro e Y1 ⟨t2, rfl, hs1, hg1⟩
          have HSY1 : Hid (SrcOk Y1 B0 a len cap) := hs1
          have HGY1 : Hid (w.grownBy Y1 (some B0)) := Lib.grownBy_trans HGX1.out hg1
          clear hs1 hg1 HSX1 HGX1
          cases t2
          · go_wp2
            go_ret
            exact ⟨_, rfl, memOk_of HZT.out hN0 hN1, by rw [HZT.out]; omega, by rw [HZT.out]; omega, HSY1.out, HGY1.out⟩
          · go_wp2_with fail
            refine (src_n B0 a len cap 3 Y1 HSY1.out (by omega)).mono ?_
            rintro e Y2 ⟨qb, rfl, qb0, qb1, hs1, hg1⟩
            obtain ⟨D, rfl⟩ := Int.eq_ofNat_of_zero_le qb0
            have hD3 : D < 3 := by omega
            have HSY2 : Hid (SrcOk Y2 B0 a len cap) := hs1
            have HGY2 : Hid (w.grownBy Y2 (some B0)) := Lib.grownBy_trans HGY1.out hg1
            clear hs1 hg1 HSY1 HGY1 qb1 qb0
            have HSa : Hid (SrcOk (Y2.alloc (.cells #[.int .i64 1, .int .i64 76819, .int .i64 2, .int .i64 0] 2)) B0 a len cap) := HSY2.out.far (World.grownBy_alloc _ _ none)
            have HGa : Hid (w.grownBy (Y2.alloc (.cells #[.int .i64 1, .int .i64 76819, .int .i64 2, .int .i64 0] 2)) (some B0)) := Lib.grownBy_trans HGY2.out gAl
            have hPx : B0 < Y2.heap.size := by have := HGY2.out.size; omega
            go_wp2_with fail
            refine (src_n B0 a len cap 4 (Y2.alloc (.cells #[.int .i64 1, .int .i64 76819, .int .i64 2, .int .i64 0] 2)) HSa.out (by omega)).mono ?_
            rintro e Y3 ⟨q9, rfl, q90, q91, hsV, hgV⟩
            obtain ⟨Qb, rfl⟩ := Int.eq_ofNat_of_zero_le q90
            have hQb : Qb < 4 := by omega
            have hQb1 : (Qb : Int) < 4 := by omega
            obtain ⟨yb, hyb, hyblo, hybhi, hybm⟩ := lit_draw (C := [1, 76819, 2, 0]) (lo := 0) (hi := 76819) hPx hgV Qb hQb (by unfold inB; decide)
            have HSY3 : Hid (SrcOk Y3 B0 a len cap) := hsV
            have HGY3 : Hid (w.grownBy Y3 (some B0)) := Lib.grownBy_trans HGa.out hgV
            clear hsV hgV HSa HGa HSY2 HGY2 q91 q90
            have HSW : Hid (∀ u : World, Calls Try.prog 42 #[.string s3, .int .i64 (512 + 4 * (D : Int)), .int .i64 yb] u fun e w' => e = .returned (.string (setv s3 (512 + 4 * D) yb)) ∧ Below u.heap.size u w') := fun u => by
              have q := specSetWord_yes s3 (512 + 4 * D) yb u (by rw [HZT.out]; omega) (by rw [HZT.out]; omega)
              rw [show ((512 + 4 * D : Nat) : Int) = 512 + 4 * (D : Int) by omega] at q
              exact q
            have HZT : Hid ((setv s3 (512 + 4 * D) yb).size = N * 256) := (show _ = _ by rw [setv_sz _ _ _ (by rw [HZT.out]; omega)]; exact HZT.out)
            go_wp2_with (go_at_call 42; refine Calls.mono (HSW.out _) ?_; rintro e Y4 ⟨rfl, hb4⟩; have HSY4 : Hid (SrcOk Y4 B0 a len cap) := HSY3.out.bel hb4; have HGY4 : Hid (w.grownBy Y4 (some B0)) := gbel HGY3.out hb4; clear hb4)
            go_ret
            exact ⟨_, rfl, memOk_of HZT.out hN0 hN1, by rw [HZT.out]; omega, by rw [HZT.out]; omega, HSY4.out, HGY4.out⟩
        · skip
          go_wp2_with fail
          refine (src_n B0 a len cap 3 X1 HSX1.out (by omega)).mono ?_
          rintro e X2 ⟨qa, rfl, qa0, qa1, hs1, hg1⟩
          obtain ⟨A, rfl⟩ := Int.eq_ofNat_of_zero_le qa0
          have hA3 : A < 3 := by omega
          have HSX2 : Hid (SrcOk X2 B0 a len cap) := hs1
          have HGX2 : Hid (w.grownBy X2 (some B0)) := Lib.grownBy_trans HGX1.out hg1
          clear hs1 hg1 HSX1 HGX1 qa1 qa0
          have HSa : Hid (SrcOk (X2.alloc (.cells #[.int .i64 8451, .int .i64 65281, .int .i64 16387, .int .i64 2147483649] 2)) B0 a len cap) := HSX2.out.far (World.grownBy_alloc _ _ none)
          have HGa : Hid (w.grownBy (X2.alloc (.cells #[.int .i64 8451, .int .i64 65281, .int .i64 16387, .int .i64 2147483649] 2)) (some B0)) := Lib.grownBy_trans HGX2.out gAl
          have hPx : B0 < X2.heap.size := by have := HGX2.out.size; omega
          go_wp2_with fail
          refine (src_n B0 a len cap 4 (X2.alloc (.cells #[.int .i64 8451, .int .i64 65281, .int .i64 16387, .int .i64 2147483649] 2)) HSa.out (by omega)).mono ?_
          rintro e X3 ⟨q9, rfl, q90, q91, hsV, hgV⟩
          obtain ⟨Qa, rfl⟩ := Int.eq_ofNat_of_zero_le q90
          have hQa : Qa < 4 := by omega
          have hQa1 : (Qa : Int) < 4 := by omega
          obtain ⟨ya, hya, hyalo, hyahi, hyam⟩ := lit_draw (C := [8451, 65281, 16387, 2147483649]) (lo := 8451) (hi := 2147483649) hPx hgV Qa hQa (by unfold inB; decide)
          have HSX3 : Hid (SrcOk X3 B0 a len cap) := hsV
          have HGX3 : Hid (w.grownBy X3 (some B0)) := Lib.grownBy_trans HGa.out hgV
          clear hsV hgV HSa HGa HSX2 HGX2 q91 q90
          have HSW : Hid (∀ u : World, Calls Try.prog 42 #[.string s3, .int .i64 (256 + 4 * (A : Int)), .int .i64 ya] u fun e w' => e = .returned (.string (setv s3 (256 + 4 * A) ya)) ∧ Below u.heap.size u w') := fun u => by
            have q := specSetWord_yes s3 (256 + 4 * A) ya u (by rw [HZT.out]; omega) (by rw [HZT.out]; omega)
            rw [show ((256 + 4 * A : Nat) : Int) = 256 + 4 * (A : Int) by omega] at q
            exact q
          have HZS : Hid ((setv s3 (256 + 4 * A) ya).size = N * 256) := (show _ = _ by rw [setv_sz _ _ _ (by rw [HZT.out]; omega)]; exact HZT.out)
          go_upto_region 13 with (go_at_call 42; refine Calls.mono (HSW.out _) ?_; rintro e X4 ⟨rfl, hb4⟩; have HSX4 : Hid (SrcOk X4 B0 a len cap) := HSX3.out.bel hb4; have HGX4 : Hid (w.grownBy X4 (some B0)) := gbel HGX3.out hb4; clear hb4)
          generalize setv s3 (256 + 4 * A) ya = S5 at *
          clear HSW HSX3 HGX3 hya
          go_wp2_with fail
          refine (src_one B0 a len cap 6 X4 HSX4.out (by omega)).mono ?_
          rintro e Y1 ⟨t2, rfl, hs1, hg1⟩
          have HSY1 : Hid (SrcOk Y1 B0 a len cap) := hs1
          have HGY1 : Hid (w.grownBy Y1 (some B0)) := Lib.grownBy_trans HGX4.out hg1
          clear hs1 hg1 HSX4 HGX4
          cases t2
          · go_wp2
            go_ret
            exact ⟨_, rfl, memOk_of HZS.out hN0 hN1, by rw [HZS.out]; omega, by rw [HZS.out]; omega, HSY1.out, HGY1.out⟩
          · go_wp2_with fail
            refine (src_n B0 a len cap 3 Y1 HSY1.out (by omega)).mono ?_
            rintro e Y2 ⟨qb, rfl, qb0, qb1, hs1, hg1⟩
            obtain ⟨D, rfl⟩ := Int.eq_ofNat_of_zero_le qb0
            have hD3 : D < 3 := by omega
            have HSY2 : Hid (SrcOk Y2 B0 a len cap) := hs1
            have HGY2 : Hid (w.grownBy Y2 (some B0)) := Lib.grownBy_trans HGY1.out hg1
            clear hs1 hg1 HSY1 HGY1 qb1 qb0
            have HSa : Hid (SrcOk (Y2.alloc (.cells #[.int .i64 1, .int .i64 76819, .int .i64 2, .int .i64 0] 2)) B0 a len cap) := HSY2.out.far (World.grownBy_alloc _ _ none)
            have HGa : Hid (w.grownBy (Y2.alloc (.cells #[.int .i64 1, .int .i64 76819, .int .i64 2, .int .i64 0] 2)) (some B0)) := Lib.grownBy_trans HGY2.out gAl
            have hPx : B0 < Y2.heap.size := by have := HGY2.out.size; omega
            go_wp2_with fail
            refine (src_n B0 a len cap 4 (Y2.alloc (.cells #[.int .i64 1, .int .i64 76819, .int .i64 2, .int .i64 0] 2)) HSa.out (by omega)).mono ?_
            rintro e Y3 ⟨q9, rfl, q90, q91, hsV, hgV⟩
            obtain ⟨Qb, rfl⟩ := Int.eq_ofNat_of_zero_le q90
            have hQb : Qb < 4 := by omega
            have hQb1 : (Qb : Int) < 4 := by omega
            obtain ⟨yb, hyb, hyblo, hybhi, hybm⟩ := lit_draw (C := [1, 76819, 2, 0]) (lo := 0) (hi := 76819) hPx hgV Qb hQb (by unfold inB; decide)
            have HSY3 : Hid (SrcOk Y3 B0 a len cap) := hsV
            have HGY3 : Hid (w.grownBy Y3 (some B0)) := Lib.grownBy_trans HGa.out hgV
            clear hsV hgV HSa HGa HSY2 HGY2 q91 q90
            have HSW : Hid (∀ u : World, Calls Try.prog 42 #[.string S5, .int .i64 (512 + 4 * (D : Int)), .int .i64 yb] u fun e w' => e = .returned (.string (setv S5 (512 + 4 * D) yb)) ∧ Below u.heap.size u w') := fun u => by
              have q := specSetWord_yes S5 (512 + 4 * D) yb u (by rw [HZS.out]; omega) (by rw [HZS.out]; omega)
              rw [show ((512 + 4 * D : Nat) : Int) = 512 + 4 * (D : Int) by omega] at q
              exact q
            have HZT : Hid ((setv S5 (512 + 4 * D) yb).size = N * 256) := (show _ = _ by rw [setv_sz _ _ _ (by rw [HZS.out]; omega)]; exact HZS.out)
            go_wp2_with (go_at_call 42; refine Calls.mono (HSW.out _) ?_; rintro e Y4 ⟨rfl, hb4⟩; have HSY4 : Hid (SrcOk Y4 B0 a len cap) := HSY3.out.bel hb4; have HGY4 : Hid (w.grownBy Y4 (some B0)) := gbel HGY3.out hb4; clear hb4)
            go_ret
            exact ⟨_, rfl, memOk_of HZT.out hN0 hN1, by rw [HZT.out]; omega, by rw [HZT.out]; omega, HSY4.out, HGY4.out⟩
      · have HC : Hid (¬ T.c = 0) := hc
        have hc2 : (T.c == 0) = false := by simpa using hc
        have hsl := fun u => sl_toM a6 ks.length c6 (ks.length - 1) (by omega) u
        rw [show ((ks.length - 1 : Nat) : Int) = (ks.length : Int) - 1 by omega] at hsl
        clear HOK hc
        go_upto_region 7 with (go_at_call 12; refine Calls.mono HMH.out ?_; rintro r U1 ⟨hb, hq⟩; obtain ⟨_, rfl⟩ := hq.resolve_left (fun q => HC.out q.1); have HS1 : Hid (SrcOk U1 B0 a len cap) := HSA.out.bel hb; have HG1 : Hid (w.grownBy U1 (some B0)) := gbel HGA.out hb; have HR1 : Hid (PMrow U1 (.slice a6 ks.length c6) ks) := HRA.out.below hb; clear hb hq HMH; unfold resA)
        have HX : Hid ((U1.alloc (.cells #[.int .i64 T.c, .int .i64 tA, .string ⟨#[]⟩, .slice none 0 0] 31)).heap[U1.heap.size]? = some (.cells #[.int .i64 T.c, .int .i64 tA, .string ⟨#[]⟩, .slice none 0 0] 31 (0, 0))) := (MapKept.heap_alloc U1 _).1
        have HS2 : Hid (SrcOk (U1.alloc (.cells #[.int .i64 T.c, .int .i64 tA, .string ⟨#[]⟩, .slice none 0 0] 31)) B0 a len cap) := HS1.out.far (World.grownBy_alloc _ _ none)
        have HG2 : Hid (w.grownBy (U1.alloc (.cells #[.int .i64 T.c, .int .i64 tA, .string ⟨#[]⟩, .slice none 0 0] 31)) (some B0)) := Lib.grownBy_trans HG1.out gAl
        have HR2 : Hid (PMrow (U1.alloc (.cells #[.int .i64 T.c, .int .i64 tA, .string ⟨#[]⟩, .slice none 0 0] 31)) (.slice a6 ks.length c6) ks) := HR1.out.below ((Below.refl _ _).alloc (Nat.le_refl _) _)
        generalize U1.alloc (.cells #[.int .i64 T.c, .int .i64 tA, .string ⟨#[]⟩, .slice none 0 0] 31) = U2 at *
        clear HS1 HG1 HSA HGA HRA HR1
        obtain ⟨x0, x1, x2, x3⟩ := cel4P HX.out
        go_wp2
        refine ⟨⟨s, ks.take (ks.length - 1), rfl, HZ.out, HR2.out.take _ (by omega), by rw [List.length_take]; omega, HS2.out, HG2.out⟩, by simp [lenV]; omega⟩
end Go.Proofs.Ytfagohdmepnkkaa
