import Derived.Test.YtfagohdmepnkkaaDr5
namespace Go.Proofs.Ytfagohdmepnkkaa
open Go.ChangeShapes Go.WideShapes Go.ChangeAt Go.RowKit

set_option maxRecDepth 100000 in
set_option maxHeartbeats 8000000 in
theorem drawWalk_any (a : Option Addr) (len cap : Nat) (w : World) (hcode : CodeAt w w.heap.size a len) (hl : len ≤ 1048576) :
    Calls Try.prog 27 #[.slice a len cap] w fun e w' => ∃ (s : ByteArray) (root va acc : Int) (user : Bool), e = .returned (.tuple #[.string s, .int .i64 root, .int .i64 va, .int .i64 acc, .bool user]) ∧ s.size ≤ 10240 ∧ 2047 ≤ s.size ∧ -1 ≤ root ∧ root ≤ 256 ∧ -1 ≤ va ∧ va ≤ 262144 ∧ 0 ≤ acc ∧ acc ≤ 4 ∧ Below w.heap.size w w' := by
  obtain ⟨B0, hB0⟩ : ∃ B0, w.heap.size = B0 := ⟨_, rfl⟩
  have HSRC := l01Source_any a len cap w hcode hl
  have HB0 : Hid (w.heap.size ≤ B0) := (show w.heap.size ≤ B0 by omega)
  go_enter Try.func27, Try.ntmps27
  go_wp2_with fail
  refine HSRC.mono ?_
  rintro e W0 ⟨rfl, hs0, hb0⟩
  clear HSRC hcode
  rw [hB0] at hs0
  rw [hB0]
  have HS0 : Hid (SrcOk W0 B0 a len cap) := hs0
  have HG0 : Hid (W0.grownBy W0 (some B0)) := World.grownBy.refl _ _
  have HBW : Hid (Below w.heap.size w W0) := hb0
  have hlt := hs0.lt
  clear hs0 hb0 hl
  go_wp2_with fail
  refine (src_one B0 a len cap 12 W0 HS0.out (by omega)).mono ?_
  rintro e R1 ⟨tr, rfl, hs9, hg9⟩
  have HSR1 : Hid (SrcOk R1 B0 a len cap) := hs9
  have HGR1 : Hid (W0.grownBy R1 (some B0)) := Lib.grownBy_trans HG0.out hg9
  clear hs9 hg9 HS0 HG0
  cases tr
  · skip
    go_wp2_with fail
    refine (src_tables B0 a len cap R1 HSR1.out ).mono ?_
    rintro e M1 ⟨s, rfl, hmo, hs0, hs1, hs9, hg9⟩
    have HSM1 : Hid (SrcOk M1 B0 a len cap) := hs9
    have HGM1 : Hid (W0.grownBy M1 (some B0)) := Lib.grownBy_trans HGR1.out hg9
    clear hs9 hg9 HSR1 HGR1
    go_wp2_with fail
    refine (src_one B0 a len cap 40 M1 HSM1.out (by omega)).mono ?_
    rintro e M2 ⟨tm, rfl, hs9, hg9⟩
    have HSM2 : Hid (SrcOk M2 B0 a len cap) := hs9
    have HGM2 : Hid (W0.grownBy M2 (some B0)) := Lib.grownBy_trans HGM1.out hg9
    clear hs9 hg9 HSM1 HGM1
    cases tm
    · skip
      go_wp2_with fail
      refine (src_n B0 a len cap 3 M2 HSM2.out (by omega)).mono ?_
      rintro e A1 ⟨qc, rfl, qc0, qc1, hs9, hg9⟩
      have HSA1 : Hid (SrcOk A1 B0 a len cap) := hs9
      have HGA1 : Hid (W0.grownBy A1 (some B0)) := Lib.grownBy_trans HGM2.out hg9
      clear hs9 hg9 HSM2 HGM2
      go_wp2_with fail
      refine (src_one B0 a len cap 40 A1 HSA1.out (by omega)).mono ?_
      rintro e A2 ⟨tc, rfl, hs9, hg9⟩
      have HSA2 : Hid (SrcOk A2 B0 a len cap) := hs9
      have HGA2 : Hid (W0.grownBy A2 (some B0)) := Lib.grownBy_trans HGA1.out hg9
      clear hs9 hg9 HSA1 HGA1
      cases tc
      · skip
        go_wp2_with fail
        refine (src_va B0 a len cap A2 HSA2.out ).mono ?_
        rintro e Z1 ⟨va, rfl, va0, va1, hs9, hg9⟩
        have HSZ1 : Hid (SrcOk Z1 B0 a len cap) := hs9
        have HGZ1 : Hid (W0.grownBy Z1 (some B0)) := Lib.grownBy_trans HGA2.out hg9
        clear hs9 hg9 HSA2 HGA2
        go_wp2_with fail
        refine (src_one B0 a len cap 2 Z1 HSZ1.out (by omega)).mono ?_
        rintro e Z2 ⟨us, rfl, hs9, hg9⟩
        have HSZ2 : Hid (SrcOk Z2 B0 a len cap) := hs9
        have HGZ2 : Hid (W0.grownBy Z2 (some B0)) := Lib.grownBy_trans HGZ1.out hg9
        clear hs9 hg9 HSZ1 HGZ1
        go_wp2
        exact bodyPost_ret (v := .tuple #[.string s, .int .i64 1, .int .i64 va, .int .i64 (1 + qc), .bool us]) (by simp [results, Try.results27, go_sem]) rfl ⟨s, 1, va, (1 + qc), us, rfl, hs1, by omega, by omega, by omega, va0, va1, by omega, by omega, HBW.out.grown HGZ2.out HBW.out.size (fun k hk => by cases hk; exact HB0.out)⟩
      · skip
        have HSa : Hid (SrcOk (A2.alloc (.cells #[.int .i64 0, .int .i64 4] 2)) B0 a len cap) := HSA2.out.far (World.grownBy_alloc _ _ none)
        have HGa : Hid (W0.grownBy (A2.alloc (.cells #[.int .i64 0, .int .i64 4] 2)) (some B0)) := Lib.grownBy_trans HGA2.out gAl
        have hPx : B0 < A2.heap.size := by have := HGA2.out.size; omega
        go_wp2_with fail
        refine (src_n B0 a len cap 2 (A2.alloc (.cells #[.int .i64 0, .int .i64 4] 2)) HSa.out (by omega)).mono ?_
        rintro e A3 ⟨q9, rfl, q90, q91, hsV, hgV⟩
        obtain ⟨Qc, rfl⟩ := Int.eq_ofNat_of_zero_le q90
        have hQc : Qc < 2 := by omega
        have hQc1 : (Qc : Int) < 2 := by omega
        obtain ⟨yc, hyc, hyclo, hychi, hycm⟩ := lit_draw (C := [0, 4]) (lo := 0) (hi := 4) hPx hgV Qc hQc (by unfold inB; decide)
        have HSA3 : Hid (SrcOk A3 B0 a len cap) := hsV
        have HGA3 : Hid (W0.grownBy A3 (some B0)) := Lib.grownBy_trans HGa.out hgV
        clear hsV hgV HSa HGa HSA2 HGA2 q91 q90
        go_wp2_with fail
        refine (src_va B0 a len cap A3 HSA3.out ).mono ?_
        rintro e Z1 ⟨va, rfl, va0, va1, hs9, hg9⟩
        have HSZ1 : Hid (SrcOk Z1 B0 a len cap) := hs9
        have HGZ1 : Hid (W0.grownBy Z1 (some B0)) := Lib.grownBy_trans HGA3.out hg9
        clear hs9 hg9 HSA3 HGA3
        go_wp2_with fail
        refine (src_one B0 a len cap 2 Z1 HSZ1.out (by omega)).mono ?_
        rintro e Z2 ⟨us, rfl, hs9, hg9⟩
        have HSZ2 : Hid (SrcOk Z2 B0 a len cap) := hs9
        have HGZ2 : Hid (W0.grownBy Z2 (some B0)) := Lib.grownBy_trans HGZ1.out hg9
        clear hs9 hg9 HSZ1 HGZ1
        go_wp2
        exact bodyPost_ret (v := .tuple #[.string s, .int .i64 1, .int .i64 va, .int .i64 yc, .bool us]) (by simp [results, Try.results27, go_sem]) rfl ⟨s, 1, va, yc, us, rfl, hs1, by omega, by omega, by omega, va0, va1, by omega, by omega, HBW.out.grown HGZ2.out HBW.out.size (fun k hk => by cases hk; exact HB0.out)⟩
    · have sl1 : ∀ u : World, Sem.run Try.prog (Instr.slice 9 (.string s) (some (.int .i64 1)) none none) u = .ok (.string (s.extract 1 s.size)) u := fun u => sl_fromK s 1 (by omega) u
      have z1 : (s.extract 1 s.size).size = s.size - 1 := by rw [ByteArray.size_extract]; omega
      have z2 : (s.extract 1 s.size).size ≤ 10240 ∧ 2047 ≤ (s.extract 1 s.size).size := by omega
      have HZ2 : Hid _ := z2
      clear z1 z2
      go_upto_region 8 with fail
      generalize s.extract 1 s.size = s2 at *
      clear sl1
      go_wp2_with fail
      refine (src_n B0 a len cap 3 M2 HSM2.out (by omega)).mono ?_
      rintro e A1 ⟨qc, rfl, qc0, qc1, hs9, hg9⟩
      have HSA1 : Hid (SrcOk A1 B0 a len cap) := hs9
      have HGA1 : Hid (W0.grownBy A1 (some B0)) := Lib.grownBy_trans HGM2.out hg9
      clear hs9 hg9 HSM2 HGM2
      go_wp2_with fail
      refine (src_one B0 a len cap 40 A1 HSA1.out (by omega)).mono ?_
      rintro e A2 ⟨tc, rfl, hs9, hg9⟩
      have HSA2 : Hid (SrcOk A2 B0 a len cap) := hs9
      have HGA2 : Hid (W0.grownBy A2 (some B0)) := Lib.grownBy_trans HGA1.out hg9
      clear hs9 hg9 HSA1 HGA1
      cases tc
      · skip
        go_wp2_with fail
        refine (src_va B0 a len cap A2 HSA2.out ).mono ?_
        rintro e Z1 ⟨va, rfl, va0, va1, hs9, hg9⟩
        have HSZ1 : Hid (SrcOk Z1 B0 a len cap) := hs9
        have HGZ1 : Hid (W0.grownBy Z1 (some B0)) := Lib.grownBy_trans HGA2.out hg9
        clear hs9 hg9 HSA2 HGA2
        go_wp2_with fail
        refine (src_one B0 a len cap 2 Z1 HSZ1.out (by omega)).mono ?_
        rintro e Z2 ⟨us, rfl, hs9, hg9⟩
        have HSZ2 : Hid (SrcOk Z2 B0 a len cap) := hs9
        have HGZ2 : Hid (W0.grownBy Z2 (some B0)) := Lib.grownBy_trans HGZ1.out hg9
        clear hs9 hg9 HSZ1 HGZ1
        go_wp2
        exact bodyPost_ret (v := .tuple #[.string s2, .int .i64 1, .int .i64 va, .int .i64 (1 + qc), .bool us]) (by simp [results, Try.results27, go_sem]) rfl ⟨s2, 1, va, (1 + qc), us, rfl, HZ2.out.1, HZ2.out.2, by omega, by omega, va0, va1, by omega, by omega, HBW.out.grown HGZ2.out HBW.out.size (fun k hk => by cases hk; exact HB0.out)⟩
      · skip
        have HSa : Hid (SrcOk (A2.alloc (.cells #[.int .i64 0, .int .i64 4] 2)) B0 a len cap) := HSA2.out.far (World.grownBy_alloc _ _ none)
        have HGa : Hid (W0.grownBy (A2.alloc (.cells #[.int .i64 0, .int .i64 4] 2)) (some B0)) := Lib.grownBy_trans HGA2.out gAl
        have hPx : B0 < A2.heap.size := by have := HGA2.out.size; omega
        go_wp2_with fail
        refine (src_n B0 a len cap 2 (A2.alloc (.cells #[.int .i64 0, .int .i64 4] 2)) HSa.out (by omega)).mono ?_
        rintro e A3 ⟨q9, rfl, q90, q91, hsV, hgV⟩
        obtain ⟨Qc, rfl⟩ := Int.eq_ofNat_of_zero_le q90
        have hQc : Qc < 2 := by omega
        have hQc1 : (Qc : Int) < 2 := by omega
        obtain ⟨yc, hyc, hyclo, hychi, hycm⟩ := lit_draw (C := [0, 4]) (lo := 0) (hi := 4) hPx hgV Qc hQc (by unfold inB; decide)
        have HSA3 : Hid (SrcOk A3 B0 a len cap) := hsV
        have HGA3 : Hid (W0.grownBy A3 (some B0)) := Lib.grownBy_trans HGa.out hgV
        clear hsV hgV HSa HGa HSA2 HGA2 q91 q90
        go_wp2_with fail
        refine (src_va B0 a len cap A3 HSA3.out ).mono ?_
        rintro e Z1 ⟨va, rfl, va0, va1, hs9, hg9⟩
        have HSZ1 : Hid (SrcOk Z1 B0 a len cap) := hs9
        have HGZ1 : Hid (W0.grownBy Z1 (some B0)) := Lib.grownBy_trans HGA3.out hg9
        clear hs9 hg9 HSA3 HGA3
        go_wp2_with fail
        refine (src_one B0 a len cap 2 Z1 HSZ1.out (by omega)).mono ?_
        rintro e Z2 ⟨us, rfl, hs9, hg9⟩
        have HSZ2 : Hid (SrcOk Z2 B0 a len cap) := hs9
        have HGZ2 : Hid (W0.grownBy Z2 (some B0)) := Lib.grownBy_trans HGZ1.out hg9
        clear hs9 hg9 HSZ1 HGZ1
        go_wp2
        exact bodyPost_ret (v := .tuple #[.string s2, .int .i64 1, .int .i64 va, .int .i64 yc, .bool us]) (by simp [results, Try.results27, go_sem]) rfl ⟨s2, 1, va, yc, us, rfl, HZ2.out.1, HZ2.out.2, by omega, by omega, va0, va1, by omega, by omega, HBW.out.grown HGZ2.out HBW.out.size (fun k hk => by cases hk; exact HB0.out)⟩
  · skip
    have HSa : Hid (SrcOk (R1.alloc (.cells #[.int .i64 0, .int .i64 255, .int .i64 (-1), .int .i64 256, .int .i64 7] 2)) B0 a len cap) := HSR1.out.far (World.grownBy_alloc _ _ none)
    have HGa : Hid (W0.grownBy (R1.alloc (.cells #[.int .i64 0, .int .i64 255, .int .i64 (-1), .int .i64 256, .int .i64 7] 2)) (some B0)) := Lib.grownBy_trans HGR1.out gAl
    have hPx : B0 < R1.heap.size := by have := HGR1.out.size; omega
    go_wp2_with fail
    refine (src_n B0 a len cap 5 (R1.alloc (.cells #[.int .i64 0, .int .i64 255, .int .i64 (-1), .int .i64 256, .int .i64 7] 2)) HSa.out (by omega)).mono ?_
    rintro e R2 ⟨q9, rfl, q90, q91, hsV, hgV⟩
    obtain ⟨Qr, rfl⟩ := Int.eq_ofNat_of_zero_le q90
    have hQr : Qr < 5 := by omega
    have hQr1 : (Qr : Int) < 5 := by omega
    obtain ⟨yr, hyr, hyrlo, hyrhi, hyrm⟩ := lit_draw (C := [0, 255, -1, 256, 7]) (lo := -1) (hi := 256) hPx hgV Qr hQr (by unfold inB; decide)
    have HSR2 : Hid (SrcOk R2 B0 a len cap) := hsV
    have HGR2 : Hid (W0.grownBy R2 (some B0)) := Lib.grownBy_trans HGa.out hgV
    clear hsV hgV HSa HGa HSR1 HGR1 q91 q90
    go_wp2_with fail
    refine (src_tables B0 a len cap R2 HSR2.out ).mono ?_
    rintro e M1 ⟨s, rfl, hmo, hs0, hs1, hs9, hg9⟩
    have HSM1 : Hid (SrcOk M1 B0 a len cap) := hs9
    have HGM1 : Hid (W0.grownBy M1 (some B0)) := Lib.grownBy_trans HGR2.out hg9
    clear hs9 hg9 HSR2 HGR2
    go_wp2_with fail
    refine (src_one B0 a len cap 40 M1 HSM1.out (by omega)).mono ?_
    rintro e M2 ⟨tm, rfl, hs9, hg9⟩
    have HSM2 : Hid (SrcOk M2 B0 a len cap) := hs9
    have HGM2 : Hid (W0.grownBy M2 (some B0)) := Lib.grownBy_trans HGM1.out hg9
    clear hs9 hg9 HSM1 HGM1
    cases tm
    · skip
      go_wp2_with fail
      refine (src_n B0 a len cap 3 M2 HSM2.out (by omega)).mono ?_
      rintro e A1 ⟨qc, rfl, qc0, qc1, hs9, hg9⟩
      have HSA1 : Hid (SrcOk A1 B0 a len cap) := hs9
      have HGA1 : Hid (W0.grownBy A1 (some B0)) := Lib.grownBy_trans HGM2.out hg9
      clear hs9 hg9 HSM2 HGM2
      go_wp2_with fail
      refine (src_one B0 a len cap 40 A1 HSA1.out (by omega)).mono ?_
      rintro e A2 ⟨tc, rfl, hs9, hg9⟩
      have HSA2 : Hid (SrcOk A2 B0 a len cap) := hs9
      have HGA2 : Hid (W0.grownBy A2 (some B0)) := Lib.grownBy_trans HGA1.out hg9
      clear hs9 hg9 HSA1 HGA1
      cases tc
      · skip
        go_wp2_with fail
        refine (src_va B0 a len cap A2 HSA2.out ).mono ?_
        rintro e Z1 ⟨va, rfl, va0, va1, hs9, hg9⟩
        have HSZ1 : Hid (SrcOk Z1 B0 a len cap) := hs9
        have HGZ1 : Hid (W0.grownBy Z1 (some B0)) := Lib.grownBy_trans HGA2.out hg9
        clear hs9 hg9 HSA2 HGA2
        go_wp2_with fail
        refine (src_one B0 a len cap 2 Z1 HSZ1.out (by omega)).mono ?_
        rintro e Z2 ⟨us, rfl, hs9, hg9⟩
        have HSZ2 : Hid (SrcOk Z2 B0 a len cap) := hs9
        have HGZ2 : Hid (W0.grownBy Z2 (some B0)) := Lib.grownBy_trans HGZ1.out hg9
        clear hs9 hg9 HSZ1 HGZ1
        go_wp2
        exact bodyPost_ret (v := .tuple #[.string s, .int .i64 yr, .int .i64 va, .int .i64 (1 + qc), .bool us]) (by simp [results, Try.results27, go_sem]) rfl ⟨s, yr, va, (1 + qc), us, rfl, hs1, by omega, by omega, by omega, va0, va1, by omega, by omega, HBW.out.grown HGZ2.out HBW.out.size (fun k hk => by cases hk; exact HB0.out)⟩
      · skip
        have HSa : Hid (SrcOk (A2.alloc (.cells #[.int .i64 0, .int .i64 4] 2)) B0 a len cap) := HSA2.out.far (World.grownBy_alloc _ _ none)
        have HGa : Hid (W0.grownBy (A2.alloc (.cells #[.int .i64 0, .int .i64 4] 2)) (some B0)) := Lib.grownBy_trans HGA2.out gAl
        have hPx : B0 < A2.heap.size := by have := HGA2.out.size; omega
        go_wp2_with fail
        refine (src_n B0 a len cap 2 (A2.alloc (.cells #[.int .i64 0, .int .i64 4] 2)) HSa.out (by omega)).mono ?_
        rintro e A3 ⟨q9, rfl, q90, q91, hsV, hgV⟩
        obtain ⟨Qc, rfl⟩ := Int.eq_ofNat_of_zero_le q90
        have hQc : Qc < 2 := by omega
        have hQc1 : (Qc : Int) < 2 := by omega
        obtain ⟨yc, hyc, hyclo, hychi, hycm⟩ := lit_draw (C := [0, 4]) (lo := 0) (hi := 4) hPx hgV Qc hQc (by unfold inB; decide)
        have HSA3 : Hid (SrcOk A3 B0 a len cap) := hsV
        have HGA3 : Hid (W0.grownBy A3 (some B0)) := Lib.grownBy_trans HGa.out hgV
        clear hsV hgV HSa HGa HSA2 HGA2 q91 q90
        go_wp2_with fail
        refine (src_va B0 a len cap A3 HSA3.out ).mono ?_
        rintro e Z1 ⟨va, rfl, va0, va1, hs9, hg9⟩
        have HSZ1 : Hid (SrcOk Z1 B0 a len cap) := hs9
        have HGZ1 : Hid (W0.grownBy Z1 (some B0)) := Lib.grownBy_trans HGA3.out hg9
        clear hs9 hg9 HSA3 HGA3
        go_wp2_with fail
        refine (src_one B0 a len cap 2 Z1 HSZ1.out (by omega)).mono ?_
        rintro e Z2 ⟨us, rfl, hs9, hg9⟩
        have HSZ2 : Hid (SrcOk Z2 B0 a len cap) := hs9
        have HGZ2 : Hid (W0.grownBy Z2 (some B0)) := Lib.grownBy_trans HGZ1.out hg9
        clear hs9 hg9 HSZ1 HGZ1
        go_wp2
        exact bodyPost_ret (v := .tuple #[.string s, .int .i64 yr, .int .i64 va, .int .i64 yc, .bool us]) (by simp [results, Try.results27, go_sem]) rfl ⟨s, yr, va, yc, us, rfl, hs1, by omega, by omega, by omega, va0, va1, by omega, by omega, HBW.out.grown HGZ2.out HBW.out.size (fun k hk => by cases hk; exact HB0.out)⟩
    · have sl1 : ∀ u : World, Sem.run Try.prog (Instr.slice 9 (.string s) (some (.int .i64 1)) none none) u = .ok (.string (s.extract 1 s.size)) u := fun u => sl_fromK s 1 (by omega) u
      have z1 : (s.extract 1 s.size).size = s.size - 1 := by rw [ByteArray.size_extract]; omega
      have z2 : (s.extract 1 s.size).size ≤ 10240 ∧ 2047 ≤ (s.extract 1 s.size).size := by omega
      have HZ2 : Hid _ := z2
      clear z1 z2
      go_upto_region 8 with fail
      generalize s.extract 1 s.size = s2 at *
      clear sl1
      go_wp2_with fail
      refine (src_n B0 a len cap 3 M2 HSM2.out (by omega)).mono ?_
      rintro e A1 ⟨qc, rfl, qc0, qc1, hs9, hg9⟩
      have HSA1 : Hid (SrcOk A1 B0 a len cap) := hs9
      have HGA1 : Hid (W0.grownBy A1 (some B0)) := Lib.grownBy_trans HGM2.out hg9
      clear hs9 hg9 HSM2 HGM2
      go_wp2_with fail
      refine (src_one B0 a len cap 40 A1 HSA1.out (by omega)).mono ?_
      rintro e A2 ⟨tc, rfl, hs9, hg9⟩
      have HSA2 : Hid (SrcOk A2 B0 a len cap) := hs9
      have HGA2 : Hid (W0.grownBy A2 (some B0)) := Lib.grownBy_trans HGA1.out hg9
      clear hs9 hg9 HSA1 HGA1
      cases tc
      · skip
        go_wp2_with fail
        refine (src_va B0 a len cap A2 HSA2.out ).mono ?_
        rintro e Z1 ⟨va, rfl, va0, va1, hs9, hg9⟩
        have HSZ1 : Hid (SrcOk Z1 B0 a len cap) := hs9
        have HGZ1 : Hid (W0.grownBy Z1 (some B0)) := Lib.grownBy_trans HGA2.out hg9
        clear hs9 hg9 HSA2 HGA2
        go_wp2_with fail
        refine (src_one B0 a len cap 2 Z1 HSZ1.out (by omega)).mono ?_
        rintro e Z2 ⟨us, rfl, hs9, hg9⟩
        have HSZ2 : Hid (SrcOk Z2 B0 a len cap) := hs9
        have HGZ2 : Hid (W0.grownBy Z2 (some B0)) := Lib.grownBy_trans HGZ1.out hg9
        clear hs9 hg9 HSZ1 HGZ1
        go_wp2
        exact bodyPost_ret (v := .tuple #[.string s2, .int .i64 yr, .int .i64 va, .int .i64 (1 + qc), .bool us]) (by simp [results, Try.results27, go_sem]) rfl ⟨s2, yr, va, (1 + qc), us, rfl, HZ2.out.1, HZ2.out.2, by omega, by omega, va0, va1, by omega, by omega, HBW.out.grown HGZ2.out HBW.out.size (fun k hk => by cases hk; exact HB0.out)⟩
      · skip
        have HSa : Hid (SrcOk (A2.alloc (.cells #[.int .i64 0, .int .i64 4] 2)) B0 a len cap) := HSA2.out.far (World.grownBy_alloc _ _ none)
        have HGa : Hid (W0.grownBy (A2.alloc (.cells #[.int .i64 0, .int .i64 4] 2)) (some B0)) := Lib.grownBy_trans HGA2.out gAl
        have hPx : B0 < A2.heap.size := by have := HGA2.out.size; omega
        go_wp2_with fail
        refine (src_n B0 a len cap 2 (A2.alloc (.cells #[.int .i64 0, .int .i64 4] 2)) HSa.out (by omega)).mono ?_
        rintro e A3 ⟨q9, rfl, q90, q91, hsV, hgV⟩
        obtain ⟨Qc, rfl⟩ := Int.eq_ofNat_of_zero_le q90
        have hQc : Qc < 2 := by omega
        have hQc1 : (Qc : Int) < 2 := by omega
        obtain ⟨yc, hyc, hyclo, hychi, hycm⟩ := lit_draw (C := [0, 4]) (lo := 0) (hi := 4) hPx hgV Qc hQc (by unfold inB; decide)
        have HSA3 : Hid (SrcOk A3 B0 a len cap) := hsV
        have HGA3 : Hid (W0.grownBy A3 (some B0)) := Lib.grownBy_trans HGa.out hgV
        clear hsV hgV HSa HGa HSA2 HGA2 q91 q90
        go_wp2_with fail
        refine (src_va B0 a len cap A3 HSA3.out ).mono ?_
        rintro e Z1 ⟨va, rfl, va0, va1, hs9, hg9⟩
        have HSZ1 : Hid (SrcOk Z1 B0 a len cap) := hs9
        have HGZ1 : Hid (W0.grownBy Z1 (some B0)) := Lib.grownBy_trans HGA3.out hg9
        clear hs9 hg9 HSA3 HGA3
        go_wp2_with fail
        refine (src_one B0 a len cap 2 Z1 HSZ1.out (by omega)).mono ?_
        rintro e Z2 ⟨us, rfl, hs9, hg9⟩
        have HSZ2 : Hid (SrcOk Z2 B0 a len cap) := hs9
        have HGZ2 : Hid (W0.grownBy Z2 (some B0)) := Lib.grownBy_trans HGZ1.out hg9
        clear hs9 hg9 HSZ1 HGZ1
        go_wp2
        exact bodyPost_ret (v := .tuple #[.string s2, .int .i64 yr, .int .i64 va, .int .i64 yc, .bool us]) (by simp [results, Try.results27, go_sem]) rfl ⟨s2, yr, va, yc, us, rfl, HZ2.out.1, HZ2.out.2, by omega, by omega, va0, va1, by omega, by omega, HBW.out.grown HGZ2.out HBW.out.size (fun k hk => by cases hk; exact HB0.out)⟩
end Go.Proofs.Ytfagohdmepnkkaa
