import Derived.Test.YtomfbiiegcmmlaaDk6
namespace Go.Proofs.Ytomfbiiegcmmlaa
open Go.ChangeShapes Go.WideShapes Go.ChangeAt Go.RowKit

set_option maxRecDepth 100000
set_option maxHeartbeats 4000000 in
theorem specRead_any {w : World} {v : Value} {gs : List IG} {ms : List IM} (h : IGrow w v gs) (hi : IGin w gs ms) (hl : ms.length ≤ 1048576) (hL : ∀ k (hk : k < ms.length), ILen ms[k]) (n : ByteArray) (a z : Int) (hz : i64B z) : Calls Try.prog 7 #[v, .string n, .int .i64 a, .int .i64 z] w fun e w' => e = .returned (.agg #[.int .i64 (rdC ms n a z), .string (rdD ms n a z)]) ∧ Below w.heap.size w w' := by
  have HX : Hid (RBx w (w.alloc (.cells #[.int .i64 0, .string ⟨#[]⟩] 25)) 0 ⟨#[]⟩) := RBx.new w 0 ⟨#[]⟩
  have HC : Hid _ := specChain_any (h.below HX.out.bel) (hi.below HX.out.bel) hl hL
  have HF : Hid (∀ u, Below w.heap.size w u → Calls Try.prog 21 #[v, .string n] u fun e w' => e = .returned (.int .i64 (fdI ms n)) ∧ w' = u) := fun u hu => l13Find_any (h.below hu) (hi.below hu) hl n
  have HDK : Hid (chB ms = true → ∀ k, k < ms.length → ∀ u, Below w.heap.size w u → Calls Try.prog 22 #[v, .int .i64 k] u fun e w' => e = .returned (.string (dkB ms k)) ∧ Below u.heap.size u w') := fun hc k hk u hu => l13Disk_any (h.below hu) (hi.below hu) (RL.of hc) k hk
  have hlq := hi.len
  obtain ⟨ao, cap, rfl⟩ := h.sl
  rw [hlq] at HC HF HDK ⊢
  clear h hi hL hlq
  by_cases hbig : 1000 < ms.length ∨ 65536 < n.size
  · have ho : osC ms n = 2 := by unfold osC; rw [if_pos hbig]
    have hC2 : rdC ms n a z = 2 := by unfold rdC; rw [ho]; rfl
    have hE2 : rdD ms n a z = ⟨#[]⟩ := by unfold rdD; rw [ho]; rfl
    rw [hC2, hE2]
    clear ho hC2 hE2
    by_cases h1 : 1000 < ms.length
    · have hi1 : (1000 : Int) < (ms.length : Int) := by omega
      go_enter Try.func7, Try.ntmps7
      go_wp2_with fail
      refine bodyPost_ret (v := .agg #[.int .i64 2, .string ⟨#[]⟩]) ?_ rfl ⟨rfl, (Below.refl _ _).alloc (Nat.le_refl _) _⟩
      simp only [results, Try.results7, go_sem]
      simp [go_sem]
    · have hi1 : ¬ (1000 : Int) < (ms.length : Int) := by omega
      have hi2 : (65536 : Int) < (n.size : Int) := by omega
      go_enter Try.func7, Try.ntmps7
      go_wp2_with fail
      refine bodyPost_ret (v := .agg #[.int .i64 2, .string ⟨#[]⟩]) ?_ rfl ⟨rfl, (Below.refl _ _).alloc (Nat.le_refl _) _⟩
      simp only [results, Try.results7, go_sem]
      simp [go_sem]
  have hi1 : ¬ (1000 : Int) < (ms.length : Int) := by omega
  have hi2 : ¬ (65536 : Int) < (n.size : Int) := by omega
  cases hch : chB ms with
  | false =>
    have ho : osC ms n = 1 := by unfold osC; rw [if_neg hbig, hch]; rfl
    have hC2 : rdC ms n a z = 1 := by unfold rdC; rw [ho]; rfl
    have hE2 : rdD ms n a z = ⟨#[]⟩ := by unfold rdD; rw [ho]; rfl
    rw [hC2, hE2]
    rw [hch] at HC
    clear ho hC2 hE2 hch
    go_enter Try.func7, Try.ntmps7
    go_wp2_with fail
    generalize (w.alloc (.cells #[.int .i64 0, .string ⟨#[]⟩] 25)) = V at *
    refine Calls.mono HC.out ?_
    rintro e u1 ⟨rfl, hu⟩
    have HX1 : Hid (RBx w u1 0 ⟨#[]⟩) := HX.out.step hu
    have HV1 : Hid (Below V.heap.size V u1) := hu
    clear hu HC HX
    obtain ⟨c0, c1, cf⟩ := cel2 HX1.out.box
    have lt2 := HX1.out.lt
    go_wp2
    have hf := HX1.out.set 1 ⟨#[]⟩
    obtain ⟨f0, f1, _⟩ := cel2 hf.box
    refine bodyPost_ret (v := .agg #[.int .i64 1, .string ⟨#[]⟩]) ?_ rfl ⟨rfl, hf.bel⟩
    clear hf c0 c1 cf
    simp only [results, Try.results7, go_sem]
    simp [go_sem, f0, f1]
  | true =>
  rw [hch] at HC
  cases hq : fdN ms n with
  | none =>
    have ho : osC ms n = 5 := by unfold osC; rw [if_neg hbig, hch, hq]; rfl
    have hC2 : rdC ms n a z = 5 := by unfold rdC; rw [ho]; rfl
    have hE2 : rdD ms n a z = ⟨#[]⟩ := by unfold rdD; rw [ho]; rfl
    have hfi : fdI ms n = -1 := by unfold fdI; rw [hq]
    rw [hC2, hE2]
    rw [hfi] at HF
    clear ho hC2 hE2 hch hfi hq
    go_enter Try.func7, Try.ntmps7
    go_wp2_with fail
    generalize (w.alloc (.cells #[.int .i64 0, .string ⟨#[]⟩] 25)) = V at *
    refine Calls.mono HC.out ?_
    rintro e u1 ⟨rfl, hu⟩
    have HX1 : Hid (RBx w u1 0 ⟨#[]⟩) := HX.out.step hu
    have HV1 : Hid (Below V.heap.size V u1) := hu
    clear hu HC HX
    obtain ⟨c0, c1, cf⟩ := cel2 HX1.out.box
    have lt2 := HX1.out.lt
    go_wp2_with (go_at_call 21; refine Calls.mono (HF.out _ HX1.out.bel) ?_; rintro e u3 ⟨rfl, hu⟩; rw [hu]; clear hu)
    have hf := HX1.out.set 5 ⟨#[]⟩
    obtain ⟨f0, f1, _⟩ := cel2 hf.box
    refine bodyPost_ret (v := .agg #[.int .i64 5, .string ⟨#[]⟩]) ?_ rfl ⟨rfl, hf.bel⟩
    clear hf c0 c1 cf
    simp only [results, Try.results7, go_sem]
    simp [go_sem, f0, f1]
  | some k =>
    have ho : osC ms n = 0 := by unfold osC; rw [if_neg hbig, hch, hq]; rfl
    have hdk : dkO ms n = dkB ms k := by unfold dkO; rw [hch, hq]; rfl
    have hfi : fdI ms n = k := by unfold fdI; rw [hq]
    have hk := fdN_lt hq
    have hsz := dkB_size (RL.of hch) k hk
    have HD : Hid _ := HDK.out hch k hk
    have HCC : Hid (rdC ms n a z = if inW (dkB ms k).size a z then 0 else 2) := (show rdC ms n a z = _ by unfold rdC; rw [if_pos ho, hdk])
    have HDD : Hid (rdD ms n a z = if inW (dkB ms k).size a z then (dkB ms k).extract a.toNat (a + z).toNat else ⟨#[]⟩) := (show rdD ms n a z = _ by unfold rdD; rw [if_pos ho, hdk])
    have HW : Hid _ := fun u => l10In_any (dkB ms k) a z u (by omega)
    have hk0 : ¬ (k : Int) < 0 := by omega
    rw [hfi] at HF
    clear ho hch hdk hfi hq HDK
    generalize dkB ms k = D at *
    generalize rdC ms n a z = C at *
    generalize rdD ms n a z = E at *
    cases hw : inW D.size a z with
    | false =>
    rw [hw] at HW HCC HDD
    have hC2 : C = 2 := HCC.out
    have hE2 : E = ⟨#[]⟩ := HDD.out
    subst hC2
    subst hE2
    clear HCC HDD hw
    go_enter Try.func7, Try.ntmps7
    go_wp2_with fail
    generalize (w.alloc (.cells #[.int .i64 0, .string ⟨#[]⟩] 25)) = V at *
    refine Calls.mono HC.out ?_
    rintro e u1 ⟨rfl, hu⟩
    have HX1 : Hid (RBx w u1 0 ⟨#[]⟩) := HX.out.step hu
    have HV1 : Hid (Below V.heap.size V u1) := hu
    clear hu HC HX
    go_wp2_with fail
    refine Calls.mono (HF.out _ HX1.out.bel) ?_
    rintro e u3 ⟨rfl, hu⟩
    rw [hu]
    clear hu
    go_wp2_with fail
    refine Calls.mono (HD.out _ HX1.out.bel) ?_
    rintro e u2 ⟨rfl, hu⟩
    have HX2 : Hid (RBx w u2 0 ⟨#[]⟩) := HX1.out.step hu
    clear hu HX1 HD
    obtain ⟨c0, c1, cf⟩ := cel2 HX2.out.box
    have lt2 := HX2.out.lt
    go_wp2_with (go_at_call 23; refine Calls.mono (HW.out _) ?_; rintro e u3 ⟨rfl, hu⟩; rw [hu]; clear hu)
    have hf := HX2.out.set 2 ⟨#[]⟩
    obtain ⟨f0, f1, _⟩ := cel2 hf.box
    refine bodyPost_ret (v := .agg #[.int .i64 2, .string ⟨#[]⟩]) ?_ rfl ⟨rfl, hf.bel⟩
    clear hf c0 c1 cf
    simp only [results, Try.results7, go_sem]
    simp [go_sem, f0, f1]
    | true =>
    have hw2 := inW_iff.1 hw
    rw [hw] at HW HCC HDD
    have hC2 : C = 0 := HCC.out
    have hE2 : E = D.extract a.toNat (a + z).toNat := HDD.out
    subst hC2
    subst hE2
    have hsl := fun u => slBoth2 D a.toNat (a + z).toNat a (a + z) (by omega) (by omega) (by omega) (by omega) u
    obtain ⟨z1, z2⟩ := hz
    have hwr : IntKind.i64.wrap (a + z) = a + z := by rw [IntKind.wrap_i64]; omega
    have ha0 : 0 ≤ a := hw2.1
    have hz0 : 0 ≤ z := hw2.2.1
    have hs9 : a + z ≤ 1024 := by omega
    clear HCC HDD hw hw2
    generalize D.extract a.toNat (a + z).toNat = X at *
    go_enter Try.func7, Try.ntmps7
    go_wp2_with fail
    generalize (w.alloc (.cells #[.int .i64 0, .string ⟨#[]⟩] 25)) = V at *
    refine Calls.mono HC.out ?_
    rintro e u1 ⟨rfl, hu⟩
    have HX1 : Hid (RBx w u1 0 ⟨#[]⟩) := HX.out.step hu
    have HV1 : Hid (Below V.heap.size V u1) := hu
    clear hu HC HX
    go_wp2_with fail
    refine Calls.mono (HF.out _ HX1.out.bel) ?_
    rintro e u3 ⟨rfl, hu⟩
    rw [hu]
    clear hu
    go_wp2_with fail
    refine Calls.mono (HD.out _ HX1.out.bel) ?_
    rintro e u2 ⟨rfl, hu⟩
    have HX2 : Hid (RBx w u2 0 ⟨#[]⟩) := HX1.out.step hu
    clear hu HX1 HD
    obtain ⟨c0, c1, cf⟩ := cel2 HX2.out.box
    have lt2 := HX2.out.lt
    go_wp2_with (go_at_call 23; refine Calls.mono (HW.out _) ?_; rintro e u3 ⟨rfl, hu⟩; rw [hu]; clear hu)
    have hf := HX2.out.set 0 X
    obtain ⟨f0, f1, _⟩ := cel2 hf.box
    refine bodyPost_ret (v := .agg #[.int .i64 0, .string X]) ?_ rfl ⟨rfl, hf.bel⟩
    clear hf c0 c1 cf
    simp only [results, Try.results7, go_sem]
    simp [go_sem, f0, f1]
theorem eqImageRead_ok (c : Int) (d : ByteArray) (w : World) : Calls Try.prog 10 #[.agg #[.int .i64 c, .string d], .agg #[.int .i64 c, .string d]] w fun e w' => e = .returned (.bool true) ∧ Below w.heap.size w w' := by
  have HB : Hid (Below w.heap.size w ((w.alloc (.cells #[.int .i64 c, .string d] 25)).alloc (.cells #[.int .i64 c, .string d] 25))) := ((Below.refl _ _).alloc (Nat.le_refl _) _).alloc (by simp) _
  go_enter Try.func10, Try.ntmps10
  go_wp2
  go_ret
  exact ⟨rfl, HB.out⟩
end Go.Proofs.Ytomfbiiegcmmlaa
