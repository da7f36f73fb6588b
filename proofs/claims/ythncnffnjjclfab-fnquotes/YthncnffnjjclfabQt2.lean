import Derived.Test.YthncnffnjjclfabQt1
import Derived.Test.YthncnffnjjclfabLG
import Derived.Deep.DeepCutAuto
namespace Go.Proofs.Ythncnffnjjclfab
open Go.ChangeShapes Go.WideShapes Go.ChangeAt Go.RowKit

def prV (r : Int) (zs : List Int) (nn : ByteArray) : Int := mixv (allT r zs nn) 42 % 1073741381
theorem prV_b (r : Int) (zs : List Int) (nn : ByteArray) : 0 ≤ prV r zs nn ∧ prV r zs nn < 1073741381 := by unfold prV; omega
theorem quoteProof_any {w : World} {v : Value} {zs : List Int} (h : Irow w v zs) (hl : zs.length ≤ 8) (r : Int) (nn : ByteArray) (hn : nn.size ≤ 4096) :
    Calls Try.prog 72 #[.int .i64 r, v, .string nn] w fun e w' => e = .returned (.int .i64 (prV r zs nn)) ∧ Below w.heap.size w w' := by
  have H : Hid _ := quoteSum_any h hl r nn 42 hn
  obtain ⟨ao, cap, rfl⟩ := h.sl
  have HE : Hid (prV r zs nn = mixv (allT r zs nn) 42 % 1073741381) := rfl
  obtain ⟨b0, b1⟩ := mixv_b (allT r zs nn) 42
  generalize prV r zs nn = R at *
  generalize mixv (allT r zs nn) 42 = x at *
  clear h
  go_enter Try.func72, Try.ntmps72
  go_wp2_with (go_at_call 70; refine Calls.mono H.out ?_; rintro e u1 ⟨rfl, hu1⟩)
  go_ret
  exact ⟨ret_int HE.out.symm, hu1⟩
def qkV (s : Int) (zs : List Int) (nn : ByteArray) : Int := 1 + mixv (allT s zs nn) 41 % 1073741380
theorem qkV_b (s : Int) (zs : List Int) (nn : ByteArray) : 1 ≤ qkV s zs nn ∧ qkV s zs nn < 1073741381 := by unfold qkV; omega
def qoB (s : Int) (nn : ByteArray) (zs : List Int) : Bool := scB s && !ovB nn && rgB zs
/-- The two numbers of a quote. -/
def qR (s : Int) (nn : ByteArray) (zs : List Int) : Int := if qoB s nn zs = true then (poL 1 4 (qkV s zs nn).toNat : Nat) else 0
def qZ (s : Int) (nn : ByteArray) (zs : List Int) : Int := if qoB s nn zs = true then (qkV s zs nn + prV (qR s nn zs) zs nn * s) % 1073741381 else 0
theorem qoB_b {s : Int} {nn : ByteArray} {zs : List Int} (h : qoB s nn zs = true) : scB s = true ∧ ovB nn = false ∧ rgB zs = true := by
  simpa [qoB, and_assoc] using h
theorem ms_b {e s : Int} (h0 : 0 ≤ e) (h1 : e < 1073741381) (s0 : 1 ≤ s) (s1 : s < 1073741381) : 0 ≤ e * s ∧ e * s ≤ 1152920553271787161 := by
  have h := Int.mul_le_mul (show e ≤ 1073741381 by omega) (show s ≤ 1073741381 by omega) (by omega) (by omega)
  have h2 := Int.mul_nonneg h0 (show 0 ≤ s by omega)
  omega
theorem mod_in (k x : Int) : (k + x % 1073741381) % 1073741381 = (k + x) % 1073741381 := by omega
set_option maxRecDepth 100000 in
set_option maxHeartbeats 4000000 in
theorem implQuote_any {w : World} {v : Value} {zs : List Int} (h : Irow w v zs) (hl : zs.length ≤ 1048576) (s : Int) (nn : ByteArray) :
    Calls Try.prog 27 #[.int .i64 s, .string nn, v] w fun e w' => e = .returned (.agg #[.int .i64 (qR s nn zs), .int .i64 (qZ s nn zs)]) ∧ Below w.heap.size w w' := by
  have HO : Hid _ := fun u => over_one nn u
  have HR : Hid (Irow w v zs) := h
  have HA : Hid (∀ u, Aft w u → Calls Try.prog 57 #[v] u fun e w' => e = .returned (.bool (rgB zs)) ∧ Below u.heap.size u w') := fun u hu => areRegs_any (h.below hu.out) hl
  have HL0 : Hid (LG w (w.alloc (.cells #[.int .i64 0, .int .i64 0] 54)) w.heap.size #[.int .i64 0, .int .i64 0] 54) := LG.new w _ _
  obtain ⟨ao, cap, rfl⟩ := h.sl
  clear h
  cases hq : qoB s nn zs
  · have E1 : Hid (qR s nn zs = 0) := (show qR s nn zs = 0 by simp [qR, hq])
    have E2 : Hid (qZ s nn zs = 0) := (show qZ s nn zs = 0 by simp [qZ, hq])
    rw [E1.out, E2.out]
    cases h1 : scB s
    · clear hq E1 E2
      go_enter Try.func27, Try.ntmps27
      go_wp2_with (go_at_call 69; refine (isSecret_any _ _).mono ?_; rintro e u1 ⟨rfl, hw1⟩; rw [hw1]; clear hw1)
      refine bodyPost_ret (v := .agg #[.int .i64 0, .int .i64 0]) ?_ rfl ⟨rfl, HL0.out.bel⟩
      simp [results, Try.results27, go_sem]
    · cases h2 : ovB nn
      · have h3 : rgB zs = false := by simpa [qoB, h1, h2] using hq
        rw [h2] at HO
        rw [h3] at HA
        clear hq E1 E2 h2 h3
        go_enter Try.func27, Try.ntmps27
        go_upto_region 1 with fail
        generalize (w.alloc (.cells #[.int .i64 0, .int .i64 0] 54)) = u0 at *
        generalize w.heap.size = b0 at *
        go_wp2_with (first | (go_at_call 69; refine (isSecret_any _ _).mono ?_; rintro e u1 ⟨rfl, hw1⟩; rw [hw1]; clear hw1) | (go_at_call 56; refine Calls.mono (HO.out _) ?_; rintro e u2 ⟨rfl, hu2⟩; have HL2 : Hid (LG w u2 b0 _ _) := HL0.out.step hu2; clear hu2) | (go_at_call 57; refine Calls.mono (HA.out _ HL2.out.aft) ?_; rintro e u3 ⟨rfl, hu3⟩; have HL3 : Hid (LG w u3 b0 _ _) := HL2.out.step hu3; clear hu3; have q0 := HL3.out.cel 0 _ rfl; have q1 := HL3.out.cel 1 _ rfl; have qf0 := HL3.out.frz 0; have qf1 := HL3.out.frz 1; have ql := HL3.out.lt))
        refine bodyPost_ret (v := .agg #[.int .i64 0, .int .i64 0]) ?_ rfl ⟨rfl, (HL3.out.bel.setCell HL3.out.ge _).setCell HL3.out.ge _⟩
        simp [results, Try.results27, go_sem, q0, q1]
      · rw [h2] at HO
        clear hq E1 E2 h2
        go_enter Try.func27, Try.ntmps27
        go_upto_region 1 with fail
        generalize (w.alloc (.cells #[.int .i64 0, .int .i64 0] 54)) = u0 at *
        generalize w.heap.size = b0 at *
        go_wp2_with (first | (go_at_call 69; refine (isSecret_any _ _).mono ?_; rintro e u1 ⟨rfl, hw1⟩; rw [hw1]; clear hw1) | (go_at_call 56; refine Calls.mono (HO.out _) ?_; rintro e u2 ⟨rfl, hu2⟩; have HL2 : Hid (LG w u2 b0 _ _) := HL0.out.step hu2; clear hu2; have q0 := HL2.out.cel 0 _ rfl; have q1 := HL2.out.cel 1 _ rfl; have qf0 := HL2.out.frz 0; have qf1 := HL2.out.frz 1; have ql := HL2.out.lt))
        refine bodyPost_ret (v := .agg #[.int .i64 0, .int .i64 0]) ?_ rfl ⟨rfl, (HL2.out.bel.setCell HL2.out.ge _).setCell HL2.out.ge _⟩
        simp [results, Try.results27, go_sem, q0, q1]
  · obtain ⟨h1, h2, h3⟩ := qoB_b hq
    obtain ⟨-, hl8, -⟩ := rgB_b h3
    have hn := ovB_le h2
    obtain ⟨k1, k2⟩ := qkV_b s zs nn
    obtain ⟨K, hK⟩ := Int.eq_ofNat_of_zero_le (show 0 ≤ qkV s zs nn by omega)
    have HK : Hid (1 + mixv (allT s zs nn) 41 % 1073741380 = (K : Int)) := hK
    have E1 : Hid (qR s nn zs = (poL 1 4 K : Nat)) := (show qR s nn zs = (poL 1 4 K : Nat) by simp [qR, hq, hK])
    have E2 : Hid (qZ s nn zs = ((K : Int) + prV (poL 1 4 K : Nat) zs nn * s) % 1073741381) := (show qZ s nn zs = _ by simp [qZ, hq, hK, E1.out])
    rw [E1.out, E2.out]
    have HQS : Hid (∀ u, Aft w u → Calls Try.prog 70 #[.int .i64 s, .slice ao zs.length cap, .string nn, .int .i64 41] u fun e w' => e = .returned (.int .i64 (mixv (allT s zs nn) 41)) ∧ Below u.heap.size u w') := fun u hu => quoteSum_any (HR.out.below hu.out) hl8 s nn 41 hn
    have HSP : Hid _ := fun u => sealPower_any 4 K u (by omega) (by omega)
    obtain ⟨m0, m1⟩ := mixv_b (allT s zs nn) 41
    have hRl : poL 1 4 K < 2147482763 := poL_lt K 1 4 (by omega)
    obtain ⟨p0, p1⟩ := prV_b (poL 1 4 K : Nat) zs nn
    have HQP : Hid (∀ u, Aft w u → Calls Try.prog 72 #[.int .i64 (poL 1 4 K : Nat), .slice ao zs.length cap, .string nn] u fun e w' => e = .returned (.int .i64 (prV (poL 1 4 K : Nat) zs nn)) ∧ Below u.heap.size u w') := fun u hu => quoteProof_any (HR.out.below hu.out) hl8 _ nn hn
    obtain ⟨n, hs, n1, n2⟩ := scB_b h1
    obtain ⟨t0, t1⟩ := ms_b p0 p1 (show 1 ≤ s by omega) (show s < 1073741381 by omega)
    rw [h2] at HO
    rw [h3] at HA
    have hKb : (K : Int) < 1073741381 := by omega
    clear hq h2 h3 E1 E2 hK k1 k2 hs n1 n2
    generalize poL 1 4 K = P at *
    generalize prV (P : Nat) zs nn = e1 at *
    generalize mixv (allT s zs nn) 41 = x at *
    go_enter Try.func27, Try.ntmps27
    go_upto_region 1 with fail
    generalize (w.alloc (.cells #[.int .i64 0, .int .i64 0] 54)) = u0 at *
    generalize w.heap.size = b0 at *
    go_wp2_with (first | (go_at_call 69; refine (isSecret_any _ _).mono ?_; rintro e u1 ⟨rfl, hw1⟩; rw [hw1]; clear hw1) | (go_at_call 56; refine Calls.mono (HO.out _) ?_; rintro e u2 ⟨rfl, hu2⟩; have HL2 : Hid (LG w u2 b0 _ _) := HL0.out.step hu2; clear hu2) | (go_at_call 57; refine Calls.mono (HA.out _ HL2.out.aft) ?_; rintro e u3 ⟨rfl, hu3⟩; have HL3 : Hid (LG w u3 b0 _ _) := HL2.out.step hu3; clear hu3) | (go_at_call 70; refine Calls.mono (HQS.out _ HL3.out.aft) ?_; rintro e u4 ⟨rfl, hu4⟩; have HL4 : Hid (LG w u4 b0 _ _) := HL3.out.step hu4; clear hu4))
    rw [HK.out]
    refine Calls.mono (HSP.out _) ?_
    rintro e u5 ⟨rfl, hw5⟩
    rw [hw5]
    clear hw5
    go_wp2_with fail
    refine Calls.mono (HQP.out _ HL4.out.aft) ?_
    rintro e u6 ⟨rfl, hu6⟩
    have HL6 : Hid (LG w u6 b0 _ _) := HL4.out.step hu6
    clear hu6
    have q0 := HL6.out.cel 0 _ rfl
    have q1 := HL6.out.cel 1 _ rfl
    have qf0 := HL6.out.frz 0
    have qf1 := HL6.out.frz 1
    have ql := HL6.out.lt
    go_wp2
    refine bodyPost_ret (v := .agg #[.int .i64 P, .int .i64 ((K + e1 * s) % 1073741381)]) ?_ rfl ⟨rfl, (HL6.out.bel.setCell HL6.out.ge _).setCell HL6.out.ge _⟩
    simp [results, Try.results27, go_sem, q0, q1]
set_option maxRecDepth 100000 in
set_option maxHeartbeats 4000000 in
theorem specQuote_any {w : World} {v : Value} {zs : List Int} (h : Irow w v zs) (hl : zs.length ≤ 1048576) (s : Int) (nn : ByteArray) :
    Calls Try.prog 29 #[.int .i64 s, .string nn, v] w fun e w' => e = .returned (.agg #[.int .i64 (qR s nn zs), .int .i64 (qZ s nn zs)]) ∧ Below w.heap.size w w' := by
  have HR : Hid (Irow w v zs) := h
  have HA : Hid (∀ u, Aft w u → Calls Try.prog 50 #[v] u fun e w' => e = .returned (.bool (rgB zs)) ∧ Below u.heap.size u w') := fun u hu => l15Regs_any (h.below hu.out) hl
  have HL0 : Hid (LG w (w.alloc (.cells #[.int .i64 0, .int .i64 0] 54)) w.heap.size #[.int .i64 0, .int .i64 0] 54) := LG.new w _ _
  obtain ⟨ao, cap, rfl⟩ := h.sl
  clear h
  have HPU : Hid (∀ u, Calls Try.prog 30 #[.int .i64 s] u fun e w' => e = .returned (.int .i64 (pubV s)) ∧ w' = u) := fun u => specPublic_any s u
  cases hq : qoB s nn zs
  · have E1 : Hid (qR s nn zs = 0) := (show qR s nn zs = 0 by simp [qR, hq])
    have E2 : Hid (qZ s nn zs = 0) := (show qZ s nn zs = 0 by simp [qZ, hq])
    rw [E1.out, E2.out]
    cases h1 : scB s
    · have hp : pubV s = 0 := by simp [pubV, h1]
      rw [hp] at HPU
      clear hq E1 E2 hp h1
      go_enter Try.func29, Try.ntmps29
      go_wp2_with (go_at_call 30; refine Calls.mono (HPU.out _) ?_; rintro e u1 ⟨rfl, hw1⟩; rw [hw1]; clear hw1)
      refine bodyPost_ret (v := .agg #[.int .i64 0, .int .i64 0]) ?_ rfl ⟨rfl, HL0.out.bel⟩
      simp [results, Try.results29, go_sem]
    · have hp : (pubV s == 0) = false := by
        have := pow4_ne s.toNat
        simp [pubV, h1]
        omega
      generalize pubV s = PV at *
      cases h2 : ovB nn
      · have h3 : rgB zs = false := by simpa [qoB, h1, h2] using hq
        have h4 : decide (4096 < (nn.size : Int)) = false := h2
        rw [h3] at HA
        clear hq E1 E2 h2 h3 h1
        go_enter Try.func29, Try.ntmps29
        go_upto_region 1 with fail
        generalize (w.alloc (.cells #[.int .i64 0, .int .i64 0] 54)) = u0 at *
        generalize w.heap.size = b0 at *
        go_wp2_with (first | (go_at_call 30; refine Calls.mono (HPU.out _) ?_; rintro e u1 ⟨rfl, hw1⟩; rw [hw1]; clear hw1) | (go_at_call 50; refine Calls.mono (HA.out _ HL0.out.aft) ?_; rintro e u3 ⟨rfl, hu3⟩; have HL3 : Hid (LG w u3 b0 _ _) := HL0.out.step hu3; clear hu3; have q0 := HL3.out.cel 0 _ rfl; have q1 := HL3.out.cel 1 _ rfl; have qf0 := HL3.out.frz 0; have qf1 := HL3.out.frz 1; have ql := HL3.out.lt))
        refine bodyPost_ret (v := .agg #[.int .i64 0, .int .i64 0]) ?_ rfl ⟨rfl, (HL3.out.bel.setCell HL3.out.ge _).setCell HL3.out.ge _⟩
        simp [results, Try.results29, go_sem, q0, q1]
      · have h4 : decide (4096 < (nn.size : Int)) = true := h2
        clear hq E1 E2 h2 h1
        go_enter Try.func29, Try.ntmps29
        go_wp2_with (go_at_call 30; refine Calls.mono (HPU.out _) ?_; rintro e u1 ⟨rfl, hw1⟩; rw [hw1]; clear hw1)
        refine bodyPost_ret (v := .agg #[.int .i64 0, .int .i64 0]) ?_ rfl ⟨rfl, HL0.out.bel⟩
        simp [results, Try.results29, go_sem]
  · obtain ⟨h1, h2, h3⟩ := qoB_b hq
    obtain ⟨-, hl8, -⟩ := rgB_b h3
    have hn := ovB_le h2
    have h4 : decide (4096 < (nn.size : Int)) = false := h2
    have hp : (pubV s == 0) = false := by
      have := pow4_ne s.toNat
      simp [pubV, h1]
      omega
    generalize pubV s = PV at *
    obtain ⟨k1, k2⟩ := qkV_b s zs nn
    obtain ⟨K, hK⟩ := Int.eq_ofNat_of_zero_le (show 0 ≤ qkV s zs nn by omega)
    have HK : Hid (1 + mixv (allT s zs nn) 41 % 1073741380 = (K : Int)) := hK
    have E1 : Hid (qR s nn zs = (poL 1 4 K : Nat)) := (show qR s nn zs = (poL 1 4 K : Nat) by simp [qR, hq, hK])
    have E2 : Hid (qZ s nn zs = ((K : Int) + prV (poL 1 4 K : Nat) zs nn * s) % 1073741381) := (show qZ s nn zs = _ by simp [qZ, hq, hK, E1.out])
    rw [E1.out, E2.out]
    have hz1 := allT_size s zs nn hl8 hn
    have hz2 := allT_size (poL 1 4 K : Nat) zs nn hl8 hn
    have HQ1 : Hid (∀ u, Aft w u → Calls Try.prog 73 #[.int .i64 s, .slice ao zs.length cap, .string nn] u fun e w' => e = .returned (.string (allT s zs nn)) ∧ Below u.heap.size u w') := fun u hu => l15All_any (HR.out.below hu.out) hl8 s nn hn
    have HQ2 : Hid (∀ u, Aft w u → Calls Try.prog 73 #[.int .i64 (poL 1 4 K : Nat), .slice ao zs.length cap, .string nn] u fun e w' => e = .returned (.string (allT (poL 1 4 K : Nat) zs nn)) ∧ Below u.heap.size u w') := fun u hu => l15All_any (HR.out.below hu.out) hl8 _ nn hn
    have HSP : Hid _ := fun u => l15Power_any 4 K u (by omega) (by omega)
    obtain ⟨m0, m1⟩ := mixv_b (allT s zs nn) 41
    have hRl : poL 1 4 K < 2147482763 := poL_lt K 1 4 (by omega)
    obtain ⟨p0, p1⟩ := prV_b (poL 1 4 K : Nat) zs nn
    have HE : Hid (mixv (allT (poL 1 4 K : Nat) zs nn) 42 % 1073741381 = prV (poL 1 4 K : Nat) zs nn) := rfl
    obtain ⟨o0, o1⟩ := mixv_b (allT (poL 1 4 K : Nat) zs nn) 42
    obtain ⟨n, hs, n1, n2⟩ := scB_b h1
    obtain ⟨t0, t1⟩ := ms_b p0 p1 (show 1 ≤ s by omega) (show s < 1073741381 by omega)
    rw [h3] at HA
    have hKb : (K : Int) < 1073741381 := by omega
    clear hq h1 h2 h3 E1 E2 hK k1 k2 hs n1 n2
    generalize poL 1 4 K = P at *
    generalize prV (P : Nat) zs nn = e1 at *
    have HM1 : Hid (∀ u, Calls Try.prog 52 #[.string (allT s zs nn), .int .i64 41] u fun e w' => e = .returned (.int .i64 (mixv (allT s zs nn) 41)) ∧ w' = u) := fun u => specMix_any _ _ _ (by omega)
    have HM2 : Hid (∀ u, Calls Try.prog 52 #[.string (allT P zs nn), .int .i64 42] u fun e w' => e = .returned (.int .i64 (mixv (allT P zs nn) 42)) ∧ w' = u) := fun u => specMix_any _ _ _ (by omega)
    generalize mixv (allT s zs nn) 41 = x at *
    generalize mixv (allT P zs nn) 42 = y at *
    generalize allT s zs nn = T1 at *
    generalize allT P zs nn = T2 at *
    go_enter Try.func29, Try.ntmps29
    go_upto_region 1 with fail
    generalize (w.alloc (.cells #[.int .i64 0, .int .i64 0] 54)) = u0 at *
    generalize w.heap.size = b0 at *
    go_wp2_with (first | (go_at_call 30; refine Calls.mono (HPU.out _) ?_; rintro e u1 ⟨rfl, hw1⟩; rw [hw1]; clear hw1) | (go_at_call 50; refine Calls.mono (HA.out _ HL0.out.aft) ?_; rintro e u3 ⟨rfl, hu3⟩; have HL3 : Hid (LG w u3 b0 _ _) := HL0.out.step hu3; clear hu3))
    refine Calls.mono (HQ1.out _ HL3.out.aft) ?_
    rintro e u4 ⟨rfl, hu4⟩
    have HL4 : Hid (LG w u4 b0 _ _) := HL3.out.step hu4
    clear hu4
    go_wp2_with fail
    refine Calls.mono (HM1.out _) ?_
    rintro e u5 ⟨rfl, hw5⟩
    rw [hw5]
    clear hw5
    go_wp2_with fail
    rw [HK.out]
    refine Calls.mono (HSP.out _) ?_
    rintro e u6 ⟨rfl, hw6⟩
    rw [hw6]
    clear hw6
    go_wp2_with fail
    refine Calls.mono (HQ2.out _ HL4.out.aft) ?_
    rintro e u7 ⟨rfl, hu7⟩
    have HL7 : Hid (LG w u7 b0 _ _) := HL4.out.step hu7
    clear hu7
    go_wp2_with fail
    refine Calls.mono (HM2.out _) ?_
    rintro e u8 ⟨rfl, hw8⟩
    rw [hw8]
    clear hw8
    have q0 := HL7.out.cel 0 _ rfl
    have q1 := HL7.out.cel 1 _ rfl
    have qf0 := HL7.out.frz 0
    have qf1 := HL7.out.frz 1
    have ql := HL7.out.lt
    go_upto_region 6 with fail
    rw [HE.out]
    go_wp2
    refine bodyPost_ret (v := .agg #[.int .i64 P, .int .i64 ((K + e1 * s) % 1073741381)]) ?_ rfl ⟨rfl, (HL7.out.bel.setCell HL7.out.ge _).setCell HL7.out.ge _⟩
    simp [results, Try.results29, go_sem, q0, q1]
end Go.Proofs.Ythncnffnjjclfab
