import Derived.Test.YtblmodlpopnckaaRa11
import Derived.Laws.DeepStrings4
namespace Go.Proofs.Ytblmodlpopnckaa
open Go.ChangeShapes Go.WideShapes Go.ChangeAt Go.RowKit

set_option maxRecDepth 100000 in
set_option maxHeartbeats 8000000 in
theorem specRT_any (m : ByteArray) (a : Int) (w : World) (hm0 : m.size ≤ 1048576) : Calls Try.prog 5 #[.string m, .int .i64 a] w fun e w' => ∃ v, e = .returned (.agg #[.int .i64 (rdC m a), v]) ∧ w'.ownsRow w.heap.size 40 3 v (rdZ m a).length (ftR (rdZ m a)) ∧ Below w.heap.size w w' := by
  have HL0 : Hid (LG w (w.alloc (.cells #[.int .i64 0, .slice none 0 0] 24)) w.heap.size #[.int .i64 0, .slice none 0 0] 24) := LG.new w _ _
  have HMF : Hid (∀ u, Calls Try.prog 15 #[.string m] u fun e w' => e = .returned (.int .i64 (memC m)) ∧ w' = u) := fun u => specMemFault_any m u (by omega)
  go_enter Try.func5, Try.ntmps5
  go_upto_region 1 with fail
  generalize (w.alloc (.cells #[.int .i64 0, .slice none 0 0] 24)) = u0 at *
  generalize hb0 : w.heap.size = b0 at HL0 ⊢
  have HB0 : Hid (w.heap.size = b0) := hb0
  clear hb0
  have k0 := HL0.out.cel 0 _ rfl
  have k1 := HL0.out.cel 1 _ rfl
  have z0 := HL0.out.frz 0
  have z1 := HL0.out.frz 1
  have kl := HL0.out.lt
  by_cases h1 : 65536 < m.size
  · have hd : (65536 : Int) < (m.size : Int) := by omega
    have E : Hid _ := rd_big a h1
    clear HMF h1
    go_wp2_with fail
    refine bodyPost_ret (v := .agg #[.int .i64 2, .slice none 0 0]) ?_ rfl ⟨.slice none 0 0, by rw [E.out.1], by rw [E.out.2]; exact World.ownsRow_nil _ _ _ _, ?_⟩
    · simp [results, Try.results5, go_sem, k0, k1]
    · exact (HL0.out.bel.setCell HL0.out.ge _).setCell HL0.out.ge _
  have hd : ¬ (65536 : Int) < (m.size : Int) := by omega
  have hms : (m.size : Int) ≤ 65536 := by omega
  have hms0 : (0 : Int) ≤ (m.size : Int) := by omega
  by_cases h2 : memC m = 0
  rotate_left
  · have E : Hid _ := rd_mem a h1 h2
    have hmb : memC m = 1 := by unfold memC at *; split <;> simp_all
    rw [hmb] at HMF
    clear h1 h2 hmb
    go_wp2_with (go_at_call 15; refine Calls.mono (HMF.out _) ?_; rintro e u3 ⟨rfl, rfl⟩)
    refine bodyPost_ret (v := .agg #[.int .i64 1, .slice none 0 0]) ?_ rfl ⟨.slice none 0 0, by rw [E.out.1], by rw [E.out.2]; exact World.ownsRow_nil _ _ _ _, ?_⟩
    · simp [results, Try.results5, go_sem, k0, k1]
    · exact (HL0.out.bel.setCell HL0.out.ge _).setCell HL0.out.ge _
  rw [h2] at HMF
  have hsz := memC_sz h2
  by_cases ha0 : a < 0
  · have E : Hid _ := rd_tb h1 h2 (a := a) (by unfold tbB; rw [Bool.and_eq_false_iff]; exact .inr (inW_no.2 (by omega)))
    clear h1 h2 hsz
    go_wp2_with (go_at_call 15; refine Calls.mono (HMF.out _) ?_; rintro e u3 ⟨rfl, rfl⟩)
    refine bodyPost_ret (v := .agg #[.int .i64 1, .slice none 0 0]) ?_ rfl ⟨.slice none 0 0, by rw [E.out.1], by rw [E.out.2]; exact World.ownsRow_nil _ _ _ _, ?_⟩
    · simp [results, Try.results5, go_sem, k0, k1]
    · exact (HL0.out.bel.setCell HL0.out.ge _).setCell HL0.out.ge _
  have hte : a.tmod 4 = a % 4 := Int.tmod_eq_emod_of_nonneg (by omega)
  by_cases ha4 : a % 4 = 0
  rotate_left
  · have E : Hid _ := rd_tb h1 h2 (a := a) (by unfold tbB; rw [Bool.and_eq_false_iff]; exact .inl (decide_eq_false ha4))
    have q1 : (a % 4 != 0) = true := by simp [ha4]
    have q2 : (a.tmod 4 != 0) = true := by rw [hte]; exact q1
    clear h1 h2 hsz ha4
    go_wp2_with (go_at_call 15; refine Calls.mono (HMF.out _) ?_; rintro e u3 ⟨rfl, rfl⟩)
    refine bodyPost_ret (v := .agg #[.int .i64 1, .slice none 0 0]) ?_ rfl ⟨.slice none 0 0, by rw [E.out.1], by rw [E.out.2]; exact World.ownsRow_nil _ _ _ _, ?_⟩
    · simp [results, Try.results5, go_sem, k0, k1]
    · exact (HL0.out.bel.setCell HL0.out.ge _).setCell HL0.out.ge _
  have q1 : (a % 4 != 0) = false := by simp [ha4]
  have q2 : (a.tmod 4 != 0) = false := by rw [hte]; exact q1
  by_cases hal : (m.size : Int) ≤ a
  · have E : Hid _ := rd_tb h1 h2 (a := a) (by unfold tbB; rw [Bool.and_eq_false_iff]; exact .inr (inW_no.2 (by omega)))
    clear h1 h2 hsz ha4 hte
    go_wp2_with (go_at_call 15; refine Calls.mono (HMF.out _) ?_; rintro e u3 ⟨rfl, rfl⟩)
    refine bodyPost_ret (v := .agg #[.int .i64 1, .slice none 0 0]) ?_ rfl ⟨.slice none 0 0, by rw [E.out.1], by rw [E.out.2]; exact World.ownsRow_nil _ _ _ _, ?_⟩
    · simp [results, Try.results5, go_sem, k0, k1]
    · exact (HL0.out.bel.setCell HL0.out.ge _).setCell HL0.out.ge _
  have h3 : tbB m.size a 4 = true := by unfold tbB; rw [decide_eq_true ha4, Bool.true_and]; exact inW_iff.2 (by omega)
  have hm : m.size ≤ 65536 := hsz.1
  have HNAT : Hid (∃ n : Nat, (n : Int) = a ∧ a.toNat = n) := ⟨a.toNat, by omega, rfl⟩
  have HE1 : Hid (plC m a.toNat ≠ 0 → rdC m a = plC m a.toNat ∧ rdZ m a = []) := fun h => rd_pl h1 h2 h3 h
  have HE2 : Hid (plC m a.toNat = 0 → rdC m a = rdK m (plL m a.toNat) (plL m a.toNat).length) := fun h => rd_k h1 h2 h3 h
  have HE3 : Hid (rdZ m a = if rdC m a = 0 then rdT m (plL m a.toNat) (plL m a.toNat).length else []) := rfl
  clear h1 h2 h3 hsz hte
  go_upto_region 5 with (go_at_call 15; refine Calls.mono (HMF.out _) ?_; rintro e u3 ⟨rfl, rfl⟩)
  clear HMF
  obtain ⟨n, hna, hnn⟩ := HNAT.out
  have HA : Hid ((n : Int) = a) := hna
  rw [hnn] at HE1 HE2 HE3
  clear HNAT hna hnn
  have HI12 : Hid (∀ u, Calls Try.prog 16 #[.string m, .int .i64 a, .int .i64 12] u fun e w' => e = .returned (.bool (inW m.size a 12)) ∧ w' = u) := fun u => l10In_any m a 12 u hm0
  have hal2 : a < (m.size : Int) := by omega
  have ha9 : 0 ≤ a := by omega
  clear q1 q2 ha4 ha0 hal hd
  cases h5 : inW m.size a 12
  · have h3 : plC m n = 3 := pl_short (by rw [HA.out]; exact h5)
    have E : Hid (rdC m a = 3 ∧ rdZ m a = []) := (show _ ∧ _ by have h9 := HE1.out (by rw [h3]; decide); rw [h3] at h9; exact h9)
    rw [h5] at HI12
    clear HE1 HE2 HE3 h3 h5
    go_wp2_with (go_at_call 16; refine Calls.mono (HI12.out _) ?_; rintro e u3 ⟨rfl, rfl⟩)
    refine bodyPost_ret (v := .agg #[.int .i64 3, .slice none 0 0]) ?_ rfl ⟨.slice none 0 0, by rw [E.out.1], by rw [E.out.2]; exact World.ownsRow_nil _ _ _ _, ?_⟩
    · simp [results, Try.results5, go_sem, k0, k1]
    · exact (HL0.out.bel.setCell HL0.out.ge _).setCell HL0.out.ge _
  rw [h5] at HI12
  have h12 : n + 12 ≤ m.size := by have h6 := inW_iff.1 h5; have := HA.out; omega
  clear h5
  have hsl : ∀ u, Sem.run Try.prog (Instr.slice 9 (.string m) (some (.int .i64 a)) (some (.int .i64 (a + 4))) none) u = .ok (.string (m.extract n (n + 4))) u := fun u => by
    rw [← HA.out, run_slice_string_if _ _ _ _ _ _ _ Try.underlying9, if_pos (by omega), if_pos (by omega), show ((n : Int)).toNat = n by omega, show ((n : Int) + 4).toNat = n + 4 by omega]
  cases h5 : fmk m n
  · have h3 : plC m n = 3 := pl_fmk h5
    have E : Hid (rdC m a = 3 ∧ rdZ m a = []) := (show _ ∧ _ by have h9 := HE1.out (by rw [h3]; decide); rw [h3] at h9; exact h9)
    have f1 : ((m.extract n (n + 4)).toList == [70, 73, 82, 77]) = false := h5
    have f2 : ((m.extract n (n + 4)).toList != [70, 73, 82, 77]) = true := by rw [bne, f1]; rfl
    clear HE1 HE2 HE3 h3 h5 h12
    go_wp2_with (go_at_call 16; refine Calls.mono (HI12.out _) ?_; rintro e u3 ⟨rfl, rfl⟩)
    refine bodyPost_ret (v := .agg #[.int .i64 3, .slice none 0 0]) ?_ rfl ⟨.slice none 0 0, by rw [E.out.1], by rw [E.out.2]; exact World.ownsRow_nil _ _ _ _, ?_⟩
    · simp [results, Try.results5, go_sem, k0, k1]
    · exact (HL0.out.bel.setCell HL0.out.ge _).setCell HL0.out.ge _
  have f1 : ((m.extract n (n + 4)).toList == [70, 73, 82, 77]) = true := h5
  have f2 : ((m.extract n (n + 4)).toList != [70, 73, 82, 77]) = false := by rw [bne, f1]; rfl
  have HWD : Hid (∀ (y : Int) u, y = a + 4 → Calls Try.prog 17 #[.string m, .int .i64 y] u fun e w' => e = .returned (.int .i64 (wv m (n + 4))) ∧ Below u.heap.size u w') := fun y u hy => by
    have h9 := l01Word_any m (n + 4) u (by omega) hm
    rw [show ((n + 4 : Nat) : Int) = y by have := HA.out; omega] at h9
    refine h9.mono ?_
    rintro e w' ⟨rfl, q, rfl⟩
    exact ⟨rfl, bdn (Below.refl _ _) q⟩
  have HX : Hid (((plN m n : Nat) : Int) = wv m (n + 4)) := plN_in hm (by omega)
  have hmany : Hid (10 < wv m (n + 4) → plC m n = 3) := fun h => pl_many hm (by omega) h
  have hAin : Hid (¬ 10 < wv m (n + 4) → plA m n = true) := fun h => plA_in hm (by omega) h5 h
  have hxb := wv_b m (n + 4)
  clear h5
  obtain ⟨x, hx⟩ : ∃ x, wv m (n + 4) = x := ⟨_, rfl⟩
  rw [hx] at HWD HX hmany hAin hxb
  clear hx
  obtain ⟨hx0, hx1⟩ := hxb
  go_upto_region 8 with (first | (go_at_call 16; refine Calls.mono (HI12.out _) ?_; rintro e u3 ⟨rfl, rfl⟩) | (go_at_call 17; refine Calls.mono (HWD.out _ _ (by omega)) ?_; rintro e u3 ⟨rfl, hb⟩; have HL1 : Hid (LG w u3 b0 #[.int .i64 0, .slice none 0 0] 24) := HL0.out.step hb; clear hb HL0 k0 k1 z0 z1 kl))
  clear HI12 HWD f1 f2 hsl
  have k0 := HL1.out.cel 0 _ rfl
  have k1 := HL1.out.cel 1 _ rfl
  have z0 := HL1.out.frz 0
  have z1 := HL1.out.frz 1
  have kl := HL1.out.lt
  by_cases hx10 : 10 < x
  · have h3 : plC m n = 3 := hmany.out hx10
    have E : Hid (rdC m a = 3 ∧ rdZ m a = []) := (show _ ∧ _ by have h9 := HE1.out (by rw [h3]; decide); rw [h3] at h9; exact h9)
    clear HE1 HE2 HE3 h3
    go_wp2
    refine bodyPost_ret (v := .agg #[.int .i64 3, .slice none 0 0]) ?_ rfl ⟨.slice none 0 0, by rw [E.out.1], by rw [E.out.2]; exact World.ownsRow_nil _ _ _ _, ?_⟩
    · simp [results, Try.results5, go_sem, k0, k1]
    · exact (HL1.out.bel.setCell HL1.out.ge _).setCell HL1.out.ge _
  have hA := hAin.out (by omega)
  have HI : Hid (∀ (y : Int) u, y = 12 + 4 * x → Calls Try.prog 16 #[.string m, .int .i64 a, .int .i64 y] u fun e w' => e = .returned (.bool (plI m n)) ∧ w' = u) := fun y u hy => by
    have h9 := l10In_any m a y u hm0
    have e : plI m n = inW m.size a y := by
      unfold plI
      rw [HA.out, show (((plN m n + 3 : Nat) : Int) * 4) = y by have := HX.out; omega]
    rw [e]
    exact h9
  clear hmany hAin
  have hx11 : x ≤ 10 := by omega
  cases h6 : plI m n
  · have h3 : plC m n = 3 := (plI_no hA h6).1
    have E : Hid (rdC m a = 3 ∧ rdZ m a = []) := (show _ ∧ _ by have h9 := HE1.out (by rw [h3]; decide); rw [h3] at h9; exact h9)
    rw [h6] at HI
    clear HE1 HE2 HE3 h3 h6 hA
    go_wp2_with (go_at_call 16; refine Calls.mono (HI.out _ _ (by omega)) ?_; rintro e u4 ⟨rfl, rfl⟩)
    refine bodyPost_ret (v := .agg #[.int .i64 3, .slice none 0 0]) ?_ rfl ⟨.slice none 0 0, by rw [E.out.1], by rw [E.out.2]; exact World.ownsRow_nil _ _ _ _, ?_⟩
    · simp [results, Try.results5, go_sem, k0, k1]
    · exact (HL1.out.bel.setCell HL1.out.ge _).setCell HL1.out.ge _
  rw [h6] at HI
  have h7 : n + 4 * (plN m n + 3) ≤ m.size := by
    have h9 := inW_iff.1 (show inW m.size (n : Int) (((plN m n + 3 : Nat) : Int) * 4) = true from h6)
    omega
  have HPS : Hid (plS m n = wsT (m.extract n (n + 4 * (plN m n + 3))) (plN m n + 3) % 4294967296) := (show _ = _ by rw [ws_ps m n (plN m n + 3) h7 hm _ (Nat.le_refl _)]; rfl)
  have HSN : Hid (plS m n ≠ 0 → plC m n = 10) := fun h => (plS_no hA h6 h).1
  have HSY : Hid (plS m n = 0 → plC m n = 0 ∧ (plL m n).length = plN m n ∧ ∀ k, k < plN m n → (plL m n).getD k 0 = wv m (n + 8 + 4 * k)) := fun h => by
    have h9 := (pl_yes hA h6 h).1
    exact ⟨h9, plL_in h9 hm h6⟩
  clear h6 hA
  obtain ⟨N, hN⟩ : ∃ N, plN m n = N := ⟨_, rfl⟩
  rw [hN] at h7 HPS HSY HX
  clear hN
  obtain ⟨P, hP⟩ : ∃ P, m.extract n (n + 4 * (N + 3)) = P := ⟨_, rfl⟩
  have HPZ : Hid (P.size = 4 * (N + 3)) := (show P.size = 4 * (N + 3) by rw [← hP, ByteArray.size_extract]; omega)
  have hsl : ∀ u, Sem.run Try.prog (Instr.slice 9 (.string m) (some (.int .i64 a)) (some (.int .i64 (a + 12 + 4 * x))) none) u = .ok (.string P) u := fun u => by
    rw [← HA.out, ← HX.out, run_slice_string_if _ _ _ _ _ _ _ Try.underlying9, if_pos (by omega), if_pos (by omega), show ((n : Int)).toNat = n by omega, show ((n : Int) + 12 + 4 * (N : Int)).toNat = n + 4 * (N + 3) by omega, hP]
  rw [hP] at HPS
  clear hP
  have hN10 : Hid (N ≤ 10) := (show N ≤ 10 by have := HX.out; omega)
  have HWS : Hid (∀ u, Calls Try.prog 19 #[.string P] u fun e w' => e = .returned (.int .i64 (wsT P (N + 3))) ∧ Below u.heap.size u w') := fun u => l21WordsT_any HPZ.out (by have := hN10.out; omega) u
  have HWO : Hid (∀ u, Calls Try.prog 18 #[.int .i64 (wsT P (N + 3))] u fun e w' => e = .returned (.int .i64 (plS m n)) ∧ w' = u) := fun u => by rw [HPS.out]; exact specWord_any _ u
  have hwb := wsT_b P (N + 3)
  have hw1 : wsT P (N + 3) ≤ 429496729600 := by have := hN10.out; omega
  have hw0 := hwb.1
  clear hwb
  have hps : 0 ≤ plS m n ∧ plS m n < 4294967296 := by rw [HPS.out]; omega
  obtain ⟨hps0, hps1⟩ := hps
  clear HPS HPZ
  generalize wsT P (N + 3) = ws at *
  by_cases hs : plS m n = 0
  rotate_left
  · have h3 : plC m n = 10 := HSN.out hs
    have E : Hid (rdC m a = 10 ∧ rdZ m a = []) := (show _ ∧ _ by have h9 := HE1.out (by rw [h3]; decide); rw [h3] at h9; exact h9)
    clear HE1 HE2 HE3 h3 HSN HSY
    generalize plS m n = sS at *
    go_upto_region 11 with (first | (go_at_call 16; refine Calls.mono (HI.out _ _ (by omega)) ?_; rintro e u4 ⟨rfl, rfl⟩) | (go_at_call 19; refine Calls.mono (HWS.out _) ?_; rintro e u5 ⟨rfl, hb⟩; have HL2 : Hid (LG w u5 b0 #[.int .i64 0, .slice none 0 0] 24) := HL1.out.step hb; clear hb HL1 k0 k1 z0 z1 kl; have k0 := HL2.out.cel 0 _ rfl; have k1 := HL2.out.cel 1 _ rfl; have z0 := HL2.out.frz 0; have z1 := HL2.out.frz 1; have kl := HL2.out.lt) | (go_at_call 18; refine Calls.mono (HWO.out _) ?_; rintro e u6 ⟨rfl, rfl⟩))
    go_wp2
    refine bodyPost_ret (v := .agg #[.int .i64 10, .slice none 0 0]) ?_ rfl ⟨.slice none 0 0, by rw [E.out.1], by rw [E.out.2]; exact World.ownsRow_nil _ _ _ _, ?_⟩
    · simp [results, Try.results5, go_sem, k0, k1]
    · exact (HL2.out.bel.setCell HL2.out.ge _).setCell HL2.out.ge _
  rw [hs] at HWO
  obtain ⟨h3, hpl, hpk⟩ := HSY.out hs
  have HE4 : Hid _ := HE2.out h3
  clear HE1 HE2 HSN HSY h3 hs hps0 hps1
  generalize plL m n = ps at *
  subst hpl
  have HPK : Hid _ := hpk
  clear hpk
  go_upto_region 13 with (first | (go_at_call 16; refine Calls.mono (HI.out _ _ (by omega)) ?_; rintro e u4 ⟨rfl, rfl⟩) | (go_at_call 19; refine Calls.mono (HWS.out _) ?_; rintro e u5 ⟨rfl, hb⟩; have HL2 : Hid (LG w u5 b0 #[.int .i64 0, .slice none 0 0] 24) := HL1.out.step hb; clear hb HL1 k0 k1 z0 z1 kl) | (go_at_call 18; refine Calls.mono (HWO.out _) ?_; rintro e u6 ⟨rfl, rfl⟩))
  have HS0 : Hid (SR w (u6.alloc (.cells #[.int .i64 0, .slice none 0 0] 24)) b0 u6.heap.size (.slice none 0 0) 0 (rdT m ps 0)) := ⟨HL2.out.step (bx1 _ _), ⟨HL2.out.bel.trans ((bx1 _ _).mono HL2.out.bel.size), heap_new u6 _, HL2.out.bel.size⟩, HL2.out.lt, World.ownsRow_nil _ _ _ _⟩
  generalize (u6.alloc (.cells #[.int .i64 0, .slice none 0 0] 24)) = u7 at *
  clear HL2 HI HWS HWO hsl
  generalize u6.heap.size = b1 at *
  go_wp2
  go_loopw [7] (fun i wr => ∃ (k : Nat) (v : Value), k ≤ ps.length ∧ i = .int .i64 k ∧ rdK m ps k = 0 ∧ SR w wr b0 b1 v k (rdT m ps k)) (fun i _ => ps.length - (intOf i).toNat)
  case atStart => exact ⟨0, _, Nat.zero_le _, rfl, rfl, HS0.out⟩
  case round =>
    obtain ⟨k, v, hk, rfl, hz, hsr⟩ := hrel
    clear HS0
    obtain ⟨a3, c3, hst⟩ := ft_sl hsr.ow
    subst hst
    have HZ : Hid (rdK m ps k = 0) := hz
    have HR : Hid (SR w wr b0 b1 (.slice a3 k c3) k (rdT m ps k)) := hsr
    clear hsr hz
    by_cases hlt : k < ps.length
    · have hpe := HPK.out k hlt
      have hwb := wv_b m (n + 8 + 4 * k)
      obtain ⟨p, hp⟩ : ∃ p : Nat, wv m (n + 8 + 4 * k) = (p : Int) := ⟨(wv m (n + 8 + 4 * k)).toNat, by omega⟩
      have hgd : (ps.getD k 0).toNat = p := by rw [hpe, hp]; rfl
      have HWK : Hid (∀ (y : Int) u, y = a + 8 + 4 * (k : Int) → Calls Try.prog 17 #[.string m, .int .i64 y] u fun e w' => e = .returned (.int .i64 (p : Int)) ∧ Below u.heap.size u w') := fun y u hy => by
        have h9 := l01Word_any m (n + 8 + 4 * k) u (by omega) hm
        rw [show ((n + 8 + 4 * k : Nat) : Int) = y by have := HA.out; omega, hp] at h9
        refine h9.mono ?_
        rintro e w' ⟨rfl, q, rfl⟩
        exact ⟨rfl, bdn (Below.refl _ _) q⟩
      have HRT : Hid (∀ u, Calls Try.prog 20 #[.string m, .int .i64 (p : Int)] u fun e w' => e = .returned (.tuple #[.agg #[.string (rtF m p).name, .int .i64 (rtF m p).rev, .string (rtF m p).body], .int .i64 (rtC m p)]) ∧ Below u.heap.size u w') := fun u => l21Read_any hm (by omega)
      have HSU : Hid (rdT m ps (k + 1) = rdT m ps k ++ [rtF m p]) := (show _ = _ by rw [rdT_succ, hgd])
      have HST : Hid (rtC m p ≠ 0 → rdK m ps ps.length = rtC m p) := fun h => by
        have h9 := rdK_stop HZ.out (by rw [hgd]; exact h) (ps.length - (k + 1))
        rw [hgd, show k + 1 + (ps.length - (k + 1)) = ps.length by omega] at h9
        exact h9
      have HGO : Hid (rtC m p = 0 → rdK m ps (k + 1) = 0) := fun h => rdK_go HZ.out (by rw [hgd]; exact h)
      clear hwb hp hgd hpe
      generalize rtF m p = z at *
      generalize rtC m p = cc at *
      have hk0 : (0 : Int) ≤ (k : Int) := by omega
      have hk1 : (k : Int) < x := by have := HX.out; omega
      have hk9 : (k : Int) ≤ 10 := by omega
      go_upto_region 17 with (first | (go_at_call 17; refine Calls.mono (HWK.out _ _ (by omega)) ?_; rintro e u8 ⟨rfl, hb⟩; have HR8 : Hid (SR w u8 b0 b1 (.slice a3 k c3) k (rdT m ps k)) := HR.out.step hb; clear hb HR) | (go_at_call 20; refine Calls.mono (HRT.out _) ?_; rintro e u9 ⟨rfl, hb⟩; have HR9 : Hid (SR w u9 b0 b1 (.slice a3 k c3) k (rdT m ps k)) := HR8.out.step hb; clear hb HR8))
      have HBX : Hid (LG u9 (u9.alloc (.cells #[.string z.name, .int .i64 z.rev, .string z.body] 40)) u9.heap.size #[.string z.name, .int .i64 z.rev, .string z.body] 40) := LG.new _ _ _
      have HR4 : Hid (SR w (u9.alloc (.cells #[.string z.name, .int .i64 z.rev, .string z.body] 40)) b0 b1 (.slice a3 k c3) k (rdT m ps k)) := HR9.out.step (bx1 _ _)
      generalize (u9.alloc (.cells #[.string z.name, .int .i64 z.rev, .string z.body] 40)) = u4 at *
      clear HR9 HWK HRT
      generalize u9.heap.size = q4 at *
      by_cases hcc : cc = 0
      · have HG9 : Hid _ := HGO.out hcc
        subst hcc
        clear HGO HST
        have y0 := HBX.out.cel 0 _ rfl
        have y1 := HBX.out.cel 1 _ rfl
        have y2 := HBX.out.cel 2 _ rfl
        have yl := HBX.out.lt
        have r0 := HR4.out.l1.cel 0 _ rfl
        have r1 := HR4.out.l1.cel 1 _ rfl
        have rl := HR4.out.l1.lt
        have HAP : Hid _ := appFT HR4.out.ow (by have := HR4.out.l1.lt; omega) (by omega) z
        go_wp2_with (at_builtin; (refine wl_append_exB rfl _ _ 22 rfl _ _ rfl rfl HAP.out ?_; rintro v' u' ⟨ho, hg9⟩; obtain ⟨a5, c5, rfl⟩ := ft_sl ho; have HR7 : Hid (SR w (u'.setCell ⟨b1, 1, none⟩ (.slice a5 (k + 1) c5)) b0 b1 (.slice a5 (k + 1) c5) (k + 1) (rdT m ps (k + 1))) := (by rw [HSU.out]; exact HR4.out.grow hg9 ho); have HM7 : Hid (LG w u' b1 #[.int .i64 0, .slice a3 k c3] 24) := HR4.out.mid hg9; have rf := HM7.out.frz 1; have rg := HM7.out.cel 1 _ rfl; have rl2 := HM7.out.lt; clear ho hg9))
        exact ⟨⟨k + 1, _, hlt, by go_num, HG9.out, HR7.out⟩, by simp [intOf]; omega⟩
      · have E1 : Hid (rdC m a = cc) := (show rdC m a = cc by rw [HE4.out, HST.out hcc])
        have E2 : Hid (rdZ m a = []) := (show rdZ m a = [] by rw [HE3.out, E1.out, if_neg hcc])
        clear HE3 HE4 HGO HST HSU
        have k0 := HR4.out.l0.cel 0 _ rfl
        have k1 := HR4.out.l0.cel 1 _ rfl
        have z0 := HR4.out.l0.frz 0
        have z1 := HR4.out.l0.frz 1
        have kl := HR4.out.l0.lt
        go_wp2
        refine bodyPost_ret (v := .agg #[.int .i64 cc, .slice none 0 0]) ?_ rfl ⟨.slice none 0 0, by rw [E1.out], by rw [E2.out]; exact World.ownsRow_nil _ _ _ _, ?_⟩
        · simp [results, Try.results5, go_sem, k0, k1]
        · exact (HR4.out.l0.bel.setCell HR4.out.l0.ge _).setCell HR4.out.l0.ge _
    · obtain rfl : k = ps.length := by omega
      have hnl : ¬ ((ps.length : Nat) : Int) < x := by have := HX.out; omega
      have E1 : Hid (rdC m a = 0) := (show rdC m a = 0 by rw [HE4.out, HZ.out])
      have E2 : Hid (rdZ m a = rdT m ps ps.length) := (show _ = _ by rw [HE3.out, E1.out]; rfl)
      have E3 : Hid ((rdT m ps ps.length).length = ps.length) := rdT_len _ _ _
      have HO9 : Hid (((wr.setCell ⟨b0, 0, none⟩ (.int .i64 0)).setCell ⟨b0, 1, none⟩ (.slice a3 ps.length c3)).ownsRow (b1 + 1) 40 3 (.slice a3 ps.length c3) ps.length (ftR (rdT m ps ps.length))) := own_keepB HR.out.ow (mf_gset (mf_gset ⟨rfl, rfl, rfl, Nat.le_refl _, fun _ _ _ => rfl⟩ _ _) _ _) (by have := HR.out.lt; omega)
      have k0 := HR.out.l0.cel 0 _ rfl
      have k1 := HR.out.l0.cel 1 _ rfl
      have z0 := HR.out.l0.frz 0
      have z1 := HR.out.l0.frz 1
      have kl := HR.out.l0.lt
      have r0 := HR.out.l1.cel 0 _ rfl
      have r1 := HR.out.l1.cel 1 _ rfl
      have rl := HR.out.l1.lt
      clear HE3 HE4 HZ HPK
      go_wp2
      refine bodyPost_ret (v := .agg #[.int .i64 0, .slice a3 ps.length c3]) ?_ rfl ⟨.slice a3 ps.length c3, by rw [E1.out], ?_, ?_⟩
      · simp [results, Try.results5, go_sem, k0, k1]
      · rw [E2.out, E3.out]
        exact ft_weak HO9.out (by have := HR.out.l1.ge; omega)
      · exact (HR.out.l0.bel.setCell HR.out.l0.ge _).setCell HR.out.l0.ge _
end Go.Proofs.Ytblmodlpopnckaa
