import Derived.Test.YtappocopgckhkaaMb1
import Derived.BigQuiet
import Derived.Deep.DeepCutAuto
namespace Go.Proofs.Ytappocopgckhkaa
open Go.ChangeShapes Go.WideShapes Go.ChangeAt Go.RowKit

set_option maxRecDepth 100000 in
set_option maxHeartbeats 4000000 in
theorem l04Words_big {w : World} {v : Value} {zs : List Int} (h : Irow w v zs) (n : Nat) (hl : n ≤ 1000) : Calls Try.prog 20 #[v, .int .i64 n] w fun e w' => e = .returned (.bool (wordsB zs n)) ∧ Below w.heap.size w w' := by
  obtain ⟨ao, cap, rfl⟩ := h.sl
  have HR : Hid (Irow w (.slice ao zs.length cap) zs) := h
  clear h
  unfold wordsB
  by_cases hn : zs.length = n
  · subst hn
    obtain ⟨R, hR⟩ : ∃ R, (decide (zs.length = zs.length) && zs.all isW) = R := ⟨_, rfl⟩
    rw [hR]
    have HRR : Hid (zs.all isW = R) := (show zs.all isW = R by rw [← hR]; simp)
    clear hR
    go_enter Try.func20, Try.ntmps20
    go_wp2
    go_loopw [5] (fun i wr => ∃ k : Nat, k ≤ zs.length ∧ i = .int .i64 k ∧ (zs.take k).all isW = true ∧ Below w.heap.size w wr) (fun i _ => zs.length - (intOf i).toNat)
    case atStart => exact ⟨0, Nat.zero_le _, rfl, rfl, Below.refl _ _⟩
    case round =>
      obtain ⟨k, hk, rfl, hno, hb⟩ := hrel
      have HN : Hid ((zs.take k).all isW = true) := hno
      have HB : Hid (Below w.heap.size w wr) := hb
      by_cases hlt : k < zs.length
      · obtain ⟨g, o, cap2, hv, _, hg, hc⟩ := HR.out.resolve_left (fun h => by rw [h.1] at hlt; simp at hlt)
        injection hv with hv1 hv2 hv3
        subst hv1 hv3
        have d0 := hc.below hb hg k hlt
        have hat := all_take (p := isW) hlt
        obtain ⟨z, hz⟩ : ∃ z, zs[k] = z := ⟨_, rfl⟩
        rw [hz] at d0 hat
        have HZ : Hid (zs[k] = z) := hz
        have HAT : Hid ((zs.take (k + 1)).all isW = ((zs.take k).all isW && isW z)) := hat
        have hw := fun w' => specIsWord_any z w'
        have hk0 : (0 : Int) ≤ (k : Int) := by omega
        have hk1 : (k : Int) < (zs.length : Int) := by omega
        clear hc hno hb hz hat
        cases hp : isW z
        · rw [hp] at hw
          have HW : Hid _ := hw
          clear hw
          go_wp2_with (go_at_call 21; refine Calls.mono (HW.out _) ?_; rintro e u1 ⟨rfl, hu1⟩; rw [hu1]; clear hu1)
          go_ret
          exact ⟨ret_bool (by rw [← HRR.out]; exact (all_bad hlt (by rw [HZ.out]; exact hp)).symm), HB.out⟩
        · rw [hp] at hw
          have HW : Hid _ := hw
          clear hw
          go_wp2_with (go_at_call 21; refine Calls.mono (HW.out _) ?_; rintro e u1 ⟨rfl, hu1⟩; rw [hu1]; clear hu1)
          refine ⟨⟨k + 1, hlt, by simp, by rw [HAT.out, HN.out, hp]; rfl, HB.out⟩, ?_⟩
          simp [intOf]
          omega
      · obtain rfl : k = zs.length := by omega
        rw [List.take_length] at hno
        have HN2 : Hid (zs.all isW = true) := hno
        clear hno hb
        go_wp2
        go_ret
        exact ⟨ret_bool (by rw [← HRR.out, HN2.out]), HB.out⟩
  · have hb : ((zs.length : Int) == (n : Int)) = false := by simp; omega
    have hb2 : ((zs.length : Int) != (n : Int)) = true := by simp; omega
    go_enter Try.func20, Try.ntmps20
    go_wp2
    go_ret
    exact ⟨ret_bool (by simp [hn]), Below.refl _ _⟩
def strB : Value → ByteArray
  | .string s => s
  | _ => ⟨#[]⟩
theorem mkBytesZ (w : World) (m : Nat) (hm : m ≤ 65536) : (Instr.makeSlice 44 (.int .i64 m) (.int .i64 m)).run Try.prog w = .ok (.slice (some ⟨w.heap.size, 0, none⟩) m m) (w.alloc (.cells (cells8 (zerL m)).toArray 5)) := by
  obtain ⟨i0, hi, hz0, hz1, hz2⟩ := info_parts Try.info5
  have hr := run_makeSlice (P := Try.prog) w 44 5 i0 (.int .u8 0) Try.underlying44 hi hz0 .i64 .i64 m m (by omega) (by omega) (by rw [hz1]; omega) (by rw [hz2]; omega) (by omega)
  rw [hr, hz1]
  have e : madeCells (Value.int .u8 0).cells (m * 1) = (cells8 (zerL m)).toArray := by
    refine Array.toList_inj.1 ?_
    rw [Nat.mul_one]
    refine (toList_madeCells_one _ _).trans ?_
    simp [cells8, zerL]
  simp only [Int.toNat_natCast]
  rw [e]
theorem ownZ (w : World) (m : Nat) (hm : m ≤ 65536) : (w.alloc (.cells (cells8 (zerL m)).toArray 5)).ownsRow w.heap.size 5 1 (.slice (some ⟨w.heap.size, 0, none⟩) m m) m (cells8 (zerL m)) := by
  have hl : (cells8 (zerL m)).length = m := by simp [cells8, zerL]
  refine ⟨by rw [hl]; omega, .inr ⟨w.heap.size, m, _, rfl, Nat.le_refl _, heap_new _ _, Nat.le_refl _, by unfold maxLen; omega, by simpa using hl, ?_⟩⟩
  show (cells8 (zerL m)).take (m * 1) = _
  rw [Nat.mul_one, List.take_of_length_le (by omega)]
theorem convZ (w : World) (m : Nat) (hm : m ≤ 65536) : Sem.run Try.prog (convert 44 9 (.slice (some ⟨w.heap.size, 0, none⟩) m m)) (w.alloc (.cells (cells8 (zerL m)).toArray 5)) = .ok (.string (zpd m)) (w.alloc (.cells (cells8 (zerL m)).toArray 5)) := conv_own _ _ _ _ _ (ownZ w m hm)
set_option maxRecDepth 100000 in
set_option maxHeartbeats 4000000 in
theorem specMB_any {w : World} {ao : Option Addr} {cap : Nat} {ws : List Int} (h : Irow w (.slice ao ws.length cap) ws) (p e : Int) : Calls Try.prog 6 #[.slice ao ws.length cap, .int .i64 p, .int .i64 e] w fun r w' => r = .returned (.string (mbV ws p e)) ∧ Below w.heap.size w w' := by
  have HR : Hid (Irow w (.slice ao ws.length cap) ws) := h
  have E : Hid (mbV ws p e = if (decide (1 ≤ ws.length) && decide (ws.length ≤ 1000) && wordsB ws ws.length && decide (0 ≤ p) && decide (p ≤ 65535) && (p % 4 == 0) && isW e) = true then mbT ws p e else ⟨#[]⟩) := rfl
  clear h
  cases q1 : decide ((ws.length : Int) < 1)
  rotate_left
  · have hq := of_decide_eq_true q1
    have E2 : Hid (mbV ws p e = ⟨#[]⟩) := (show mbV ws p e = _ by rw [E.out]; exact if_neg (by simp; intros; omega))
    generalize mbV ws p e = V at *
    clear E
    go_enter Try.func6, Try.ntmps6
    go_wp2
    go_ret
    exact ⟨by rw [E2.out]; rfl, Below.refl _ _⟩
  cases q2 : decide (1000 < (ws.length : Int))
  rotate_left
  · have hq := of_decide_eq_true q2
    have E2 : Hid (mbV ws p e = ⟨#[]⟩) := (show mbV ws p e = _ by rw [E.out]; exact if_neg (by simp; intros; omega))
    generalize mbV ws p e = V at *
    clear E
    go_enter Try.func6, Try.ntmps6
    go_wp2
    go_ret
    exact ⟨by rw [E2.out]; rfl, Below.refl _ _⟩
  have hl1 : ws.length ≤ 1000 := by have := of_decide_eq_false q2; omega
  have hl0 : 1 ≤ ws.length := by have := of_decide_eq_false q1; omega
  have HAW : Hid (Calls Try.prog 20 #[.slice ao ws.length cap, .int .i64 (ws.length : Nat)] w fun r w' => r = .returned (.bool (wordsB ws ws.length)) ∧ Below w.heap.size w w') := l04Words_big HR.out ws.length hl1
  have HIW : Hid (∀ u, Calls Try.prog 21 #[.int .i64 e] u fun r w' => r = .returned (.bool (isW e)) ∧ w' = u) := fun u => specIsWord_any e u
  generalize wordsB ws ws.length = W at *
  generalize isW e = J at *
  cases W
  · skip
    have E2 : Hid (mbV ws p e = ⟨#[]⟩) := (show mbV ws p e = _ by rw [E.out]; exact if_neg (by simp))
    generalize mbV ws p e = V at *
    clear E
    go_enter Try.func6, Try.ntmps6
    go_wp2_with (go_at_call 20; refine Calls.mono (HAW.out) ?_; rintro r u9 ⟨rfl, hb9⟩; have HB9 : Hid (Below w.heap.size w u9) := hb9; clear hb9)
    go_ret
    exact ⟨by rw [E2.out]; rfl, HB9.out⟩
  cases q3 : decide (p < 0)
  rotate_left
  · have hq := of_decide_eq_true q3
    have E2 : Hid (mbV ws p e = ⟨#[]⟩) := (show mbV ws p e = _ by rw [E.out]; exact if_neg (by simp; intros; omega))
    generalize mbV ws p e = V at *
    clear E
    go_enter Try.func6, Try.ntmps6
    go_wp2_with (go_at_call 20; refine Calls.mono (HAW.out) ?_; rintro r u9 ⟨rfl, hb9⟩; have HB9 : Hid (Below w.heap.size w u9) := hb9; clear hb9)
    go_ret
    exact ⟨by rw [E2.out]; rfl, HB9.out⟩
  cases q4 : decide (65535 < p)
  rotate_left
  · have hq := of_decide_eq_true q4
    have E2 : Hid (mbV ws p e = ⟨#[]⟩) := (show mbV ws p e = _ by rw [E.out]; exact if_neg (by simp; intros; omega))
    generalize mbV ws p e = V at *
    clear E
    go_enter Try.func6, Try.ntmps6
    go_wp2_with (go_at_call 20; refine Calls.mono (HAW.out) ?_; rintro r u9 ⟨rfl, hb9⟩; have HB9 : Hid (Below w.heap.size w u9) := hb9; clear hb9)
    go_ret
    exact ⟨by rw [E2.out]; rfl, HB9.out⟩
  have hp0 : 0 ≤ p := by have := of_decide_eq_false q3; omega
  have hp1 : p ≤ 65535 := by have := of_decide_eq_false q4; omega
  have htm : p.tmod 4 = p % 4 := Int.tmod_eq_emod_of_nonneg hp0
  cases q5 : (p % 4 != 0)
  rotate_left
  · have hq : ¬ p % 4 = 0 := by simpa using q5
    have E2 : Hid (mbV ws p e = ⟨#[]⟩) := (show mbV ws p e = _ by rw [E.out]; exact if_neg (by rw [show (p % 4 == 0) = false from beq_eq_false_iff_ne.2 hq]; simp))
    generalize mbV ws p e = V at *
    clear E
    go_enter Try.func6, Try.ntmps6
    go_wp2_with (go_at_call 20; refine Calls.mono (HAW.out) ?_; rintro r u9 ⟨rfl, hb9⟩; have HB9 : Hid (Below w.heap.size w u9) := hb9; clear hb9)
    go_ret
    exact ⟨by rw [E2.out]; rfl, HB9.out⟩
  have HP4 : Hid (p % 4 = 0) := (show p % 4 = 0 by simpa using q5)
  cases J
  · skip
    have E2 : Hid (mbV ws p e = ⟨#[]⟩) := (show mbV ws p e = _ by rw [E.out]; exact if_neg (by simp))
    generalize mbV ws p e = V at *
    clear E
    go_enter Try.func6, Try.ntmps6
    go_wp2_with (first | (go_at_call 20; refine Calls.mono (HAW.out) ?_; rintro r u9 ⟨rfl, hb9⟩; have HB9 : Hid (Below w.heap.size w u9) := hb9; clear hb9) | (go_at_call 21; refine Calls.mono (HIW.out _) ?_; rintro r u8 ⟨rfl, hw8⟩; rw [hw8]; clear hw8))
    go_ret
    exact ⟨by rw [E2.out]; rfl, HB9.out⟩
  have E2 : Hid (mbV ws p e = mbT ws p e) := (show mbV ws p e = _ by rw [E.out]; exact if_pos (by rw [show (p % 4 == 0) = true from beq_iff_eq.2 HP4.out]; simp; omega))
  have E3 : Hid (mbT ws p e = insT ((⟨#[66, 79, 79, 84]⟩ : ByteArray) ++ pwT [p, e, (ws.length : Int), mixv (pwT ws) 71]) ++ insT (pwT ws)) := rfl
  have HPW : Hid (∀ u, Aft w u → Calls Try.prog 22 #[.slice ao ws.length cap] u fun r w' => r = .returned (.string (pwT ws)) ∧ Below u.heap.size u w') := fun u hu => l20Words_any (HR.out.below hu.out) hl1
  have HPF : Hid (∀ (u : World) (m : Int), Calls Try.prog 22 #[.slice (some ⟨u.heap.size, 0, none⟩) 4 4] (u.alloc (.cells #[.int .i64 p, .int .i64 e, .int .i64 (ws.length : Nat), .int .i64 m] 2)) fun r w' => r = .returned (.string (pwT [p, e, (ws.length : Int), m])) ∧ Below u.heap.size u w') := (fun u m => (l20Words_any (i_four u p e (ws.length : Nat) m) (by simp)).mono (by rintro r w' ⟨rfl, hb⟩; exact ⟨rfl, (LG.new u _ _).bel.trans (hb.mono (by simp))⟩))
  have hs1 := pwT_sz ws
  have hs2 := fun m => pwT_sz [p, e, (ws.length : Int), m]
  have HMX : Hid (∀ u, Calls Try.prog 23 #[.string (pwT ws), .int .i64 71] u fun r w' => r = .returned (.int .i64 (mixv (pwT ws) 71)) ∧ w' = u) := fun u => specMix_any _ _ u (by omega)
  generalize mixv (pwT ws) 71 = m at *
  have hs3 := hs2 m
  simp only [List.length_cons, List.length_nil] at hs3
  have hz1 : (pwT ws).size ≤ 4000 := by omega
  have hz2 : (pwT [p, e, (ws.length : Int), m]).size = 16 := by omega
  have HH : Hid (((⟨#[66, 79, 79, 84]⟩ : ByteArray) ++ pwT [p, e, (ws.length : Int), m]).size = 20) := (show _ = _ by rw [ba_sz, hz2]; rfl)
  have hadd := fun u => run_string_add_sum (P := Try.prog) u (⟨#[66, 79, 79, 84]⟩ : ByteArray) (pwT [p, e, (ws.length : Int), m]) (by rw [hz2]; show 4 + 16 ≤ _; omega)
  clear hs1 hs2 hs3 E
  generalize mbV ws p e = V at *
  generalize mbT ws p e = V2 at *
  go_enter Try.func6, Try.ntmps6
  go_wp2_with fail
  refine Calls.mono HAW.out ?_
  rintro r u1 ⟨rfl, hb⟩
  have HB1 : Hid (Below w.heap.size w u1) := hb
  clear hb
  go_wp2_with fail
  refine Calls.mono (HIW.out _) ?_
  rintro r u8 ⟨rfl, hw8⟩
  rw [hw8]
  clear hw8
  go_upto_region 3 with fail
  clear htm q1 q2 q3 q4 q5 hp0 hp1
  go_wp2_with fail
  refine Calls.mono (HPW.out _ ⟨HB1.out⟩) ?_
  rintro r u2 ⟨rfl, hb⟩
  have HB2 : Hid (Below w.heap.size w u2) := HB1.out.trans (hb.mono HB1.out.size)
  clear hb HB1
  generalize pwT ws = d at *
  go_wp2_with fail
  refine Calls.mono (HMX.out _) ?_
  rintro r u9 ⟨rfl, hw9⟩
  rw [hw9]
  clear hw9
  go_wp2_with fail
  refine Calls.mono (HPF.out u2 m) ?_
  rintro r u3 ⟨rfl, hb⟩
  have HB3 : Hid (Below w.heap.size w u3) := HB2.out.trans (hb.mono HB2.out.size)
  clear hb HB2
  go_upto_region 5 with fail
  clear hadd
  generalize ((⟨#[66, 79, 79, 84]⟩ : ByteArray) ++ pwT [p, e, (ws.length : Int), m]) = t at *
  have ht20 : t.size = 20 := HH.out
  have hmk : ∀ u : World, (Instr.makeSlice 44 (.int .i64 44) (.int .i64 44)).run Try.prog u = .ok (.slice (some ⟨u.heap.size, 0, none⟩) 44 44) (u.alloc (.cells (cells8 (zerL 44)).toArray 5)) := fun u => mkBytesZ u 44 (by omega)
  have hcv := convZ u3 44 (by omega)
  have a1 := fun u => run_string_add_sum (P := Try.prog) u t (zpd 44) (by rw [zpd_size]; omega)
  have hx1 : (t ++ zpd 44).size = 64 := by rw [ba_sz, zpd_size, ht20]
  have a2 := fun u => run_string_add_sum (P := Try.prog) u (t ++ zpd 44) d (by omega)
  have HX2 : Hid ((t ++ zpd 44 ++ d).size = 64 + d.size) := (show _ = _ by rw [ba_sz, hx1])
  have HV2 : Hid (V2 = t ++ zpd 44 ++ d ++ zpd (padN d.size)) := (show _ = _ by rw [E3.out, insT, insT, ht20, show padN 20 = 44 from rfl]; exact ByteArray.append_assoc.symm)
  have HB4 : Hid (Below w.heap.size w (u3.alloc (.cells (cells8 (zerL 44)).toArray 5))) := HB3.out.trans ((LG.new u3 _ _).bel.mono HB3.out.size)
  clear HH E3
  go_upto_region 6 with fail
  clear hmk hcv a1 a2 hx1 ht20
  generalize (u3.alloc (.cells (cells8 (zerL 44)).toArray 5)) = u4 at *
  generalize t ++ zpd 44 ++ d = X at *
  go_loopw [8] (fun v wr => ∃ k : Nat, k ≤ padN d.size ∧ v = .string (X ++ zpd k) ∧ Below w.heap.size w wr) (fun v _ => 100000 - (strB v).size)
  case atStart => exact ⟨0, Nat.zero_le _, by rw [zpd_0], HB4.out⟩
  case round =>
    obtain ⟨k, hk, rfl, hb⟩ := hrel
    have HB : Hid (Below w.heap.size w wr) := hb
    have HS : Hid ((X ++ zpd k).size = 64 + d.size + k) := (show _ = _ by rw [ba_sz, zpd_size, HX2.out])
    have HN : Hid (X ++ zpd k ++ ⟨#[0]⟩ = X ++ zpd (k + 1)) := zpd_succ X k
    have HPB : Hid (k ≤ padN d.size) := hk
    have hp63 : padN d.size ≤ 63 := by unfold padN; omega
    clear hb
    by_cases hlt : k < padN d.size
    · have hr : (((X ++ zpd k).size : Nat) : Int).tmod 64 = (((64 + d.size + k) % 64 : Nat) : Int) := by rw [HS.out, Int.tmod_eq_emod_of_nonneg (by omega)]; omega
      have hne : ((((64 + d.size + k) % 64 : Nat) : Int) != 0) = true := by
        have : (64 + d.size + k) % 64 ≠ 0 := by unfold padN at hlt; omega
        simp only [bne_iff_ne, ne_eq]
        omega
      have hsz : (X ++ zpd k).size ≤ 5000 := by rw [HS.out]; omega
      have had := fun u => run_string_add_sum (P := Try.prog) u (X ++ zpd k) ⟨#[0]⟩ (by show (X ++ zpd k).size + 1 ≤ _; omega)
      rw [HN.out] at had
      have HS2 : Hid ((X ++ zpd (k + 1)).size = 64 + d.size + (k + 1)) := (show _ = _ by rw [ba_sz, zpd_size, HX2.out])
      generalize X ++ zpd k = y at *
      obtain ⟨y2, hy2⟩ : ∃ y2, X ++ zpd (k + 1) = y2 := ⟨_, rfl⟩
      rw [hy2] at had HS2
      have HY2 : Hid (X ++ zpd (k + 1) = y2) := hy2
      clear hy2
      generalize (64 + d.size + k) % 64 = r at *
      clear hk
      go_wp2
      exact ⟨⟨k + 1, hlt, by rw [HY2.out], HB.out⟩, by have h1 := HS.out; have h2 := HS2.out; simp only [strB]; omega⟩
    · have hke : k = padN d.size := by omega
      have hr : (((X ++ zpd k).size : Nat) : Int).tmod 64 = 0 := by
        rw [HS.out, Int.tmod_eq_emod_of_nonneg (by omega), hke]
        unfold padN
        omega
      have HE : Hid (V = X ++ zpd k) := (show _ = _ by rw [E2.out, HV2.out, hke])
      clear hk hke hlt
      generalize X ++ zpd k = y at *
      go_wp2
      go_ret
      exact ⟨by rw [HE.out]; rfl, HB.out⟩
end Go.Proofs.Ytappocopgckhkaa
