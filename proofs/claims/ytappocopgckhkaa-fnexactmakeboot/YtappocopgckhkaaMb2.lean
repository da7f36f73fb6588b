import Derived.Test.YtappocopgckhkaaMb1
import Derived.BigQuiet
import Derived.Deep.DeepCutAuto
namespace Go.Proofs.Ytappocopgckhkaa
open Go.ChangeShapes Go.WideShapes Go.ChangeAt Go.RowKit

set_option maxRecDepth 100000 in
set_option maxHeartbeats 4000000 in
theorem implMB_any {w : World} {ao : Option Addr} {cap : Nat} {ws : List Int} (h : Irow w (.slice ao ws.length cap) ws) (hl : ws.length ≤ 1048576) (p e : Int) : Calls Try.prog 8 #[.slice ao ws.length cap, .int .i64 p, .int .i64 e] w fun r w' => r = .returned (.string (mbV ws p e)) ∧ Below w.heap.size w w' := by
  have HR : Hid (Irow w (.slice ao ws.length cap) ws) := h
  have HIN : Hid (∀ u, Calls Try.prog 24 #[.int .i64 65536, .int .i64 p, .int .i64 4] u fun r w' => r = .returned (.bool (inW 65536 p 4)) ∧ w' = u) := fun u => isWithin_any 65536 p 4 u (by omega) ⟨by omega, by omega⟩
  have HIW : Hid (∀ u, Calls Try.prog 25 #[.int .i64 e] u fun r w' => r = .returned (.bool (isW e)) ∧ w' = u) := fun u => implIsWord_any e u
  have HAW : Hid (∀ u, Aft w u → Calls Try.prog 26 #[.slice ao ws.length cap, .int .i64 (ws.length : Nat)] u fun r w' => r = .returned (.bool (wordsB ws ws.length)) ∧ Below u.heap.size u w') := fun u hu => areWords_any (HR.out.below hu.out) hl ws.length
  have HWB : Hid (wordsB ws ws.length = wordsB ws ws.length) := rfl
  have E : Hid (mbV ws p e = if (decide (1 ≤ ws.length) && decide (ws.length ≤ 1000) && wordsB ws ws.length && decide (0 ≤ p) && decide (p ≤ 65535) && (p % 4 == 0) && isW e) = true then mbT ws p e else ⟨#[]⟩) := rfl
  have HI2 : Hid (inW 65536 p 4 = decide (0 ≤ p ∧ p ≤ 65532)) := (show _ = _ by unfold inW; exact decide_eq_decide.2 (by omega))
  generalize inW 65536 p 4 = I at *
  generalize wordsB ws ws.length = W at *
  generalize isW e = J at *
  clear h hl HWB
  cases q0 : (p.tmod 4 != 0)
  rotate_left
  · have hp4 : ¬ p % 4 = 0 := fun hh => by
      have h1 : p.tmod 4 = 0 := Int.tmod_eq_zero_of_dvd (Int.dvd_of_emod_eq_zero hh)
      rw [h1] at q0
      simp at q0
    have E2 : Hid (mbV ws p e = ⟨#[]⟩) := (show mbV ws p e = _ by rw [E.out]; exact if_neg (by rw [show (p % 4 == 0) = false from beq_eq_false_iff_ne.2 hp4]; simp))
    generalize mbV ws p e = V at *
    clear E
    go_enter Try.func8, Try.ntmps8
    go_wp2_with (first | (go_at_call 24; refine Calls.mono (HIN.out _) ?_; rintro r u7 ⟨rfl, hw7⟩; rw [hw7]; clear hw7) | (go_at_call 25; refine Calls.mono (HIW.out _) ?_; rintro r u8 ⟨rfl, hw8⟩; rw [hw8]; clear hw8) | (go_at_call 26; refine Calls.mono (HAW.out _ ⟨Below.refl _ _⟩) ?_; rintro r u9 ⟨rfl, hb9⟩; have HB9 : Hid (Below w.heap.size w u9) := hb9; clear hb9))
    go_ret
    exact ⟨by rw [E2.out]; rfl, Below.refl _ _⟩
  have hp4 : p % 4 = 0 := Int.emod_eq_zero_of_dvd (Int.dvd_of_tmod_eq_zero (by simpa using q0))
  cases I
  · have hI := of_decide_eq_false HI2.out.symm
    have E2 : Hid (mbV ws p e = ⟨#[]⟩) := (show mbV ws p e = _ by rw [E.out]; exact if_neg (by simp; intros; omega))
    generalize mbV ws p e = V at *
    clear E
    go_enter Try.func8, Try.ntmps8
    go_wp2_with (first | (go_at_call 24; refine Calls.mono (HIN.out _) ?_; rintro r u7 ⟨rfl, hw7⟩; rw [hw7]; clear hw7) | (go_at_call 25; refine Calls.mono (HIW.out _) ?_; rintro r u8 ⟨rfl, hw8⟩; rw [hw8]; clear hw8) | (go_at_call 26; refine Calls.mono (HAW.out _ ⟨Below.refl _ _⟩) ?_; rintro r u9 ⟨rfl, hb9⟩; have HB9 : Hid (Below w.heap.size w u9) := hb9; clear hb9))
    go_ret
    exact ⟨by rw [E2.out]; rfl, Below.refl _ _⟩
  have hI := of_decide_eq_true HI2.out.symm
  clear HI2
  cases J
  · skip
    have E2 : Hid (mbV ws p e = ⟨#[]⟩) := (show mbV ws p e = _ by rw [E.out]; exact if_neg (by simp))
    generalize mbV ws p e = V at *
    clear E
    go_enter Try.func8, Try.ntmps8
    go_wp2_with (first | (go_at_call 24; refine Calls.mono (HIN.out _) ?_; rintro r u7 ⟨rfl, hw7⟩; rw [hw7]; clear hw7) | (go_at_call 25; refine Calls.mono (HIW.out _) ?_; rintro r u8 ⟨rfl, hw8⟩; rw [hw8]; clear hw8) | (go_at_call 26; refine Calls.mono (HAW.out _ ⟨Below.refl _ _⟩) ?_; rintro r u9 ⟨rfl, hb9⟩; have HB9 : Hid (Below w.heap.size w u9) := hb9; clear hb9))
    go_ret
    exact ⟨by rw [E2.out]; rfl, Below.refl _ _⟩
  cases q1 : decide ((ws.length : Int) < 1)
  rotate_left
  · have hq := of_decide_eq_true q1
    have E2 : Hid (mbV ws p e = ⟨#[]⟩) := (show mbV ws p e = _ by rw [E.out]; exact if_neg (by simp; intros; omega))
    generalize mbV ws p e = V at *
    clear E
    go_enter Try.func8, Try.ntmps8
    go_wp2_with (first | (go_at_call 24; refine Calls.mono (HIN.out _) ?_; rintro r u7 ⟨rfl, hw7⟩; rw [hw7]; clear hw7) | (go_at_call 25; refine Calls.mono (HIW.out _) ?_; rintro r u8 ⟨rfl, hw8⟩; rw [hw8]; clear hw8) | (go_at_call 26; refine Calls.mono (HAW.out _ ⟨Below.refl _ _⟩) ?_; rintro r u9 ⟨rfl, hb9⟩; have HB9 : Hid (Below w.heap.size w u9) := hb9; clear hb9))
    go_ret
    exact ⟨by rw [E2.out]; rfl, Below.refl _ _⟩
  cases q2 : decide (1000 < (ws.length : Int))
  rotate_left
  · have hq := of_decide_eq_true q2
    have E2 : Hid (mbV ws p e = ⟨#[]⟩) := (show mbV ws p e = _ by rw [E.out]; exact if_neg (by simp; intros; omega))
    generalize mbV ws p e = V at *
    clear E
    go_enter Try.func8, Try.ntmps8
    go_wp2_with (first | (go_at_call 24; refine Calls.mono (HIN.out _) ?_; rintro r u7 ⟨rfl, hw7⟩; rw [hw7]; clear hw7) | (go_at_call 25; refine Calls.mono (HIW.out _) ?_; rintro r u8 ⟨rfl, hw8⟩; rw [hw8]; clear hw8) | (go_at_call 26; refine Calls.mono (HAW.out _ ⟨Below.refl _ _⟩) ?_; rintro r u9 ⟨rfl, hb9⟩; have HB9 : Hid (Below w.heap.size w u9) := hb9; clear hb9))
    go_ret
    exact ⟨by rw [E2.out]; rfl, Below.refl _ _⟩
  cases W
  · skip
    have E2 : Hid (mbV ws p e = ⟨#[]⟩) := (show mbV ws p e = _ by rw [E.out]; exact if_neg (by simp))
    generalize mbV ws p e = V at *
    clear E
    go_enter Try.func8, Try.ntmps8
    go_wp2_with (first | (go_at_call 24; refine Calls.mono (HIN.out _) ?_; rintro r u7 ⟨rfl, hw7⟩; rw [hw7]; clear hw7) | (go_at_call 25; refine Calls.mono (HIW.out _) ?_; rintro r u8 ⟨rfl, hw8⟩; rw [hw8]; clear hw8) | (go_at_call 26; refine Calls.mono (HAW.out _ ⟨Below.refl _ _⟩) ?_; rintro r u9 ⟨rfl, hb9⟩; have HB9 : Hid (Below w.heap.size w u9) := hb9; clear hb9))
    go_ret
    exact ⟨by rw [E2.out]; rfl, HB9.out⟩
  have hl1 : ws.length ≤ 1000 := by have := of_decide_eq_false q2; omega
  have hl0 : 1 ≤ ws.length := by have := of_decide_eq_false q1; omega
  have E2 : Hid (mbV ws p e = mbT ws p e) := (show mbV ws p e = _ by rw [E.out]; exact if_pos (by simp; omega))
  have E3 : Hid (mbT ws p e = insT (btM ++ pwT [p, e, (ws.length : Int), mixv (pwT ws) 71]) ++ insT (pwT ws)) := rfl
  have HPW : Hid (∀ u, Aft w u → Calls Try.prog 27 #[.slice ao ws.length cap] u fun r w' => r = .returned (.string (pwT ws)) ∧ Below u.heap.size u w') := fun u hu => packWords_any (HR.out.below hu.out) hl1
  have HP4 : Hid (∀ (u : World) (m : Int), Calls Try.prog 27 #[.slice (some ⟨u.heap.size, 0, none⟩) 4 4] (u.alloc (.cells #[.int .i64 p, .int .i64 e, .int .i64 (ws.length : Nat), .int .i64 m] 2)) fun r w' => r = .returned (.string (pwT [p, e, (ws.length : Int), m])) ∧ Below u.heap.size u w') := (fun u m => (packWords_any (i_four u p e (ws.length : Nat) m) (by simp)).mono (by rintro r w' ⟨rfl, hb⟩; exact ⟨rfl, (LG.new u _ _).bel.trans (hb.mono (by simp))⟩))
  have hs1 := pwT_sz ws
  have hs2 := fun m => pwT_sz [p, e, (ws.length : Int), m]
  have HMX : Hid (∀ u, Calls Try.prog 29 #[.string (pwT ws), .int .i64 71] u fun r w' => r = .returned (.int .i64 (mixv (pwT ws) 71)) ∧ w' = u) := fun u => implMix_any _ _ u (by omega)
  have hbt : btM.size = 4 := rfl
  have HJ : Hid (∀ (u : World) (a b : ByteArray), a.size ≤ 100000 → b.size ≤ 100000 → Calls Try.prog 28 #[.slice (some ⟨u.heap.size, 0, none⟩) 2 2] (u.alloc (.cells #[.string a, .string b] 9)) fun r w' => r = .returned (.string (a ++ b)) ∧ Below u.heap.size u w') := fun u a b h1 h2 => join2B u a b (by omega)
  have HIS : Hid (∀ (u : World) (t : ByteArray), t.size ≤ 100000 → Calls Try.prog 30 #[.string t] u fun r w' => r = .returned (.string (insT t)) ∧ Below u.heap.size u w') := fun u t h1 => inSectors_any t h1 u
  generalize mixv (pwT ws) 71 = m at *
  have hs3 := hs2 m
  simp only [List.length_cons, List.length_nil] at hs3
  have HZ : Hid ((pwT ws).size ≤ 4000 ∧ (pwT [p, e, (ws.length : Int), m]).size = 16) := ⟨by omega, by omega⟩
  clear hs1 hs2 hs3 E
  generalize mbV ws p e = V at *
  generalize mbT ws p e = V2 at *
  generalize pwT ws = d at *
  go_enter Try.func8, Try.ntmps8
  go_wp2_with fail
  refine Calls.mono (HIN.out _) ?_
  rintro r u7 ⟨rfl, hw7⟩
  rw [hw7]
  clear hw7
  go_wp2_with fail
  refine Calls.mono (HIW.out _) ?_
  rintro r u8 ⟨rfl, hw8⟩
  rw [hw8]
  clear hw8
  go_wp2_with fail
  refine Calls.mono (HAW.out _ ⟨Below.refl _ _⟩) ?_
  rintro r u1 ⟨rfl, hb⟩
  have HB1 : Hid (Below w.heap.size w u1) := hb
  clear hb
  go_wp2_with fail
  refine Calls.mono (HPW.out _ ⟨HB1.out⟩) ?_
  rintro r u2 ⟨rfl, hb⟩
  have HB2 : Hid (Below w.heap.size w u2) := HB1.out.trans (hb.mono HB1.out.size)
  clear hb HB1
  go_wp2_with fail
  refine Calls.mono (HMX.out _) ?_
  rintro r u9 ⟨rfl, hw9⟩
  rw [hw9]
  clear hw9
  go_wp2_with fail
  refine Calls.mono (HP4.out u2 m) ?_
  rintro r u3 ⟨rfl, hb⟩
  have HB3 : Hid (Below w.heap.size w u3) := HB2.out.trans (hb.mono HB2.out.size)
  clear hb HB2
  go_wp2_with fail
  refine Calls.mono (HJ.out u3 btM (pwT [p, e, (ws.length : Int), m]) (by omega) (by have := HZ.out.2; omega)) ?_
  rintro r u4 ⟨rfl, hb⟩
  have HB4 : Hid (Below w.heap.size w u4) := HB3.out.trans (hb.mono HB3.out.size)
  have HH : Hid ((btM ++ pwT [p, e, (ws.length : Int), m]).size = 20) := (show _ = _ by rw [ba_sz, HZ.out.2]; rfl)
  clear hb HB3
  generalize btM ++ pwT [p, e, (ws.length : Int), m] = t at *
  go_wp2_with fail
  refine Calls.mono (HIS.out _ t (by have := HH.out; omega)) ?_
  rintro r u5 ⟨rfl, hb⟩
  have HB5 : Hid (Below w.heap.size w u5) := HB4.out.trans (hb.mono HB4.out.size)
  clear hb HB4
  go_wp2_with fail
  refine Calls.mono (HIS.out _ d (by have := HZ.out.1; omega)) ?_
  rintro r u6 ⟨rfl, hb⟩
  have HB6 : Hid (Below w.heap.size w u6) := HB5.out.trans (hb.mono HB5.out.size)
  clear hb HB5
  go_wp2_with fail
  refine Calls.mono (HJ.out u6 (insT t) (insT d) (by rw [insT_size]; unfold padN; have := HH.out; omega) (by rw [insT_size]; unfold padN; have := HZ.out.1; omega)) ?_
  rintro r u7 ⟨rfl, hb⟩
  have HB7 : Hid (Below w.heap.size w u7) := HB6.out.trans (hb.mono HB6.out.size)
  clear hb HB6
  go_wp2
  go_ret
  exact ⟨by rw [E2.out, E3.out]; rfl, HB7.out⟩
end Go.Proofs.Ytappocopgckhkaa
