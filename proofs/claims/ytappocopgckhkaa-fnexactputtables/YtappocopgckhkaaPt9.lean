import Derived.Test.YtappocopgckhkaaPt8
import Derived.Test.YtappocopgckhkaaPt5
namespace Go.Proofs.Ytappocopgckhkaa
open Go.ChangeShapes Go.WideShapes Go.ChangeAt Go.RowKit

theorem tx_sizeP (ts : List FT) : ∀ k, k ≤ ts.length → (∀ j (hj : j < ts.length), j < k → ftOk ts[j] = true) → (catB (txL ts k)).length = fsz ts k ∧ fsz ts k ≤ 208 * k
  | 0, _, _ => by simp [fsz, txL, catB]
  | k + 1, h, hok => by
    have ih := tx_sizeP ts k (by omega) (fun j hj hk => hok j hj (by omega))
    have hs := ftX_size (hok k (by omega) (by omega))
    have hb := ftOk_b (hok k (by omega) (by omega))
    rw [txL_succ ts k (by omega), catB_snoc, List.length_append, ih.1]
    simp only [fsz, List.getD, List.getElem?_eq_getElem (show k < ts.length by omega), Option.getD_some]
    have e : (ftX (ts[k]'(by omega))).data.toList.length = (ftX (ts[k]'(by omega))).size := rfl
    omega
theorem pwT_one' (n : Int) : pwT [n] = pw n := by
  rw [pwT_cons]
  apply ByteArray.ext
  apply Array.ext'
  simp [pwT, pwL, catB]
theorem all_of {ts : List FT} (h : ∀ j (hj : j < ts.length), ftOk ts[j] = true) : ts.all ftOk = true := by
  rw [List.all_eq_true]
  intro t ht
  obtain ⟨j, hj, e⟩ := List.getElem_of_mem ht
  rw [← e]
  exact h j hj
theorem ftX_ne {x : FT} (h : ftOk x = true) : ((ftX x).toList == ([] : List UInt8)) = false := by
  have hs := ftX_size h
  rw [ByteArray.toList_eq]
  cases e : (ftX x).data.toList with
  | nil =>
    have : (ftX x).size = 0 := by
      show (ftX x).data.size = 0
      rw [← Array.length_toList, e]
      rfl
    omega
  | cons a l => rfl
set_option maxRecDepth 100000 in
set_option maxHeartbeats 4000000 in
theorem specPT_any {w : World} {ao : Option Addr} {cap : Nat} {ts : List FT} (h : FTrow w (.slice ao ts.length cap) ts) (hz : ∀ t ∈ ts, t.body.size ≤ 1048576) (m : ByteArray) (p : Int) (hm : m.size ≤ 1048576) : Calls Try.prog 11 #[.string m, .int .i64 p, .slice ao ts.length cap] w fun e w' => e = .returned (.string (ptV m p ts)) ∧ Below w.heap.size w w' := by
  have HR : Hid (FTrow w (.slice ao ts.length cap) ts) := h
  have HZ : Hid (∀ t ∈ ts, t.body.size ≤ 1048576) := hz
  have HM : Hid (∀ u, Calls Try.prog 32 #[.string m] u fun e w' => e = .returned (.int .i64 (memC m)) ∧ w' = u) := fun u => specMemFault_any m u (by omega)
  have E : Hid (ptV m p ts = if (memOk m && decide (ts.length ≤ 10) && ts.all ftOk && (decide (p % 4 = 0) && inW m.size p ((fmT p ts).size : Int))) = true then ptT m p ts else ⟨#[]⟩) := rfl
  clear h hz
  cases q0 : memOk m
  · have e1 : memC m = 1 := by unfold memC; rw [q0]; rfl
    rw [e1] at HM
    have E2 : Hid (ptV m p ts = ⟨#[]⟩) := (show ptV m p ts = _ by rw [E.out]; exact if_neg (by rw [q0]; simp))
    generalize ptV m p ts = V at *
    clear E
    go_enter Try.func11, Try.ntmps11
    go_wp2_with (go_at_call 32; refine Calls.mono (HM.out _) ?_; rintro e u1 ⟨rfl, hw1⟩; rw [hw1]; clear hw1)
    go_ret
    exact ⟨by rw [E2.out]; rfl, Below.refl _ _⟩
  have e1 : memC m = 0 := by unfold memC; rw [q0]; rfl
  rw [e1] at HM
  cases q1 : decide (p < 0)
  rotate_left
  · have hq := of_decide_eq_true q1
    have E2 : Hid (ptV m p ts = ⟨#[]⟩) := (show ptV m p ts = _ by rw [E.out]; exact if_neg (by rw [show inW m.size p ((fmT p ts).size : Int) = false from inW_no.2 (by omega)]; simp))
    generalize ptV m p ts = V at *
    clear E
    go_enter Try.func11, Try.ntmps11
    go_wp2_with (go_at_call 32; refine Calls.mono (HM.out _) ?_; rintro e u1 ⟨rfl, hw1⟩; rw [hw1]; clear hw1)
    go_ret
    exact ⟨by rw [E2.out]; rfl, Below.refl _ _⟩
  have hp0 : 0 ≤ p := by have := of_decide_eq_false q1; omega
  have htm : p.tmod 4 = p % 4 := Int.tmod_eq_emod_of_nonneg hp0
  cases q2 : (p % 4 != 0)
  rotate_left
  · have hq : ¬ p % 4 = 0 := by simpa using q2
    have E2 : Hid (ptV m p ts = ⟨#[]⟩) := (show ptV m p ts = _ by rw [E.out]; exact if_neg (by rw [decide_eq_false hq]; simp))
    generalize ptV m p ts = V at *
    clear E
    go_enter Try.func11, Try.ntmps11
    go_wp2_with (go_at_call 32; refine Calls.mono (HM.out _) ?_; rintro e u1 ⟨rfl, hw1⟩; rw [hw1]; clear hw1)
    go_ret
    exact ⟨by rw [E2.out]; rfl, Below.refl _ _⟩
  have HP4 : Hid (p % 4 = 0) := (show p % 4 = 0 by simpa using q2)
  cases q3 : decide ((m.size : Int) < p)
  rotate_left
  · have hq := of_decide_eq_true q3
    have E2 : Hid (ptV m p ts = ⟨#[]⟩) := (show ptV m p ts = _ by rw [E.out]; exact if_neg (by rw [show inW m.size p ((fmT p ts).size : Int) = false from inW_no.2 (by omega)]; simp))
    generalize ptV m p ts = V at *
    clear E
    go_enter Try.func11, Try.ntmps11
    go_wp2_with (go_at_call 32; refine Calls.mono (HM.out _) ?_; rintro e u1 ⟨rfl, hw1⟩; rw [hw1]; clear hw1)
    go_ret
    exact ⟨by rw [E2.out]; rfl, Below.refl _ _⟩
  have hp1 : p ≤ (m.size : Int) := by have := of_decide_eq_false q3; omega
  cases q4 : decide (10 < (ts.length : Int))
  rotate_left
  · have hq := of_decide_eq_true q4
    have E2 : Hid (ptV m p ts = ⟨#[]⟩) := (show ptV m p ts = _ by rw [E.out]; exact if_neg (by simp; intros; omega))
    generalize ptV m p ts = V at *
    clear E
    go_enter Try.func11, Try.ntmps11
    go_wp2_with (go_at_call 32; refine Calls.mono (HM.out _) ?_; rintro e u1 ⟨rfl, hw1⟩; rw [hw1]; clear hw1)
    go_ret
    exact ⟨by rw [E2.out]; rfl, Below.refl _ _⟩
  have hl10 : ts.length ≤ 10 := by have := of_decide_eq_false q4; omega
  have HP : Hid (∀ n u, Calls Try.prog 33 #[.int .i64 n] u fun e w' => e = .returned (.string (pw n)) ∧ Below u.heap.size u w') := fun n u => specPutWord_any n u
  have hfm : (⟨#[70, 73, 82, 77]⟩ : ByteArray) ++ pw (ts.length : Int) = pwT (fmW p ts 0) := (by
    have e : (⟨#[70, 73, 82, 77]⟩ : ByteArray) = pw 1297238342 := by decide +kernel
    rw [e]
    show _ = pwT [1297238342, (ts.length : Int)]
    rw [pwT_cons, pwT_one'])
  have HFM : Hid ((⟨#[70, 73, 82, 77]⟩ : ByteArray) ++ pw (ts.length : Int) = pwT (fmW p ts 0)) := hfm
  have a0 := fun u => run_string_add_sum (P := Try.prog) u (⟨#[70, 73, 82, 77]⟩ : ByteArray) (pw (ts.length : Int)) (by rw [pw_sz]; show 4 + 4 ≤ _; omega)
  rw [hfm] at a0
  clear hfm
  go_enter Try.func11, Try.ntmps11
  go_wp2_with fail
  refine Calls.mono (HM.out _) ?_
  rintro e u1 ⟨rfl, hw1⟩
  rw [hw1]
  clear hw1
  go_wp2_with fail
  refine Calls.mono (HP.out _ _) ?_
  rintro e u2 ⟨rfl, hb⟩
  have HB2 : Hid (Below w.heap.size w u2) := hb
  clear hb
  go_upto_region 6 with fail
  have Q0 : Hid (memOk m = true) := q0
  clear a0 q0 q1 q2 q3 q4 htm HM e1
  go_loopw [7, 8, 9] (fun hd bd i wr => ∃ k : Nat, k ≤ ts.length ∧ hd = .string (pwT (fmW p ts k)) ∧ bd = .string ⟨(catB (txL ts k)).toArray⟩ ∧ i = .int .i64 k ∧ (∀ j (hj : j < ts.length), j < k → ftOk ts[j] = true) ∧ Below w.heap.size w wr) (fun _ _ i _ => ts.length - (intOf i).toNat)
  case atStart => exact ⟨0, Nat.zero_le _, rfl, rfl, rfl, fun j _ hj => absurd hj (Nat.not_lt_zero _), HB2.out⟩
  case round =>
    obtain ⟨k, hk, rfl, rfl, rfl, hok, hb⟩ := hrel
    have HB : Hid (Below w.heap.size w wr) := hb
    have HOK : Hid (∀ j (hj : j < ts.length), j < k → ftOk ts[j] = true) := hok
    have hts := tx_sizeP ts k hk hok
    have hhs : (pwT (fmW p ts k)).size = 4 * (k + 2) := by rw [pwT_sz, fmW_len]
    have hbs : (⟨(catB (txL ts k)).toArray⟩ : ByteArray).size = fsz ts k := by
      show (catB (txL ts k)).toArray.size = _
      rw [List.size_toArray, hts.1]
    clear hb hok HB2 HFM
    by_cases hlt : k < ts.length
    · obtain ⟨g, o, cap2, hv, _, hg, hc⟩ := HR.out.resolve_left (fun h => by rw [h.1] at hlt; simp at hlt)
      injection hv with hv1 hv2 hv3
      subst hv1 hv3
      obtain ⟨d0, d1, d2⟩ := hc.below HB.out hg k hlt
      have hgw : g < wr.heap.size := Nat.lt_of_lt_of_le hg HB.out.size
      have hk0 : (0 : Int) ≤ (k : Int) := by omega
      have hk1 : (k : Int) < (ts.length : Int) := by omega
      have HLT : Hid (∀ u, Calls Try.prog 34 #[.agg #[.string ts[k].name, .int .i64 ts[k].rev, .string ts[k].body]] u fun e w' => e = .returned (.string (if ftOk ts[k] = true then ftX ts[k] else ⟨#[]⟩)) ∧ Below u.heap.size u w') := fun u => l21Table_any _ (HZ.out _ (List.getElem_mem hlt)) u
      clear hc hv2
      cases hq : ftOk ts[k]
      · have E2 : Hid (ptV m p ts = ⟨#[]⟩) := (show ptV m p ts = _ by rw [E.out]; exact if_neg (by rw [show ts.all ftOk = false from List.all_eq_false.2 ⟨ts[k], List.getElem_mem hlt, by rw [hq]; decide⟩]; simp))
        simp only [hq, Bool.false_eq_true, if_false] at HLT
        have hnil : ((⟨#[]⟩ : ByteArray).toList == ([] : List UInt8)) = true := by rw [ByteArray.toList_eq]; rfl
        generalize ts[k] = z at *
        clear E HOK hts hhs hbs hq
        generalize (⟨(catB (txL ts k)).toArray⟩ : ByteArray) = bd at *
        generalize pwT (fmW p ts k) = hd at *
        go_wp2_with (go_at_call 34; refine Calls.mono (HLT.out _) ?_; rintro e u3 ⟨rfl, hb3⟩; have HB3 : Hid (Below w.heap.size w u3) := HB.out.trans (hb3.mono HB.out.size); clear hb3 d0 d1 d2 hgw)
        go_ret
        exact ⟨by rw [E2.out]; rfl, HB3.out⟩
      · simp only [hq, if_true] at HLT
        have hne := ftX_ne hq
        have hxs := ftX_size hq
        have hxb := ftOk_b hq
        have HO2 : Hid (∀ j (hj : j < ts.length), j < k + 1 → ftOk ts[j] = true) := (fun j hj hjk => by
          rcases Nat.lt_or_ge j k with h3 | h3
          · exact HOK.out j hj h3
          · obtain rfl : j = k := by omega
            exact hq)
        have hpl : plc p ts k = p + 12 + 4 * (ts.length : Int) + (fsz ts k : Int) := by unfold plc; omega
        have HPL : Hid (∀ n u, n = p + 12 + 4 * (ts.length : Int) + (fsz ts k : Int) → Calls Try.prog 33 #[.int .i64 n] u fun e w' => e = .returned (.string (pw (plc p ts k))) ∧ Below u.heap.size u w') := (fun n u hn => by rw [hn, ← hpl]; exact HP.out _ u)
        have a1 := fun u => run_string_add_sum (P := Try.prog) u (pwT (fmW p ts k)) (pw (plc p ts k)) (by rw [pw_sz]; omega)
        rw [← pwT_snoc, ← fmW_succ] at a1
        have a2 := fun u => run_string_add_sum (P := Try.prog) u (⟨(catB (txL ts k)).toArray⟩ : ByteArray) (ftX ts[k]) (by omega)
        rw [tx_add, ← catB_snoc, ← txL_succ ts k hlt] at a2
        generalize ftX ts[k] = X at *
        generalize ts[k] = z at *
        have hfz : (fsz ts k : Int) ≤ 2080 := by omega
        have hxs2 : X.size ≤ 300 := by omega
        clear E HOK hts hq hhs hpl hxs hxb
        generalize hb1 : (⟨(catB (txL ts k)).toArray⟩ : ByteArray) = bd at *
        generalize hb2 : (⟨(catB (txL ts (k + 1))).toArray⟩ : ByteArray) = bd2 at *
        have HB2' : Hid ((⟨(catB (txL ts (k + 1))).toArray⟩ : ByteArray) = bd2) := hb2
        generalize pwT (fmW p ts k) = hd at *
        generalize hh2 : pwT (fmW p ts (k + 1)) = hd2 at *
        have HH2 : Hid (pwT (fmW p ts (k + 1)) = hd2) := hh2
        generalize pw (plc p ts k) = pk at *
        have hbi : (bd.size : Int) = (fsz ts k : Int) := by omega
        clear hb1 hb2 hh2 hbs
        generalize fsz ts k = fz at *
        go_wp2_with fail
        refine Calls.mono (HLT.out _) ?_
        rintro e u3 ⟨rfl, hb⟩
        have HB3 : Hid (Below w.heap.size w u3) := HB.out.trans (hb.mono HB.out.size)
        clear hb HB d0 d1 d2 hgw
        go_wp2_with fail
        refine Calls.mono (HPL.out _ _ (by omega)) ?_
        rintro e u4 ⟨rfl, hb⟩
        have HB4 : Hid (Below w.heap.size w u4) := HB3.out.trans (hb.mono HB3.out.size)
        clear hb HB3
        go_wp2
        exact ⟨⟨k + 1, hlt, (by rw [HH2.out]), (by rw [HB2'.out]), (by go_num), HO2.out, HB4.out⟩, (by simp [intOf]; omega)⟩
    · have hke : k = ts.length := by omega
      subst hke
      have hnl : ¬ ((ts.length : Nat) : Int) < (ts.length : Int) := by omega
      have hall : ts.all ftOk = true := all_of (fun j hj => HOK.out j hj hj)
      have hok : ∀ t ∈ ts, ftOk t = true := fun t ht => List.all_eq_true.1 hall t ht
      have hhz := fmH_size p ts
      have hbz := fmB_size hok
      have htz : (fmT p ts).size = (fmH p ts).size + (fmB ts).size := by rw [fmT, ba_sz]
      have HWS : Hid (∀ u, Calls Try.prog 35 #[.string (pwT (fmW p ts ts.length))] u fun e w' => e = .returned (.int .i64 (wsum (fmW p ts ts.length) (ts.length + 2))) ∧ Below u.heap.size u w') := (fun u => by have h9 := l21Words_any (fmW p ts ts.length) (by rw [fmW_len]; omega) u; rw [fmW_len] at h9; exact h9)
      have hws := wsum_b (fmW p ts ts.length) (ts.length + 2)
      have HPN : Hid (∀ u, Calls Try.prog 33 #[.int .i64 (-(wsum (fmW p ts ts.length) (ts.length + 2)))] u fun e w' => e = .returned (.string (pw (-(psum (fmW p ts ts.length) (ts.length + 2))))) ∧ Below u.heap.size u w') := (fun u => by rw [← pw_cong (show (-(wsum (fmW p ts ts.length) (ts.length + 2))) % 4294967296 = (-(psum (fmW p ts ts.length) (ts.length + 2))) % 4294967296 by have := wsum_ps (fmW p ts ts.length) (ts.length + 2); omega)]; exact HP.out _ u)
      have a1 : ∀ u, _ = Result.ok (Value.string (fmH p ts)) u := fun u => run_string_add_sum (P := Try.prog) u (pwT (fmW p ts ts.length)) (pw (-(psum (fmW p ts ts.length) (ts.length + 2)))) (by rw [pw_sz]; omega)
      have EF : Hid ((⟨(catB (txL ts ts.length)).toArray⟩ : ByteArray) = fmB ts) := rfl
      have HIN : Hid (∀ z u, z = ((fmT p ts).size : Int) → Calls Try.prog 36 #[.string m, .int .i64 p, .int .i64 z] u fun e w' => e = .returned (.bool (inW m.size p ((fmT p ts).size : Int))) ∧ w' = u) := (fun z u hz => by rw [hz]; exact l10In_any m p _ u hm)
      have E3 : Hid (ptV m p ts = if inW m.size p ((fmT p ts).size : Int) = true then ptT m p ts else ⟨#[]⟩) := (show _ = _ by rw [E.out, Q0.out, hall, decide_eq_true hl10, decide_eq_true HP4.out]; simp)
      have ET : Hid (ptT m p ts = m.extract 0 p.toNat ++ fmH p ts ++ fmB ts ++ m.extract (p.toNat + (fmT p ts).size) m.size) := (show _ = _ by unfold ptT fmT; rw [← ByteArray.append_assoc])
      have hs3 : (fmH p ts).size ≤ 100 := by omega
      have hs4 : (fmB ts).size ≤ 3000 := by have := fsz_b hok ts.length (Nat.le_refl _); omega
      rw [EF.out]
      have hws2 : wsum (fmW p ts ts.length) (ts.length + 2) ≤ 60000000000 := by omega
      obtain ⟨hws0, _⟩ := hws
      clear EF HOK hts hhs hbs hk hlt hall hok hhz hbz HZ HR HP E
      generalize pw (-(psum (fmW p ts ts.length) (ts.length + 2))) = pn at *
      generalize wsum (fmW p ts ts.length) (ts.length + 2) = ws at *
      generalize pwT (fmW p ts ts.length) = hd at *
      generalize fmH p ts = H at *
      generalize fmB ts = Bd at *
      generalize (fmT p ts).size = zz at *
      have w9 : IntKind.i64.wrap (-ws) = -ws := by rw [IntKind.wrap_i64]; omega
      cases q : inW m.size p (zz : Int)
      · rw [q] at HIN
        have E4 : Hid (ptV m p ts = ⟨#[]⟩) := (show _ = _ by rw [E3.out, q]; rfl)
        clear E3 ET
        have HTZ : Hid (zz = H.size + Bd.size) := htz
        clear htz
        go_wp2_with fail
        refine Calls.mono (HWS.out _) ?_
        rintro e u3 ⟨rfl, hb⟩
        have HB3 : Hid (Below w.heap.size w u3) := HB.out.trans (hb.mono HB.out.size)
        clear hb HB
        go_wp2_with fail
        refine Calls.mono (HPN.out _) ?_
        rintro e u4 ⟨rfl, hb⟩
        have HB4 : Hid (Below w.heap.size w u4) := HB3.out.trans (hb.mono HB3.out.size)
        clear hb HB3
        go_wp2_with fail
        refine Calls.mono (HIN.out _ _ (by have := HTZ.out; omega)) ?_
        rintro e u5 ⟨rfl, hw5⟩
        rw [hw5]
        clear hw5
        go_wp2
        go_ret
        exact ⟨by rw [E4.out]; rfl, HB4.out⟩
      · rw [q] at HIN
        have hin := inW_iff.1 q
        obtain ⟨kp, hkp⟩ : ∃ kp : Nat, p = (kp : Int) := ⟨p.toNat, by omega⟩
        have hkn : p.toNat = kp := by omega
        have E4 : Hid (ptV m p ts = m.extract 0 kp ++ H ++ Bd ++ m.extract (kp + zz) m.size) := (show _ = _ by rw [E3.out, q, if_pos rfl, ET.out, hkn])
        have s1 : ∀ u, Sem.run Try.prog (Instr.slice 9 (.string m) none (some (.int .i64 p)) none) u = .ok (.string (m.extract 0 kp)) u := (fun u => by rw [hkp]; exact slT m kp (by omega) u)
        have s2 : ∀ u, Sem.run Try.prog (Instr.slice 9 (.string m) (some (.int .i64 (p + ((H.size : Int) + (Bd.size : Int))))) none none) u = .ok (.string (m.extract (kp + zz) m.size)) u := (fun u => by have h9 := slF m (kp + zz) (by omega) u; rw [show ((kp + zz : Nat) : Int) = p + ((H.size : Int) + (Bd.size : Int)) by omega] at h9; exact h9)
        have z1 : (m.extract 0 kp).size ≤ m.size := by rw [ByteArray.size_extract]; omega
        have z2 : (m.extract (kp + zz) m.size).size ≤ m.size := by rw [ByteArray.size_extract]; omega
        have b1 := fun u => run_string_add_sum (P := Try.prog) u (m.extract 0 kp) H (by omega)
        have y1 : (m.extract 0 kp ++ H).size ≤ 1100000 := by rw [ba_sz]; omega
        have b2 := fun u => run_string_add_sum (P := Try.prog) u (m.extract 0 kp ++ H) Bd (by omega)
        have y2 : (m.extract 0 kp ++ H ++ Bd).size ≤ 1200000 := by rw [ba_sz]; omega
        have b3 := fun u => run_string_add_sum (P := Try.prog) u (m.extract 0 kp ++ H ++ Bd) (m.extract (kp + zz) m.size) (by omega)
        have hpb : p ≤ 1048576 := by omega
        clear E3 ET z1 z2 y1 y2 hkp hkn hin
        have HTZ : Hid (zz = H.size + Bd.size) := htz
        clear htz
        go_wp2_with fail
        refine Calls.mono (HWS.out _) ?_
        rintro e u3 ⟨rfl, hb⟩
        have HB3 : Hid (Below w.heap.size w u3) := HB.out.trans (hb.mono HB.out.size)
        clear hb HB
        go_wp2_with fail
        refine Calls.mono (HPN.out _) ?_
        rintro e u4 ⟨rfl, hb⟩
        have HB4 : Hid (Below w.heap.size w u4) := HB3.out.trans (hb.mono HB3.out.size)
        clear hb HB3
        go_wp2_with fail
        refine Calls.mono (HIN.out _ _ (by have := HTZ.out; omega)) ?_
        rintro e u5 ⟨rfl, hw5⟩
        rw [hw5]
        clear hw5
        go_upto_region 16 with fail
        go_quiet (fail)
        go_wp2
        go_ret
        exact ⟨by rw [E4.out]; rfl, bdn HB4.out nq⟩
end Go.Proofs.Ytappocopgckhkaa
