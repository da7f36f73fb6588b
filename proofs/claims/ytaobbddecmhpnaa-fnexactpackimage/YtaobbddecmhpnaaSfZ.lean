import Derived.Test.YtaobbddecmhpnaaUs1
import Derived.Deep.QuietTactic
namespace Go.Proofs.Ytaobbddecmhpnaa
open Go.ChangeShapes Go.WideShapes Go.ChangeAt Go.RowKit

set_option maxRecDepth 100000
structure IR (m : IM) : Prop where
  n : nmB m.n = true
  b : bkB m.b = true
  t1 : 1 ≤ m.t.length
  t2 : m.t.length ≤ 64
  d : m.d.length ≤ 128
  s : m.s.length ≤ 8
  tb : ∀ j, j < m.s.length + 1 → tblB m.d.length m.t.length (tlV m j) = true
  nm : ∀ k, k < m.s.length → nmB (nmO m k) = true ∧ okB m k = true
  dz : ∀ k (hk : k < m.d.length), m.d[k].size = 16
  us : ∀ k, k < m.d.length → 0 < (allE m).count (k : Int)
theorem imB_iff (m : IM) : imB m = true ↔ IR m := by
  unfold imB bdB naB daB tsB usB
  simp only [Bool.and_eq_true, decide_eq_true_eq]
  constructor
  · rintro ⟨⟨⟨⟨⟨h1, h2, h3, h4⟩, ⟨h5, h6⟩, h7⟩, h8⟩, h9⟩, h10⟩
    exact ⟨h5, h6, h1, h2, h3, h4, h9, h7, h8, h10⟩
  · intro h
    exact ⟨⟨⟨⟨⟨h.t1, h.t2, h.d, h.s⟩, ⟨h.n, h.b⟩, h.nm⟩, h.dz⟩, h.tb⟩, h.us⟩
theorem imB_no {m : IM} (h : ¬ IR m) : imB m = false := Bool.eq_false_iff.2 (fun h2 => h ((imB_iff m).1 h2))
theorem upE_len {m : IM} (h : ∀ j, j < m.s.length + 1 → tblB m.d.length m.t.length (tlV m j) = true) (ht : m.t.length ≤ 64) (hs : m.s.length ≤ 8) : ∀ k, k ≤ m.s.length → (upE m k).length ≤ 1048576 := by
  have h2 : ∀ k, k ≤ m.s.length → (upE m k).length ≤ (k + 1) * 64 := by
    intro k
    induction k with
    | zero => intro _; rw [upE_zero]; omega
    | succ k ih =>
      intro hk
      have h3 := (of_decide_eq_true (h (k + 1) (by omega))).1
      have h4 := ih (by omega)
      rw [upE_succ, List.length_append, h3]
      omega
  intro k hk
  have := h2 k hk
  have h5 : (k + 1) * 64 ≤ 9 * 64 := Nat.mul_le_mul (by omega) (Nat.le_refl _)
  omega
/-- The head of the specification's test. -/
structure HD (m : IM) : Prop where
  n : nmB m.n = true
  b : bkB m.b = true
  t1 : 1 ≤ m.t.length
  t2 : m.t.length ≤ 64
  d : m.d.length ≤ 128
  s : m.s.length ≤ 8
  tb : tblB m.d.length m.t.length m.t = true
set_option maxHeartbeats 4000000 in
theorem specImage_head {w : World} {m : IM} {a : IA} (h : IRows w m a) (hl : ILen m) (hno : ¬ HD m) : Calls Try.prog 12 #[imA m a] w fun e w' => e = .returned (.int .i64 1) ∧ Below w.heap.size w w' := by
  obtain ⟨al, kl, el⟩ := h.t.sl
  obtain ⟨am, km, em⟩ := h.d.sl
  obtain ⟨ac, kc, ec⟩ := h.sn.sl
  rw [h.si.len] at ec
  obtain ⟨vc, vp, vg, qs⟩ := a
  simp only at el ec em
  subst el ec em
  have HB : Hid (Below w.heap.size w (w.alloc (.cells #[.string m.n, .string m.b, .slice al m.t.length kl, .slice am m.d.length km, .slice ac m.s.length kc] 31))) := (Below.refl _ _).alloc (Nat.le_refl _) _
  have hbx := heap_new w (.cells #[.string m.n, .string m.b, .slice al m.t.length kl, .slice am m.d.length km, .slice ac m.s.length kc] 31)
  obtain ⟨c0, c1, c2, c3, c4, _⟩ := cel5 hbx
  have HN1 : Hid _ := fun u => l13Name_any m.n u
  have HN2 : Hid _ := fun u => l13Name_any m.b u
  have HT : Hid _ := l13Table_any (h.t.below HB.out) hl.t m.t.length m.d.length
  unfold imA
  simp only
  have hlt := hl.t
  clear h hl hbx
  cases g1 : nmB m.n with
  | false =>
    rw [g1] at HN1
    go_enter Try.func12, Try.ntmps12
    go_wp2_with (go_at_call 30; refine Calls.mono (HN1.out _) ?_; rintro e u1 ⟨rfl, hu⟩; rw [hu]; clear hu)
    go_ret
    exact ⟨rfl, HB.out⟩
  | true =>
  rw [g1] at HN1
  by_cases hb0 : m.b.size = 0
  · have hbe : m.b = ⟨#[]⟩ := ext_ba (List.length_eq_zero_iff.1 (by simpa using hb0))
    have g2 : bkB m.b = true := by unfold bkB; rw [decide_eq_true hb0]; rfl
    have HNO : Hid (¬ (1 ≤ m.t.length ∧ m.t.length ≤ 64 ∧ m.d.length ≤ 128 ∧ m.s.length ≤ 8 ∧ tblB m.d.length m.t.length m.t = true)) := fun ⟨a1, a2, a3, a4, a5⟩ => hno ⟨g1, g2, a1, a2, a3, a4, a5⟩
    rw [hbe] at c1 HB HT ⊢
    clear hno hb0 hbe g2 HN2
    generalize tblB m.d.length m.t.length m.t = tb at *
    generalize m.t.length = nt at *
    generalize m.d.length = nd at *
    generalize m.s.length = ns at *
    go_enter Try.func12, Try.ntmps12
    go_wp2_with fail
    refine Calls.mono (HN1.out _) ?_
    rintro e u1 ⟨rfl, hu⟩
    rw [hu]
    clear hu
    by_cases t1 : (nt : Int) < 1
    · go_wp2
      go_ret
      exact ⟨rfl, HB.out⟩
    by_cases t2 : (64 : Int) < (nt : Int)
    · go_wp2
      go_ret
      exact ⟨rfl, HB.out⟩
    by_cases t3 : (128 : Int) < (nd : Int)
    · go_wp2
      go_ret
      exact ⟨rfl, HB.out⟩
    by_cases t4 : (8 : Int) < (ns : Int)
    · go_wp2
      go_ret
      exact ⟨rfl, HB.out⟩
    obtain rfl : tb = false := by
      cases tb
      · rfl
      · exact absurd ⟨by omega, by omega, by omega, by omega, rfl⟩ HNO.out
    clear HNO
    go_wp2_with (go_at_call 31; refine Calls.mono HT.out ?_; rintro e u1 ⟨rfl, hu⟩; rw [hu]; clear hu)
    go_ret
    exact ⟨rfl, HB.out⟩
  · have hie : m.b.toList.isEmpty = false := by
      rw [ByteArray.toList_eq]
      cases hh : m.b.data.toList with
      | nil => exact absurd (show m.b.size = 0 by rw [show m.b = ⟨#[]⟩ from ext_ba hh]; rfl) hb0
      | cons => rfl
    have hne : ¬ m.b.toList = [] := fun h => by rw [h] at hie; cases hie
    cases g2 : nmB m.b with
    | false =>
      rw [g2] at HN2
      clear hb0 hno
      go_enter Try.func12, Try.ntmps12
      go_wp2_with fail
      refine Calls.mono (HN1.out _) ?_
      rintro e u1 ⟨rfl, hu⟩
      rw [hu]
      clear hu
      go_wp2_with fail
      refine Calls.mono (HN2.out _) ?_
      rintro e u1 ⟨rfl, hu⟩
      rw [hu]
      clear hu
      go_wp2
      go_ret
      exact ⟨rfl, HB.out⟩
    | true =>
      rw [g2] at HN2
      have g3 : bkB m.b = true := by unfold bkB; rw [g2, Bool.or_true]
      have HNO : Hid (¬ (1 ≤ m.t.length ∧ m.t.length ≤ 64 ∧ m.d.length ≤ 128 ∧ m.s.length ≤ 8 ∧ tblB m.d.length m.t.length m.t = true)) := fun ⟨a1, a2, a3, a4, a5⟩ => hno ⟨g1, g3, a1, a2, a3, a4, a5⟩
      clear hno hb0 g2 g3
      generalize tblB m.d.length m.t.length m.t = tb at *
      generalize m.t.length = nt at *
      generalize m.d.length = nd at *
      generalize m.s.length = ns at *
      go_enter Try.func12, Try.ntmps12
      go_wp2_with fail
      refine Calls.mono (HN1.out _) ?_
      rintro e u1 ⟨rfl, hu⟩
      rw [hu]
      clear hu
      go_wp2_with fail
      refine Calls.mono (HN2.out _) ?_
      rintro e u1 ⟨rfl, hu⟩
      rw [hu]
      clear hu
      by_cases t1 : (nt : Int) < 1
      · go_wp2
        go_ret
        exact ⟨rfl, HB.out⟩
      by_cases t2 : (64 : Int) < (nt : Int)
      · go_wp2
        go_ret
        exact ⟨rfl, HB.out⟩
      by_cases t3 : (128 : Int) < (nd : Int)
      · go_wp2
        go_ret
        exact ⟨rfl, HB.out⟩
      by_cases t4 : (8 : Int) < (ns : Int)
      · go_wp2
        go_ret
        exact ⟨rfl, HB.out⟩
      obtain rfl : tb = false := by
        cases tb
        · rfl
        · exact absurd ⟨by omega, by omega, by omega, by omega, rfl⟩ HNO.out
      clear HNO
      go_wp2_with (go_at_call 31; refine Calls.mono HT.out ?_; rintro e u1 ⟨rfl, hu⟩; rw [hu]; clear hu)
      go_ret
      exact ⟨rfl, HB.out⟩

set_option maxRecDepth 100000
structure S2 (m : IM) (k : Nat) : Prop where
  n : nmB (nmO m k) = true
  t : tblB m.d.length m.t.length (tlV m (k + 1)) = true
  o : okB m k = true
set_option maxHeartbeats 4000000 in
theorem specImage_tail0 {w : World} {m : IM} {a : IA} (h : IRows w m a) (hl : ILen m) (hd : HD m) (hb0 : m.b.size = 0) : Calls Try.prog 12 #[imA m a] w fun e w' => e = .returned (.int .i64 (if imB m then 0 else 1)) ∧ Below w.heap.size w w' := by
  obtain ⟨al, kl, el⟩ := h.t.sl
  obtain ⟨am, km, em⟩ := h.d.sl
  obtain ⟨ac, kc, ec⟩ := h.sn.sl
  rw [h.si.len] at ec
  obtain ⟨vc, vp, vg, qs⟩ := a
  simp only at el ec em
  subst el ec em
  have HBV : Hid (Below w.heap.size w (w.alloc (.cells #[.string m.n, .string m.b, .slice al m.t.length kl, .slice am m.d.length km, .slice ac m.s.length kc] 31))) := (Below.refl _ _).alloc (Nat.le_refl _) _
  have hbx := heap_new w (.cells #[.string m.n, .string m.b, .slice al m.t.length kl, .slice am m.d.length km, .slice ac m.s.length kc] 31)
  obtain ⟨c0, c1, c2, c3, c4, _⟩ := cel5 hbx
  have HPV : Hid (PB (w.alloc (.cells #[.string m.n, .string m.b, .slice al m.t.length kl, .slice am m.d.length km, .slice ac m.s.length kc] 31)) w.heap.size m ⟨.slice al m.t.length kl, .slice am m.d.length km, .slice ac m.s.length kc, qs⟩) := ⟨by simp, c0, c1, c2, c3, c4, h.below HBV.out⟩
  have HQL : Hid (qs.length = m.s.length) := h.si.len
  have HSN : Hid (SNrow (w.alloc (.cells #[.string m.n, .string m.b, .slice al m.t.length kl, .slice am m.d.length km, .slice ac m.s.length kc] 31)) (.slice ac m.s.length kc) qs) := h.sn.below HBV.out
  have HSI : Hid (SNin (w.alloc (.cells #[.string m.n, .string m.b, .slice al m.t.length kl, .slice am m.d.length km, .slice ac m.s.length kc] 31)) qs m.s) := h.si.below HBV.out
  have HLE : Hid (∀ k (hk : k < m.s.length), m.s[k].t.length ≤ 1048576) := hl.e
  have HN1 : Hid _ := fun u => l13Name_any m.n u
  have HN2 : Hid _ := fun u => l13Name_any m.b u
  have HT : Hid _ := l13Table_any (h.t.below HBV.out) hl.t m.t.length m.d.length
  rw [hd.n] at HN1
  rw [hd.tb] at HT
  have HH : Hid (HD m) := hd
  have HL : Hid (ILen m) := hl
  have HX0 : Hid (∀ k, k < m.s.length → (nmB (nmO m k) = false ∨ tblB m.d.length m.t.length (tlV m (k + 1)) = false ∨ okB m k = false) → imB m = false) := fun k hk h => imB_no (fun hr => by
    rcases h with h | h | h
    · rw [(hr.nm k hk).1] at h; cases h
    · rw [hr.tb (k + 1) (by omega)] at h; cases h
    · rw [(hr.nm k hk).2] at h; cases h)
  have t1 : decide ((m.t.length : Int) < 1) = false := decide_eq_false (by have := hd.t1; omega)
  have t2 : decide ((64 : Int) < (m.t.length : Int)) = false := decide_eq_false (by have := hd.t2; omega)
  have t3 : decide ((128 : Int) < (m.d.length : Int)) = false := decide_eq_false (by have := hd.d; omega)
  have t4 : decide ((8 : Int) < (m.s.length : Int)) = false := decide_eq_false (by have := hd.s; omega)
  unfold imA
  simp only
  clear h hl hbx hd
  have hbe : m.b = ⟨#[]⟩ := ext_ba (List.length_eq_zero_iff.1 (by simpa using hb0))
  clear hb0
  have HBE : Hid (m.b = ⟨#[]⟩) := hbe
  clear hbe
  go_enter Try.func12, Try.ntmps12
  go_wp2_with fail
  have hlV : w.heap.size < (w.alloc (.cells #[.string m.n, .string m.b, .slice al m.t.length kl, .slice am m.d.length km, .slice ac m.s.length kc] 31)).heap.size := by simp
  generalize (w.alloc (.cells #[.string m.n, .string m.b, .slice al m.t.length kl, .slice am m.d.length km, .slice ac m.s.length kc] 31)) = V at *
  rw [HBE.out] at c1
  refine Calls.mono (HN1.out _) ?_
  rintro e u1 ⟨rfl, hu⟩
  rw [hu]
  clear hu
  go_wp2_with (go_at_call 31; refine Calls.mono HT.out ?_; rintro e u1 ⟨rfl, hu⟩; rw [hu]; clear hu)
  go_loopw [4] (fun i wr => ∃ k : Nat, k ≤ m.s.length ∧ i = .int .i64 k ∧ (∀ j, j < k → S2 m j) ∧ Below V.heap.size V wr) (fun i _ => m.s.length - (intOf i).toNat)
  case atStart => exact ⟨0, Nat.zero_le _, rfl, fun j hj => absurd hj (Nat.not_lt_zero _), Below.refl _ _⟩
  case round =>
    obtain ⟨k, hk, rfl, hal, hb⟩ := hrel
    have HA : Hid (∀ j, j < k → S2 m j) := hal
    have HB1 : Hid (Below V.heap.size V wr) := hb
    have hP := HPV.out.below hb
    clear hal hb c0 c1 c2 c3 c4
    have c2 := hP.c2
    have c3 := hP.c3
    have c4 := hP.c4
    simp only at c2 c3 c4
    by_cases hlt2 : k < m.s.length
    · have hkq : k < qs.length := by rw [HQL.out]; exact hlt2
      obtain ⟨g, o, cap2, hv, _, hg, hc⟩ := HSN.out.resolve_left (fun h => by rw [h.1] at hkq; simp at hkq)
      injection hv with hv1 hv2 hv3
      subst hv1 hv3
      clear hv2
      obtain ⟨d0, d1⟩ := hc.below HB1.out hg k hkq
      obtain ⟨q0, q2⟩ := HSI.out.el k hkq hlt2
      obtain ⟨az, kz, hzt⟩ := q2.sl
      rw [q0, ← nmO_at m k hlt2] at d0
      have htl : tlV m (k + 1) = m.s[k].t := by simp [tlV, List.getD_eq_getElem?_getD, List.getElem?_eq_getElem hlt2]
      have hln := HLE.out k hlt2
      have HT3 : Hid (∀ u, Below V.heap.size V u → Calls Try.prog 31 #[.slice az m.s[k].t.length kz, .int .i64 m.t.length, .int .i64 m.d.length] u fun e w' => e = .returned (.bool (tblB m.d.length m.t.length (tlV m (k + 1)))) ∧ w' = u) := fun u hu => by
        rw [htl]
        exact l13Table_any (by rw [← hzt]; exact q2.below hu) hln _ _
      have HN3 : Hid _ := fun u => l13Name_any (nmO m k) u
      rw [hzt] at d1
      clear hzt q0 q2 htl
      generalize m.s[k].t.length = nz at *
      have hk0 : (0 : Int) ≤ (k : Int) := by omega
      have hk1 : (k : Int) < (m.s.length : Int) := by omega
      have hk9 : (k : Int) ≤ 8 := by have := HH.out.s; omega
      have HNO : Hid ((nmB (nmO m k) = false ∨ tblB m.d.length m.t.length (tlV m (k + 1)) = false ∨ okB m k = false) → imB m = false) := fun h => HX0.out k hlt2 h
      cases hn : nmB (nmO m k)
      · have hno := HNO.out (.inl hn)
        rw [hn] at HN3
        clear hc hP
        go_wp2_with fail
        go_quiet ((go_at_call 30; exact Calls.quiet_of_same (HN3.out _)))
        all_goals go_wp2
        all_goals go_ret
        all_goals exact ⟨ret_int (by first | rfl | simp [hno]), bdn (HBV.out.trans (HB1.out.mono HBV.out.size)) _⟩
      rw [hn] at HN3
      cases ht : tblB m.d.length m.t.length (tlV m (k + 1))
      · have hno := HNO.out (.inr (.inl ht))
        rw [ht] at HT3
        clear hc hP
        go_wp2_with fail
        go_quiet (first | (go_at_call 30; exact Calls.quiet_of_same (HN3.out _)) | (go_at_call 31; exact Calls.quiet_of_same (HT3.out _ (bdn HB1.out _))))
        all_goals go_wp2
        all_goals go_ret
        all_goals exact ⟨ret_int (by first | rfl | simp [hno]), bdn (HBV.out.trans (HB1.out.mono HBV.out.size)) _⟩
      rw [ht] at HT3
      have HSAT : Hid (SNat V g o qs) := hc
      have HGV : Hid (g < V.heap.size) := hg
      clear hc
      go_wp2_with fail
      go_quiet (first | (go_at_call 30; exact Calls.quiet_of_same (HN3.out _)) | (go_at_call 31; exact Calls.quiet_of_same (HT3.out _ (bdn HB1.out _))))
      clear c2 c3 hP
      go_wp2
      have HA1 : Hid (∀ j, j < k → ((nmO m j).toList == (nmO m k).toList) = false → True) := fun _ _ _ => trivial
      go_loopw [5] (fun i wr => ∃ j : Nat, j ≤ k ∧ i = .int .i64 j ∧ (∀ i, i < j → ((nmO m i).toList == (nmO m k).toList) = false) ∧ Below V.heap.size V wr) (fun i _ => k - (intOf i).toNat)
      case atStart => exact ⟨0, Nat.zero_le _, rfl, fun j hj => absurd hj (Nat.not_lt_zero _), bdn HB1.out _⟩
      case round =>
        obtain ⟨j, hj, rfl, hal, hb⟩ := hrel
        have HAJ : Hid (∀ i, i < j → ((nmO m i).toList == (nmO m k).toList) = false) := hal
        have HB2 : Hid (Below V.heap.size V wr) := hb
        have c4 := (HPV.out.below hb).c4
        simp only at c4
        obtain ⟨d0, d1⟩ := HSAT.out.below hb HGV.out k hkq
        obtain ⟨q0, _⟩ := HSI.out.el k hkq hlt2
        rw [q0, ← nmO_at m k hlt2] at d0
        clear hal q0 d1
        by_cases hlt3 : j < k
        · have hjq : j < qs.length := by omega
          have hjs : j < m.s.length := by omega
          obtain ⟨e0, _⟩ := HSAT.out.below hb HGV.out j hjq
          obtain ⟨q0, _⟩ := HSI.out.el j hjq hjs
          rw [q0, ← nmO_at m j hjs] at e0
          clear q0 hb
          have hj0 : (0 : Int) ≤ (j : Int) := by omega
          have hj1 : (j : Int) < (k : Int) := by omega
          have hj2 : (j : Int) < (m.s.length : Int) := by omega
          cases hq : ((nmO m j).toList == (nmO m k).toList)
          · have HAJ2 : Hid (∀ i, i < j + 1 → ((nmO m i).toList == (nmO m k).toList) = false) := fun i hi => by
              rcases Nat.lt_succ_iff_lt_or_eq.1 hi with h3 | h3
              · exact HAJ.out i h3
              · rw [h3]; exact hq
            go_wp2_with fail
            go_quiet (fail)
            all_goals go_wp2
            all_goals exact ⟨⟨j + 1, hlt3, by simp, HAJ2.out, bdn HB2.out _⟩, by simp [intOf]; omega⟩
          · have hno := HNO.out (.inr (.inr (decide_eq_false (fun h => by rw [h j hlt3] at hq; cases hq))))
            go_wp2_with fail
            go_quiet (fail)
            all_goals go_wp2
            all_goals go_ret
            all_goals exact ⟨ret_int (by first | rfl | simp [hno]), bdn (HBV.out.trans (HB2.out.mono HBV.out.size)) _⟩
        · obtain rfl : j = k := by omega
          have HS2 : Hid (S2 m j) := ⟨hn, ht, decide_eq_true HAJ.out⟩
          have HA2 : Hid (∀ i, i < j + 1 → S2 m i) := fun i hi => by
            rcases Nat.lt_succ_iff_lt_or_eq.1 hi with h3 | h3
            · exact HA.out i h3
            · rw [h3]; exact HS2.out
          go_wp2
          exact ⟨⟨j + 1, hlt2, by simp, HA2.out, HB2.out⟩, by simp [intOf]; omega⟩
    · obtain rfl : k = m.s.length := by omega
      clear hP
      go_wp2
      go_loopw [6] (fun i wr => ∃ j : Nat, j ≤ m.d.length ∧ i = .int .i64 j ∧ (∀ i (hi : i < m.d.length), i < j → m.d[i].size = 16 ∧ 0 < (allE m).count (i : Int)) ∧ Below V.heap.size V wr) (fun i _ => m.d.length - (intOf i).toNat)
      case atStart => exact ⟨0, Nat.zero_le _, rfl, fun j _ hj => absurd hj (Nat.not_lt_zero _), HB1.out⟩
      case round =>
        obtain ⟨j, hj, rfl, hal, hb⟩ := hrel
        have HAJ : Hid (∀ i (hi : i < m.d.length), i < j → m.d[i].size = 16 ∧ 0 < (allE m).count (i : Int)) := hal
        have HB2 : Hid (Below V.heap.size V wr) := hb
        have hP := HPV.out.below hb
        have c0 := hP.c0
        have c1 := hP.c1
        have c2 := hP.c2
        have c3 := hP.c3
        have c4 := hP.c4
        simp only at c0 c1 c2 c3 c4
        have HROW : Hid (IRows wr m ⟨.slice al m.t.length kl, .slice am m.d.length km, .slice ac m.s.length kc, qs⟩) := hP.row
        clear hal hP
        by_cases hlt3 : j < m.d.length
        · obtain ⟨g, o, cap2, hv, _, hg, hc⟩ := HROW.out.d.resolve_left (fun h => by rw [h.1] at hlt3; simp at hlt3)
          injection hv with hv1 hv2 hv3
          subst hv1 hv3
          clear hv2
          have d0 := hc j hlt3
          have hj0 : (0 : Int) ≤ (j : Int) := by omega
          have hj1 : (j : Int) < (m.d.length : Int) := by omega
          have hj9 : (j : Int) ≤ 128 := by have := HH.out.d; omega
          have HNO : Hid (¬ (m.d[j].size = 16 ∧ 0 < (allE m).count (j : Int)) → imB m = false) := fun h => imB_no (fun hr => h ⟨hr.dz j hlt3, hr.us j hlt3⟩)
          have HYS : Hid (m.d[j].size = 16 ∧ 0 < (allE m).count (j : Int) → ∀ i (hi : i < m.d.length), i < j + 1 → m.d[i].size = 16 ∧ 0 < (allE m).count (i : Int)) := fun h i hi2 hi => by
            rcases Nat.lt_succ_iff_lt_or_eq.1 hi with h3 | h3
            · exact HAJ.out i hi2 h3
            · subst h3; exact h
          have hTS : ∀ i, i < m.s.length + 1 → tblB m.d.length m.t.length (tlV m i) = true := fun i hi => by
            cases i with
            | zero => exact HH.out.tb
            | succ i => exact (HA.out i (by omega)).t
          have HUS : Hid _ := l13Uses_any HROW.out HL.out (upE_len hTS HH.out.t2 HH.out.s) (j : Int)
          unfold imA at HUS
          simp only at HUS
          generalize m.d[j] = z at *
          generalize (allE m).count (j : Int) = c at *
          clear hc hTS
          by_cases hz : z.size = 16
          · have hzi : ((z.size : Int) == 16) = true := by simp; omega
            by_cases hcz : c = 0
            · have hno := HNO.out (fun h => by omega)
              subst hcz
              go_wp2_with (go_at_call 32; refine Calls.mono HUS.out ?_; rintro e u1 ⟨rfl, hu⟩; have HU : Hid _ := hu; clear hu)
              all_goals go_ret
              all_goals exact ⟨ret_int (by first | rfl | simp [hno]), (HBV.out.trans (HB2.out.mono HBV.out.size)).trans (HU.out.mono (Nat.le_trans HBV.out.size HB2.out.size))⟩
            · have HY2 : Hid _ := HYS.out ⟨hz, by omega⟩
              have hci : ((c : Int) == 0) = false := by simp; omega
              go_wp2_with (go_at_call 32; refine Calls.mono HUS.out ?_; rintro e u1 ⟨rfl, hu⟩; have HU : Hid _ := hu; clear hu)
              exact ⟨⟨j + 1, hlt3, by simp, HY2.out, HB2.out.trans (HU.out.mono HB2.out.size)⟩, by simp [intOf]; omega⟩
          · have hno := HNO.out (fun h => hz h.1)
            have hzi : ((z.size : Int) == 16) = false := by simp; omega
            go_wp2
            all_goals go_ret
            all_goals exact ⟨ret_int (by first | rfl | simp [hno]), HBV.out.trans (HB2.out.mono HBV.out.size)⟩
        · obtain rfl : j = m.d.length := by omega
          have hyes : imB m = true := (imB_iff m).2 ⟨HH.out.n, HH.out.b, HH.out.t1, HH.out.t2, HH.out.d, HH.out.s, fun i hi => by
            cases i with
            | zero => exact HH.out.tb
            | succ i => exact (HA.out i (by omega)).t, fun i hi => ⟨(HA.out i hi).n, (HA.out i hi).o⟩, fun i hi => (HAJ.out i hi hi).1, fun i hi => (HAJ.out i hi hi).2⟩
          go_wp2
          all_goals go_ret
          all_goals exact ⟨ret_int (by first | rfl | simp [hyes]), HBV.out.trans (HB2.out.mono HBV.out.size)⟩

set_option maxRecDepth 100000
set_option maxHeartbeats 4000000 in
theorem specImage_tail1 {w : World} {m : IM} {a : IA} (h : IRows w m a) (hl : ILen m) (hd : HD m) (hb0 : ¬ m.b.size = 0) (g2 : nmB m.b = true) : Calls Try.prog 12 #[imA m a] w fun e w' => e = .returned (.int .i64 (if imB m then 0 else 1)) ∧ Below w.heap.size w w' := by
  obtain ⟨al, kl, el⟩ := h.t.sl
  obtain ⟨am, km, em⟩ := h.d.sl
  obtain ⟨ac, kc, ec⟩ := h.sn.sl
  rw [h.si.len] at ec
  obtain ⟨vc, vp, vg, qs⟩ := a
  simp only at el ec em
  subst el ec em
  have HBV : Hid (Below w.heap.size w (w.alloc (.cells #[.string m.n, .string m.b, .slice al m.t.length kl, .slice am m.d.length km, .slice ac m.s.length kc] 31))) := (Below.refl _ _).alloc (Nat.le_refl _) _
  have hbx := heap_new w (.cells #[.string m.n, .string m.b, .slice al m.t.length kl, .slice am m.d.length km, .slice ac m.s.length kc] 31)
  obtain ⟨c0, c1, c2, c3, c4, _⟩ := cel5 hbx
  have HPV : Hid (PB (w.alloc (.cells #[.string m.n, .string m.b, .slice al m.t.length kl, .slice am m.d.length km, .slice ac m.s.length kc] 31)) w.heap.size m ⟨.slice al m.t.length kl, .slice am m.d.length km, .slice ac m.s.length kc, qs⟩) := ⟨by simp, c0, c1, c2, c3, c4, h.below HBV.out⟩
  have HQL : Hid (qs.length = m.s.length) := h.si.len
  have HSN : Hid (SNrow (w.alloc (.cells #[.string m.n, .string m.b, .slice al m.t.length kl, .slice am m.d.length km, .slice ac m.s.length kc] 31)) (.slice ac m.s.length kc) qs) := h.sn.below HBV.out
  have HSI : Hid (SNin (w.alloc (.cells #[.string m.n, .string m.b, .slice al m.t.length kl, .slice am m.d.length km, .slice ac m.s.length kc] 31)) qs m.s) := h.si.below HBV.out
  have HLE : Hid (∀ k (hk : k < m.s.length), m.s[k].t.length ≤ 1048576) := hl.e
  have HN1 : Hid _ := fun u => l13Name_any m.n u
  have HN2 : Hid _ := fun u => l13Name_any m.b u
  have HT : Hid _ := l13Table_any (h.t.below HBV.out) hl.t m.t.length m.d.length
  rw [hd.n] at HN1
  rw [hd.tb] at HT
  have HH : Hid (HD m) := hd
  have HL : Hid (ILen m) := hl
  have HX0 : Hid (∀ k, k < m.s.length → (nmB (nmO m k) = false ∨ tblB m.d.length m.t.length (tlV m (k + 1)) = false ∨ okB m k = false) → imB m = false) := fun k hk h => imB_no (fun hr => by
    rcases h with h | h | h
    · rw [(hr.nm k hk).1] at h; cases h
    · rw [hr.tb (k + 1) (by omega)] at h; cases h
    · rw [(hr.nm k hk).2] at h; cases h)
  have t1 : decide ((m.t.length : Int) < 1) = false := decide_eq_false (by have := hd.t1; omega)
  have t2 : decide ((64 : Int) < (m.t.length : Int)) = false := decide_eq_false (by have := hd.t2; omega)
  have t3 : decide ((128 : Int) < (m.d.length : Int)) = false := decide_eq_false (by have := hd.d; omega)
  have t4 : decide ((8 : Int) < (m.s.length : Int)) = false := decide_eq_false (by have := hd.s; omega)
  unfold imA
  simp only
  clear h hl hbx hd
  have hie : m.b.toList.isEmpty = false := by
    rw [ByteArray.toList_eq]
    cases hh : m.b.data.toList with
    | nil => exact absurd (show m.b.size = 0 by rw [show m.b = ⟨#[]⟩ from ext_ba hh]; rfl) hb0
    | cons => rfl
  have hne : ¬ m.b.toList = [] := fun h => by rw [h] at hie; cases hie
  rw [g2] at HN2
  clear hb0 g2
  go_enter Try.func12, Try.ntmps12
  go_wp2_with fail
  have hlV : w.heap.size < (w.alloc (.cells #[.string m.n, .string m.b, .slice al m.t.length kl, .slice am m.d.length km, .slice ac m.s.length kc] 31)).heap.size := by simp
  generalize (w.alloc (.cells #[.string m.n, .string m.b, .slice al m.t.length kl, .slice am m.d.length km, .slice ac m.s.length kc] 31)) = V at *
  refine Calls.mono (HN1.out _) ?_
  rintro e u1 ⟨rfl, hu⟩
  rw [hu]
  clear hu
  go_wp2_with fail
  refine Calls.mono (HN2.out _) ?_
  rintro e u1 ⟨rfl, hu⟩
  rw [hu]
  clear hu
  go_wp2_with (go_at_call 31; refine Calls.mono HT.out ?_; rintro e u1 ⟨rfl, hu⟩; rw [hu]; clear hu)
  go_loopw [4] (fun i wr => ∃ k : Nat, k ≤ m.s.length ∧ i = .int .i64 k ∧ (∀ j, j < k → S2 m j) ∧ Below V.heap.size V wr) (fun i _ => m.s.length - (intOf i).toNat)
  case atStart => exact ⟨0, Nat.zero_le _, rfl, fun j hj => absurd hj (Nat.not_lt_zero _), Below.refl _ _⟩
  case round =>
    obtain ⟨k, hk, rfl, hal, hb⟩ := hrel
    have HA : Hid (∀ j, j < k → S2 m j) := hal
    have HB1 : Hid (Below V.heap.size V wr) := hb
    have hP := HPV.out.below hb
    clear hal hb c0 c1 c2 c3 c4
    have c2 := hP.c2
    have c3 := hP.c3
    have c4 := hP.c4
    simp only at c2 c3 c4
    by_cases hlt2 : k < m.s.length
    · have hkq : k < qs.length := by rw [HQL.out]; exact hlt2
      obtain ⟨g, o, cap2, hv, _, hg, hc⟩ := HSN.out.resolve_left (fun h => by rw [h.1] at hkq; simp at hkq)
      injection hv with hv1 hv2 hv3
      subst hv1 hv3
      clear hv2
      obtain ⟨d0, d1⟩ := hc.below HB1.out hg k hkq
      obtain ⟨q0, q2⟩ := HSI.out.el k hkq hlt2
      obtain ⟨az, kz, hzt⟩ := q2.sl
      rw [q0, ← nmO_at m k hlt2] at d0
      have htl : tlV m (k + 1) = m.s[k].t := by simp [tlV, List.getD_eq_getElem?_getD, List.getElem?_eq_getElem hlt2]
      have hln := HLE.out k hlt2
      have HT3 : Hid (∀ u, Below V.heap.size V u → Calls Try.prog 31 #[.slice az m.s[k].t.length kz, .int .i64 m.t.length, .int .i64 m.d.length] u fun e w' => e = .returned (.bool (tblB m.d.length m.t.length (tlV m (k + 1)))) ∧ w' = u) := fun u hu => by
        rw [htl]
        exact l13Table_any (by rw [← hzt]; exact q2.below hu) hln _ _
      have HN3 : Hid _ := fun u => l13Name_any (nmO m k) u
      rw [hzt] at d1
      clear hzt q0 q2 htl
      generalize m.s[k].t.length = nz at *
      have hk0 : (0 : Int) ≤ (k : Int) := by omega
      have hk1 : (k : Int) < (m.s.length : Int) := by omega
      have hk9 : (k : Int) ≤ 8 := by have := HH.out.s; omega
      have HNO : Hid ((nmB (nmO m k) = false ∨ tblB m.d.length m.t.length (tlV m (k + 1)) = false ∨ okB m k = false) → imB m = false) := fun h => HX0.out k hlt2 h
      cases hn : nmB (nmO m k)
      · have hno := HNO.out (.inl hn)
        rw [hn] at HN3
        clear hc hP
        go_wp2_with fail
        go_quiet ((go_at_call 30; exact Calls.quiet_of_same (HN3.out _)))
        all_goals go_wp2
        all_goals go_ret
        all_goals exact ⟨ret_int (by first | rfl | simp [hno]), bdn (HBV.out.trans (HB1.out.mono HBV.out.size)) _⟩
      rw [hn] at HN3
      cases ht : tblB m.d.length m.t.length (tlV m (k + 1))
      · have hno := HNO.out (.inr (.inl ht))
        rw [ht] at HT3
        clear hc hP
        go_wp2_with fail
        go_quiet (first | (go_at_call 30; exact Calls.quiet_of_same (HN3.out _)) | (go_at_call 31; exact Calls.quiet_of_same (HT3.out _ (bdn HB1.out _))))
        all_goals go_wp2
        all_goals go_ret
        all_goals exact ⟨ret_int (by first | rfl | simp [hno]), bdn (HBV.out.trans (HB1.out.mono HBV.out.size)) _⟩
      rw [ht] at HT3
      have HSAT : Hid (SNat V g o qs) := hc
      have HGV : Hid (g < V.heap.size) := hg
      clear hc
      go_wp2_with fail
      go_quiet (first | (go_at_call 30; exact Calls.quiet_of_same (HN3.out _)) | (go_at_call 31; exact Calls.quiet_of_same (HT3.out _ (bdn HB1.out _))))
      clear c2 c3 hP
      go_wp2
      have HA1 : Hid (∀ j, j < k → ((nmO m j).toList == (nmO m k).toList) = false → True) := fun _ _ _ => trivial
      go_loopw [5] (fun i wr => ∃ j : Nat, j ≤ k ∧ i = .int .i64 j ∧ (∀ i, i < j → ((nmO m i).toList == (nmO m k).toList) = false) ∧ Below V.heap.size V wr) (fun i _ => k - (intOf i).toNat)
      case atStart => exact ⟨0, Nat.zero_le _, rfl, fun j hj => absurd hj (Nat.not_lt_zero _), bdn HB1.out _⟩
      case round =>
        obtain ⟨j, hj, rfl, hal, hb⟩ := hrel
        have HAJ : Hid (∀ i, i < j → ((nmO m i).toList == (nmO m k).toList) = false) := hal
        have HB2 : Hid (Below V.heap.size V wr) := hb
        have c4 := (HPV.out.below hb).c4
        simp only at c4
        obtain ⟨d0, d1⟩ := HSAT.out.below hb HGV.out k hkq
        obtain ⟨q0, _⟩ := HSI.out.el k hkq hlt2
        rw [q0, ← nmO_at m k hlt2] at d0
        clear hal q0 d1
        by_cases hlt3 : j < k
        · have hjq : j < qs.length := by omega
          have hjs : j < m.s.length := by omega
          obtain ⟨e0, _⟩ := HSAT.out.below hb HGV.out j hjq
          obtain ⟨q0, _⟩ := HSI.out.el j hjq hjs
          rw [q0, ← nmO_at m j hjs] at e0
          clear q0 hb
          have hj0 : (0 : Int) ≤ (j : Int) := by omega
          have hj1 : (j : Int) < (k : Int) := by omega
          have hj2 : (j : Int) < (m.s.length : Int) := by omega
          cases hq : ((nmO m j).toList == (nmO m k).toList)
          · have HAJ2 : Hid (∀ i, i < j + 1 → ((nmO m i).toList == (nmO m k).toList) = false) := fun i hi => by
              rcases Nat.lt_succ_iff_lt_or_eq.1 hi with h3 | h3
              · exact HAJ.out i h3
              · rw [h3]; exact hq
            go_wp2_with fail
            go_quiet (fail)
            all_goals go_wp2
            all_goals exact ⟨⟨j + 1, hlt3, by simp, HAJ2.out, bdn HB2.out _⟩, by simp [intOf]; omega⟩
          · have hno := HNO.out (.inr (.inr (decide_eq_false (fun h => by rw [h j hlt3] at hq; cases hq))))
            go_wp2_with fail
            go_quiet (fail)
            all_goals go_wp2
            all_goals go_ret
            all_goals exact ⟨ret_int (by first | rfl | simp [hno]), bdn (HBV.out.trans (HB2.out.mono HBV.out.size)) _⟩
        · obtain rfl : j = k := by omega
          have HS2 : Hid (S2 m j) := ⟨hn, ht, decide_eq_true HAJ.out⟩
          have HA2 : Hid (∀ i, i < j + 1 → S2 m i) := fun i hi => by
            rcases Nat.lt_succ_iff_lt_or_eq.1 hi with h3 | h3
            · exact HA.out i h3
            · rw [h3]; exact HS2.out
          go_wp2
          exact ⟨⟨j + 1, hlt2, by simp, HA2.out, HB2.out⟩, by simp [intOf]; omega⟩
    · obtain rfl : k = m.s.length := by omega
      clear hP
      go_wp2
      go_loopw [6] (fun i wr => ∃ j : Nat, j ≤ m.d.length ∧ i = .int .i64 j ∧ (∀ i (hi : i < m.d.length), i < j → m.d[i].size = 16 ∧ 0 < (allE m).count (i : Int)) ∧ Below V.heap.size V wr) (fun i _ => m.d.length - (intOf i).toNat)
      case atStart => exact ⟨0, Nat.zero_le _, rfl, fun j _ hj => absurd hj (Nat.not_lt_zero _), HB1.out⟩
      case round =>
        obtain ⟨j, hj, rfl, hal, hb⟩ := hrel
        have HAJ : Hid (∀ i (hi : i < m.d.length), i < j → m.d[i].size = 16 ∧ 0 < (allE m).count (i : Int)) := hal
        have HB2 : Hid (Below V.heap.size V wr) := hb
        have hP := HPV.out.below hb
        have c0 := hP.c0
        have c1 := hP.c1
        have c2 := hP.c2
        have c3 := hP.c3
        have c4 := hP.c4
        simp only at c0 c1 c2 c3 c4
        have HROW : Hid (IRows wr m ⟨.slice al m.t.length kl, .slice am m.d.length km, .slice ac m.s.length kc, qs⟩) := hP.row
        clear hal hP
        by_cases hlt3 : j < m.d.length
        · obtain ⟨g, o, cap2, hv, _, hg, hc⟩ := HROW.out.d.resolve_left (fun h => by rw [h.1] at hlt3; simp at hlt3)
          injection hv with hv1 hv2 hv3
          subst hv1 hv3
          clear hv2
          have d0 := hc j hlt3
          have hj0 : (0 : Int) ≤ (j : Int) := by omega
          have hj1 : (j : Int) < (m.d.length : Int) := by omega
          have hj9 : (j : Int) ≤ 128 := by have := HH.out.d; omega
          have HNO : Hid (¬ (m.d[j].size = 16 ∧ 0 < (allE m).count (j : Int)) → imB m = false) := fun h => imB_no (fun hr => h ⟨hr.dz j hlt3, hr.us j hlt3⟩)
          have HYS : Hid (m.d[j].size = 16 ∧ 0 < (allE m).count (j : Int) → ∀ i (hi : i < m.d.length), i < j + 1 → m.d[i].size = 16 ∧ 0 < (allE m).count (i : Int)) := fun h i hi2 hi => by
            rcases Nat.lt_succ_iff_lt_or_eq.1 hi with h3 | h3
            · exact HAJ.out i hi2 h3
            · subst h3; exact h
          have hTS : ∀ i, i < m.s.length + 1 → tblB m.d.length m.t.length (tlV m i) = true := fun i hi => by
            cases i with
            | zero => exact HH.out.tb
            | succ i => exact (HA.out i (by omega)).t
          have HUS : Hid _ := l13Uses_any HROW.out HL.out (upE_len hTS HH.out.t2 HH.out.s) (j : Int)
          unfold imA at HUS
          simp only at HUS
          generalize m.d[j] = z at *
          generalize (allE m).count (j : Int) = c at *
          clear hc hTS
          by_cases hz : z.size = 16
          · have hzi : ((z.size : Int) == 16) = true := by simp; omega
            by_cases hcz : c = 0
            · have hno := HNO.out (fun h => by omega)
              subst hcz
              go_wp2_with (go_at_call 32; refine Calls.mono HUS.out ?_; rintro e u1 ⟨rfl, hu⟩; have HU : Hid _ := hu; clear hu)
              all_goals go_ret
              all_goals exact ⟨ret_int (by first | rfl | simp [hno]), (HBV.out.trans (HB2.out.mono HBV.out.size)).trans (HU.out.mono (Nat.le_trans HBV.out.size HB2.out.size))⟩
            · have HY2 : Hid _ := HYS.out ⟨hz, by omega⟩
              have hci : ((c : Int) == 0) = false := by simp; omega
              go_wp2_with (go_at_call 32; refine Calls.mono HUS.out ?_; rintro e u1 ⟨rfl, hu⟩; have HU : Hid _ := hu; clear hu)
              exact ⟨⟨j + 1, hlt3, by simp, HY2.out, HB2.out.trans (HU.out.mono HB2.out.size)⟩, by simp [intOf]; omega⟩
          · have hno := HNO.out (fun h => hz h.1)
            have hzi : ((z.size : Int) == 16) = false := by simp; omega
            go_wp2
            all_goals go_ret
            all_goals exact ⟨ret_int (by first | rfl | simp [hno]), HBV.out.trans (HB2.out.mono HBV.out.size)⟩
        · obtain rfl : j = m.d.length := by omega
          have hyes : imB m = true := (imB_iff m).2 ⟨HH.out.n, HH.out.b, HH.out.t1, HH.out.t2, HH.out.d, HH.out.s, fun i hi => by
            cases i with
            | zero => exact HH.out.tb
            | succ i => exact (HA.out i (by omega)).t, fun i hi => ⟨(HA.out i hi).n, (HA.out i hi).o⟩, fun i hi => (HAJ.out i hi hi).1, fun i hi => (HAJ.out i hi hi).2⟩
          go_wp2
          all_goals go_ret
          all_goals exact ⟨ret_int (by first | rfl | simp [hyes]), HBV.out.trans (HB2.out.mono HBV.out.size)⟩
theorem specImage_any {w : World} {m : IM} {a : IA} (h : IRows w m a) (hl : ILen m) : Calls Try.prog 12 #[imA m a] w fun e w' => e = .returned (.int .i64 (if imB m then 0 else 1)) ∧ Below w.heap.size w w' := by
  by_cases hd : HD m
  · by_cases hb0 : m.b.size = 0
    · exact specImage_tail0 h hl hd hb0
    · refine specImage_tail1 h hl hd hb0 ?_
      have := hd.b
      unfold bkB at this
      rw [decide_eq_false hb0, Bool.false_or] at this
      exact this
  · have hno : imB m = false := imB_no (fun hr => hd ⟨hr.n, hr.b, hr.t1, hr.t2, hr.d, hr.s, hr.tb 0 (by omega)⟩)
    rw [hno]
    exact specImage_head h hl hd
end Go.Proofs.Ytaobbddecmhpnaa
