import Derived.Test.YtmaknoakknpopaaUs1
namespace Go.Proofs.Ytmaknoakknpopaa
open Go.ChangeShapes Go.WideShapes Go.ChangeAt Go.RowKit

set_option maxRecDepth 100000
structure IR (m : IM) : Prop where
  n : nmB m.n = true
  b : bkB m.b = true
  t1 : 1 ≤ m.t.length
  t2 : m.t.length ≤ 64
  d : m.d.length ≤ 128
  s : m.s.length ≤ 8
  tb : ∀ j, j < m.s.length + 1 → tblB m.d.length m.t.length (tlV m j) = true
  nm : ∀ k, k < m.s.length → nmB (nmO m k) = true ∧ okB m k = true
  dz : ∀ k (hk : k < m.d.length), m.d[k].size = 16
  us : ∀ k, k < m.d.length → 0 < (allE m).count (k : Int)
theorem imB_iff (m : IM) : imB m = true ↔ IR m := by
  unfold imB bdB naB daB tsB usB
  simp only [Bool.and_eq_true, decide_eq_true_eq]
  constructor
  · rintro ⟨⟨⟨⟨⟨h1, h2, h3, h4⟩, ⟨h5, h6⟩, h7⟩, h8⟩, h9⟩, h10⟩
    exact ⟨h5, h6, h1, h2, h3, h4, h9, h7, h8, h10⟩
  · intro h
    exact ⟨⟨⟨⟨⟨h.t1, h.t2, h.d, h.s⟩, ⟨h.n, h.b⟩, h.nm⟩, h.dz⟩, h.tb⟩, h.us⟩
theorem imB_no {m : IM} (h : ¬ IR m) : imB m = false := Bool.eq_false_iff.2 (fun h2 => h ((imB_iff m).1 h2))
theorem upE_len {m : IM} (h : ∀ j, j < m.s.length + 1 → tblB m.d.length m.t.length (tlV m j) = true) (ht : m.t.length ≤ 64) (hs : m.s.length ≤ 8) : ∀ k, k ≤ m.s.length → (upE m k).length ≤ 1048576 := by
  have h2 : ∀ k, k ≤ m.s.length → (upE m k).length ≤ (k + 1) * 64 := by
    intro k
    induction k with
    | zero => intro _; rw [upE_zero]; omega
    | succ k ih =>
      intro hk
      have h3 := (of_decide_eq_true (h (k + 1) (by omega))).1
      have h4 := ih (by omega)
      rw [upE_succ, List.length_append, h3]
      omega
  intro k hk
  have := h2 k hk
  have h5 : (k + 1) * 64 ≤ 9 * 64 := Nat.mul_le_mul (by omega) (Nat.le_refl _)
  omega
/-- The head of the specification's test. -/
structure HD (m : IM) : Prop where
  n : nmB m.n = true
  b : bkB m.b = true
  t1 : 1 ≤ m.t.length
  t2 : m.t.length ≤ 64
  d : m.d.length ≤ 128
  s : m.s.length ≤ 8
  tb : tblB m.d.length m.t.length m.t = true
set_option maxHeartbeats 4000000 in
theorem specImage_head {w : World} {m : IM} {a : IA} (h : IRows w m a) (hl : ILen m) (hno : ¬ HD m) : Calls Try.prog 9 #[imA m a] w fun e w' => e = .returned (.int .i64 1) ∧ Below w.heap.size w w' := by
  obtain ⟨al, kl, el⟩ := h.t.sl
  obtain ⟨am, km, em⟩ := h.d.sl
  obtain ⟨ac, kc, ec⟩ := h.sn.sl
  rw [h.si.len] at ec
  obtain ⟨vc, vp, vg, qs⟩ := a
  simp only at el ec em
  subst el ec em
  have HB : Hid (Below w.heap.size w (w.alloc (.cells #[.string m.n, .string m.b, .slice al m.t.length kl, .slice am m.d.length km, .slice ac m.s.length kc] 31))) := (Below.refl _ _).alloc (Nat.le_refl _) _
  have hbx := heap_new w (.cells #[.string m.n, .string m.b, .slice al m.t.length kl, .slice am m.d.length km, .slice ac m.s.length kc] 31)
  obtain ⟨c0, c1, c2, c3, c4, _⟩ := cel5 hbx
  have HN1 : Hid _ := fun u => l13Name_any m.n u
  have HN2 : Hid _ := fun u => l13Name_any m.b u
  have HT : Hid _ := l13Table_any (h.t.below HB.out) hl.t m.t.length m.d.length
  unfold imA
  simp only
  have hlt := hl.t
  clear h hl hbx
  cases g1 : nmB m.n with
  | false =>
    rw [g1] at HN1
    go_enter Try.func9, Try.ntmps9
    go_wp2_with (go_at_call 28; refine Calls.mono (HN1.out _) ?_; rintro e u1 ⟨rfl, hu⟩; rw [hu]; clear hu)
    go_ret
    exact ⟨rfl, HB.out⟩
  | true =>
  rw [g1] at HN1
  by_cases hb0 : m.b.size = 0
  · have hbe : m.b = ⟨#[]⟩ := ext_ba (List.length_eq_zero_iff.1 (by simpa using hb0))
    have g2 : bkB m.b = true := by unfold bkB; rw [decide_eq_true hb0]; rfl
    have HNO : Hid (¬ (1 ≤ m.t.length ∧ m.t.length ≤ 64 ∧ m.d.length ≤ 128 ∧ m.s.length ≤ 8 ∧ tblB m.d.length m.t.length m.t = true)) := fun ⟨a1, a2, a3, a4, a5⟩ => hno ⟨g1, g2, a1, a2, a3, a4, a5⟩
    rw [hbe] at c1 HB HT ⊢
    clear hno hb0 hbe g2 HN2
    generalize tblB m.d.length m.t.length m.t = tb at *
    generalize m.t.length = nt at *
    generalize m.d.length = nd at *
    generalize m.s.length = ns at *
    go_enter Try.func9, Try.ntmps9
    go_wp2_with fail
    refine Calls.mono (HN1.out _) ?_
    rintro e u1 ⟨rfl, hu⟩
    rw [hu]
    clear hu
    by_cases t1 : (nt : Int) < 1
    · go_wp2
      go_ret
      exact ⟨rfl, HB.out⟩
    by_cases t2 : (64 : Int) < (nt : Int)
    · go_wp2
      go_ret
      exact ⟨rfl, HB.out⟩
    by_cases t3 : (128 : Int) < (nd : Int)
    · go_wp2
      go_ret
      exact ⟨rfl, HB.out⟩
    by_cases t4 : (8 : Int) < (ns : Int)
    · go_wp2
      go_ret
      exact ⟨rfl, HB.out⟩
    obtain rfl : tb = false := by
      cases tb
      · rfl
      · exact absurd ⟨by omega, by omega, by omega, by omega, rfl⟩ HNO.out
    clear HNO
    go_wp2_with (go_at_call 29; refine Calls.mono HT.out ?_; rintro e u1 ⟨rfl, hu⟩; rw [hu]; clear hu)
    go_ret
    exact ⟨rfl, HB.out⟩
  · have hie : m.b.toList.isEmpty = false := by
      rw [ByteArray.toList_eq]
      cases hh : m.b.data.toList with
      | nil => exact absurd (show m.b.size = 0 by rw [show m.b = ⟨#[]⟩ from ext_ba hh]; rfl) hb0
      | cons => rfl
    have hne : ¬ m.b.toList = [] := fun h => by rw [h] at hie; cases hie
    cases g2 : nmB m.b with
    | false =>
      rw [g2] at HN2
      clear hb0 hno
      go_enter Try.func9, Try.ntmps9
      go_wp2_with fail
      refine Calls.mono (HN1.out _) ?_
      rintro e u1 ⟨rfl, hu⟩
      rw [hu]
      clear hu
      go_wp2_with fail
      refine Calls.mono (HN2.out _) ?_
      rintro e u1 ⟨rfl, hu⟩
      rw [hu]
      clear hu
      go_wp2
      go_ret
      exact ⟨rfl, HB.out⟩
    | true =>
      rw [g2] at HN2
      have g3 : bkB m.b = true := by unfold bkB; rw [g2, Bool.or_true]
      have HNO : Hid (¬ (1 ≤ m.t.length ∧ m.t.length ≤ 64 ∧ m.d.length ≤ 128 ∧ m.s.length ≤ 8 ∧ tblB m.d.length m.t.length m.t = true)) := fun ⟨a1, a2, a3, a4, a5⟩ => hno ⟨g1, g3, a1, a2, a3, a4, a5⟩
      clear hno hb0 g2 g3
      generalize tblB m.d.length m.t.length m.t = tb at *
      generalize m.t.length = nt at *
      generalize m.d.length = nd at *
      generalize m.s.length = ns at *
      go_enter Try.func9, Try.ntmps9
      go_wp2_with fail
      refine Calls.mono (HN1.out _) ?_
      rintro e u1 ⟨rfl, hu⟩
      rw [hu]
      clear hu
      go_wp2_with fail
      refine Calls.mono (HN2.out _) ?_
      rintro e u1 ⟨rfl, hu⟩
      rw [hu]
      clear hu
      by_cases t1 : (nt : Int) < 1
      · go_wp2
        go_ret
        exact ⟨rfl, HB.out⟩
      by_cases t2 : (64 : Int) < (nt : Int)
      · go_wp2
        go_ret
        exact ⟨rfl, HB.out⟩
      by_cases t3 : (128 : Int) < (nd : Int)
      · go_wp2
        go_ret
        exact ⟨rfl, HB.out⟩
      by_cases t4 : (8 : Int) < (ns : Int)
      · go_wp2
        go_ret
        exact ⟨rfl, HB.out⟩
      obtain rfl : tb = false := by
        cases tb
        · rfl
        · exact absurd ⟨by omega, by omega, by omega, by omega, rfl⟩ HNO.out
      clear HNO
      go_wp2_with (go_at_call 29; refine Calls.mono HT.out ?_; rintro e u1 ⟨rfl, hu⟩; rw [hu]; clear hu)
      go_ret
      exact ⟨rfl, HB.out⟩
end Go.Proofs.Ytmaknoakknpopaa
