import Derived.Test.YtaobbddecmhpnaaNa1
namespace Go.Proofs.Ytaobbddecmhpnaa
open Go.ChangeShapes Go.WideShapes Go.ChangeAt Go.RowKit

set_option maxRecDepth 100000
theorem ext_ba {a b : ByteArray} (h : a.data.toList = b.data.toList) : a = b := ByteArray.ext (Array.toList_inj.1 h)
/-- The name of what is behind: none, or one. -/
def bkB (b : ByteArray) : Bool := decide (b.size = 0) || nmB b
/-- The names of an image. -/
def naB (m : IM) : Bool := nmB m.n && bkB m.b && decide (∀ k, k < m.s.length → nmB (nmO m k) = true ∧ okB m k = true)
theorem naB_no {m : IM} {k : Nat} (hk : k < m.s.length) (h : nmB (nmO m k) = false ∨ okB m k = false) : naB m = false := by
  unfold naB
  rw [decide_eq_false (fun h2 => by rcases h with h | h <;> (have := h2 k hk; rw [h] at this; simp at this)), Bool.and_false]
set_option maxHeartbeats 4000000 in
theorem namesRight_any {w : World} {B : Nat} {m : IM} {a : IA} (h : PB w B m a) (hl : m.s.length ≤ 1048576) : Calls Try.prog 37 #[.pointer (some ⟨B, 0, none⟩)] w fun r w' => r = .returned (.bool (naB m)) ∧ Below w.heap.size w w' := by
  have c0 := h.c0
  have c1 := h.c1
  have c4 := h.c4
  obtain ⟨as2, ks, hs⟩ := h.row.sn.sl
  rw [h.row.si.len] at hs
  rw [hs] at c4
  have HN1 : Hid _ := fun u => isImageName_any m.n u
  have HN2 : Hid _ := fun u => isImageName_any m.b u
  have hlt := h.lt
  cases g1 : nmB m.n with
  | false =>
    rw [g1] at HN1
    have HG : Hid (naB m = false) := (show naB m = false by unfold naB; rw [g1]; rfl)
    clear h hs
    go_enter Try.func37, Try.ntmps37
    go_wp2_with (go_at_call 48; refine Calls.mono (HN1.out _) ?_; rintro e u1 ⟨rfl, hu⟩; rw [hu]; clear hu)
    go_ret
    exact ⟨ret_bool HG.out.symm, Below.refl _ _⟩
  | true =>
    rw [g1] at HN1
    have HP : Hid (PB w B m a) := h
    have HVS : Hid (a.vs = .slice as2 m.s.length ks) := hs
    have HX0 : Hid (∀ k, k < m.s.length → (nmB (nmO m k) = false ∨ okB m k = false) → naB m = false) := fun k hk h => naB_no hk h
    by_cases hb0 : m.b.size = 0
    · have hbe : m.b = ⟨#[]⟩ := ext_ba (List.length_eq_zero_iff.1 (by simpa using hb0))
      have HX1 : Hid ((∀ k, k < m.s.length → nmB (nmO m k) = true ∧ okB m k = true) → naB m = true) := fun h => by
        unfold naB bkB
        rw [g1, decide_eq_true hb0, decide_eq_true h]
        rfl
      rw [hbe] at c1
      generalize naB m = G at *
      clear h hs hb0 hbe HN2
      go_enter Try.func37, Try.ntmps37
      go_wp2_with (go_at_call 48; refine Calls.mono (HN1.out _) ?_; rintro e u1 ⟨rfl, hu⟩; rw [hu]; clear hu)
      go_loopw [31] (fun i wr => ∃ k : Nat, k ≤ m.s.length ∧ i = .int .i64 k ∧ (∀ j, j < k → nmB (nmO m j) = true ∧ okB m j = true) ∧ Below w.heap.size w wr) (fun i _ => m.s.length - (intOf i).toNat)
      case atStart => exact ⟨0, Nat.zero_le _, rfl, fun j hj => absurd hj (Nat.not_lt_zero _), Below.refl _ _⟩
      case round =>
        obtain ⟨k, hk, rfl, hal, hb⟩ := hrel
        have HA : Hid (∀ j, j < k → nmB (nmO m j) = true ∧ okB m j = true) := hal
        clear hal
        by_cases hlt2 : k < m.s.length
        · have hkq : k < a.qs.length := by rw [HP.out.row.si.len]; exact hlt2
          obtain ⟨g, o, cap2, hv, _, hg, hc⟩ := HP.out.row.sn.resolve_left (fun h => by rw [h.1] at hkq; simp at hkq)
          have hv3 := HVS.out.symm.trans hv
          injection hv3 with hv1 hv2 hv3
          subst hv1 hv3
          clear hv2 hv
          obtain ⟨d0, d1⟩ := hc.below hb hg k hkq
          obtain ⟨q0, q2⟩ := HP.out.row.si.el k hkq hlt2
          obtain ⟨az, kz, hzt⟩ := q2.sl
          rw [q0, ← nmO_at m k hlt2] at d0
          rw [hzt] at d1
          clear hzt q0 q2 hc
          generalize m.s[k].t.length = nz at *
          have hb2 : Below w.heap.size w (wr.alloc (.cells #[.string (nmO m k), .slice az nz kz] 43)) := hb.alloc hb.size _
          have HN3 : Hid _ := isImageName_any (nmO m k) (wr.alloc (.cells #[.string (nmO m k), .slice az nz kz] 43))
          have HSA : Hid _ := snapAt_any (HP.out.below hb2) hl (nmO m k)
          have hix : decide (ixSN (fun x => x.n.toList == (nmO m k).toList) a.qs < (k : Int)) = !okB m k := okB_ix HP.out.row.si k hlt2
          have HNO : Hid (nmB (nmO m k) = false ∨ okB m k = false → G = false) := fun h => HX0.out k hlt2 h
          have HA2 : Hid (nmB (nmO m k) = true → okB m k = true → ∀ j, j < k + 1 → nmB (nmO m j) = true ∧ okB m j = true) := fun h1 h2 j hj => by
            rcases Nat.lt_succ_iff_lt_or_eq.1 hj with h3 | h3
            · exact HA.out j h3
            · subst h3; exact ⟨h1, h2⟩
          have HB2 : Hid (Below w.heap.size w (wr.alloc (.cells #[.string (nmO m k), .slice az nz kz] 43))) := hb2
          have hk0 : (0 : Int) ≤ (k : Int) := by omega
          have hk1 : (k : Int) < (m.s.length : Int) := by omega
          have hgw : g < wr.heap.size := Nat.lt_of_lt_of_le hg hb.size
          have HL3 : Hid (wr.heap.size + 1 = (wr.alloc (.cells #[.string (nmO m k), .slice az nz kz] 43)).heap.size) := (show _ = _ by simp)
          generalize ixSN (fun x => x.n.toList == (nmO m k).toList) a.qs = ix at *
          generalize okB m k = ok at *
          generalize nmB (nmO m k) = nb at *
          generalize nmO m k = nn at *
          clear hb hb2
          cases nb
          · have hg0 := HNO.out (.inl rfl)
            subst hg0
            go_wp2_with (go_at_call 48; refine Calls.mono HN3.out ?_; rintro e u1 ⟨rfl, hu⟩; rw [hu]; clear hu)
            go_ret
            exact ⟨rfl, HB2.out⟩
          · cases ok
            · have hg0 := HNO.out (.inr rfl)
              subst hg0
              simp only [Bool.not_false] at hix
              go_wp2_with (first | (go_at_call 48; refine Calls.mono HN3.out ?_; rintro e u1 ⟨rfl, hu⟩; rw [hu]; clear hu) | (go_at_call 49; refine Calls.mono HSA.out ?_; rintro e u2 ⟨rfl, hu2⟩; have HU2 : Hid _ := hu2; clear hu2))
              go_ret
              exact ⟨rfl, HB2.out.trans (HU2.out.mono HB2.out.size)⟩
            · simp only [Bool.not_true] at hix
              have HA3 : Hid _ := HA2.out rfl rfl
              go_wp2_with (first | (go_at_call 48; refine Calls.mono HN3.out ?_; rintro e u1 ⟨rfl, hu⟩; rw [hu]; clear hu) | (go_at_call 49; refine Calls.mono HSA.out ?_; rintro e u2 ⟨rfl, hu2⟩; have HU2 : Hid _ := hu2; clear hu2))
              exact ⟨⟨k + 1, hlt2, by simp, HA3.out, HB2.out.trans (HU2.out.mono HB2.out.size)⟩, by simp [intOf]; omega⟩
        · obtain rfl : k = m.s.length := by omega
          have hg0 := HX1.out HA.out
          subst hg0
          go_wp2
          go_ret
          exact ⟨rfl, hb⟩
    · have hie : m.b.toList.isEmpty = false := by
        rw [ByteArray.toList_eq]
        cases hh : m.b.data.toList with
        | nil => exact absurd (show m.b.size = 0 by rw [show m.b = ⟨#[]⟩ from ext_ba hh]; rfl) hb0
        | cons => rfl
      have hne : ¬ m.b.toList = [] := fun h => by rw [h] at hie; cases hie
      cases g2 : nmB m.b with
      | false =>
        rw [g2] at HN2
        have HG : Hid (naB m = false) := (show naB m = false by unfold naB bkB; rw [g1, g2, decide_eq_false hb0]; rfl)
        clear h hs hb0
        go_enter Try.func37, Try.ntmps37
        go_wp2_with fail
        refine Calls.mono (HN1.out _) ?_
        rintro e u1 ⟨rfl, hu⟩
        rw [hu]
        clear hu
        go_wp2_with fail
        refine Calls.mono (HN2.out _) ?_
        rintro e u1 ⟨rfl, hu⟩
        rw [hu]
        clear hu
        go_wp2
        go_ret
        exact ⟨ret_bool HG.out.symm, Below.refl _ _⟩
      | true =>
      rw [g2] at HN2
      have HX1 : Hid ((∀ k, k < m.s.length → nmB (nmO m k) = true ∧ okB m k = true) → naB m = true) := fun h => by
        unfold naB bkB
        rw [g1, g2, decide_eq_true h, Bool.or_true]
        rfl
      generalize naB m = G at *
      clear h hs hb0 
      go_enter Try.func37, Try.ntmps37
      go_wp2_with fail
      refine Calls.mono (HN1.out _) ?_
      rintro e u1 ⟨rfl, hu⟩
      rw [hu]
      clear hu
      go_wp2_with fail
      refine Calls.mono (HN2.out _) ?_
      rintro e u1 ⟨rfl, hu⟩
      rw [hu]
      clear hu
      go_wp2
      go_loopw [31] (fun i wr => ∃ k : Nat, k ≤ m.s.length ∧ i = .int .i64 k ∧ (∀ j, j < k → nmB (nmO m j) = true ∧ okB m j = true) ∧ Below w.heap.size w wr) (fun i _ => m.s.length - (intOf i).toNat)
      case atStart => exact ⟨0, Nat.zero_le _, rfl, fun j hj => absurd hj (Nat.not_lt_zero _), Below.refl _ _⟩
      case round =>
        obtain ⟨k, hk, rfl, hal, hb⟩ := hrel
        have HA : Hid (∀ j, j < k → nmB (nmO m j) = true ∧ okB m j = true) := hal
        clear hal
        by_cases hlt2 : k < m.s.length
        · have hkq : k < a.qs.length := by rw [HP.out.row.si.len]; exact hlt2
          obtain ⟨g, o, cap2, hv, _, hg, hc⟩ := HP.out.row.sn.resolve_left (fun h => by rw [h.1] at hkq; simp at hkq)
          have hv3 := HVS.out.symm.trans hv
          injection hv3 with hv1 hv2 hv3
          subst hv1 hv3
          clear hv2 hv
          obtain ⟨d0, d1⟩ := hc.below hb hg k hkq
          obtain ⟨q0, q2⟩ := HP.out.row.si.el k hkq hlt2
          obtain ⟨az, kz, hzt⟩ := q2.sl
          rw [q0, ← nmO_at m k hlt2] at d0
          rw [hzt] at d1
          clear hzt q0 q2 hc
          generalize m.s[k].t.length = nz at *
          have hb2 : Below w.heap.size w (wr.alloc (.cells #[.string (nmO m k), .slice az nz kz] 43)) := hb.alloc hb.size _
          have HN3 : Hid _ := isImageName_any (nmO m k) (wr.alloc (.cells #[.string (nmO m k), .slice az nz kz] 43))
          have HSA : Hid _ := snapAt_any (HP.out.below hb2) hl (nmO m k)
          have hix : decide (ixSN (fun x => x.n.toList == (nmO m k).toList) a.qs < (k : Int)) = !okB m k := okB_ix HP.out.row.si k hlt2
          have HNO : Hid (nmB (nmO m k) = false ∨ okB m k = false → G = false) := fun h => HX0.out k hlt2 h
          have HA2 : Hid (nmB (nmO m k) = true → okB m k = true → ∀ j, j < k + 1 → nmB (nmO m j) = true ∧ okB m j = true) := fun h1 h2 j hj => by
            rcases Nat.lt_succ_iff_lt_or_eq.1 hj with h3 | h3
            · exact HA.out j h3
            · subst h3; exact ⟨h1, h2⟩
          have HB2 : Hid (Below w.heap.size w (wr.alloc (.cells #[.string (nmO m k), .slice az nz kz] 43))) := hb2
          have hk0 : (0 : Int) ≤ (k : Int) := by omega
          have hk1 : (k : Int) < (m.s.length : Int) := by omega
          have hgw : g < wr.heap.size := Nat.lt_of_lt_of_le hg hb.size
          have HL3 : Hid (wr.heap.size + 1 = (wr.alloc (.cells #[.string (nmO m k), .slice az nz kz] 43)).heap.size) := (show _ = _ by simp)
          generalize ixSN (fun x => x.n.toList == (nmO m k).toList) a.qs = ix at *
          generalize okB m k = ok at *
          generalize nmB (nmO m k) = nb at *
          generalize nmO m k = nn at *
          clear hb hb2
          cases nb
          · have hg0 := HNO.out (.inl rfl)
            subst hg0
            go_wp2_with (go_at_call 48; refine Calls.mono HN3.out ?_; rintro e u1 ⟨rfl, hu⟩; rw [hu]; clear hu)
            go_ret
            exact ⟨rfl, HB2.out⟩
          · cases ok
            · have hg0 := HNO.out (.inr rfl)
              subst hg0
              simp only [Bool.not_false] at hix
              go_wp2_with (first | (go_at_call 48; refine Calls.mono HN3.out ?_; rintro e u1 ⟨rfl, hu⟩; rw [hu]; clear hu) | (go_at_call 49; refine Calls.mono HSA.out ?_; rintro e u2 ⟨rfl, hu2⟩; have HU2 : Hid _ := hu2; clear hu2))
              go_ret
              exact ⟨rfl, HB2.out.trans (HU2.out.mono HB2.out.size)⟩
            · simp only [Bool.not_true] at hix
              have HA3 : Hid _ := HA2.out rfl rfl
              go_wp2_with (first | (go_at_call 48; refine Calls.mono HN3.out ?_; rintro e u1 ⟨rfl, hu⟩; rw [hu]; clear hu) | (go_at_call 49; refine Calls.mono HSA.out ?_; rintro e u2 ⟨rfl, hu2⟩; have HU2 : Hid _ := hu2; clear hu2))
              exact ⟨⟨k + 1, hlt2, by simp, HA3.out, HB2.out.trans (HU2.out.mono HB2.out.size)⟩, by simp [intOf]; omega⟩
        · obtain rfl : k = m.s.length := by omega
          have hg0 := HX1.out HA.out
          subst hg0
          go_wp2
          go_ret
          exact ⟨rfl, hb⟩
end Go.Proofs.Ytaobbddecmhpnaa
