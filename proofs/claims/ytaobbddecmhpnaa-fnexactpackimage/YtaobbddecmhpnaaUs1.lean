import Derived.Test.YtaobbddecmhpnaaNa3
import Derived.BigQuiet
namespace Go.Proofs.Ytaobbddecmhpnaa
open Go.ChangeShapes Go.WideShapes Go.ChangeAt Go.RowKit

set_option maxRecDepth 100000
theorem l01B_any (b : Bool) (w : World) : Calls Try.prog 47 #[.bool b] w fun e w' => e = .returned (.int .i64 (if b then 1 else 0)) ∧ w' = w := by
  cases b
  · go_enter Try.func47, Try.ntmps47
    go_wp2
    go_ret
    exact ⟨rfl, rfl⟩
  · go_enter Try.func47, Try.ntmps47
    go_wp2
    go_ret
    exact ⟨rfl, rfl⟩
/-- The entries of the first tables. -/
def upE (m : IM) (k : Nat) : List Int := (List.range (k + 1)).flatMap (tlV m)
theorem upE_zero (m : IM) : upE m 0 = m.t := by simp [upE, tlV]
theorem upE_succ (m : IM) (k : Nat) : upE m (k + 1) = upE m k ++ tlV m (k + 1) := by simp [upE, List.range_succ]
theorem cnt_snoc (es : List Int) (y x : Int) : (((es ++ [y]).count x : Nat) : Int) = (es.count x : Nat) + (if (y == x) = true then 1 else 0) := by
  rw [List.count_append, List.count_singleton]
  split <;> simp_all
theorem cnt_take (es ts : List Int) (x : Int) (k : Nat) (hk : k < ts.length) : (((es ++ ts.take (k + 1)).count x : Nat) : Int) = ((es ++ ts.take k).count x : Nat) + (if (ts[k] == x) = true then 1 else 0) := by
  rw [List.take_succ_eq_append_getElem hk, ← List.append_assoc]
  exact cnt_snoc _ _ _
set_option maxHeartbeats 4000000 in
theorem l13Uses_any {w : World} {m : IM} {a : IA} (h : IRows w m a) (hl : ILen m) (hE : ∀ k, k ≤ m.s.length → (upE m k).length ≤ 1048576) (x : Int) : Calls Try.prog 32 #[imA m a, .int .i64 x] w fun e w' => e = .returned (.int .i64 ((allE m).count x : Nat)) ∧ Below w.heap.size w w' := by
  obtain ⟨al, kl, el⟩ := h.t.sl
  obtain ⟨am, km, em⟩ := h.d.sl
  obtain ⟨ac, kc, ec⟩ := h.sn.sl
  rw [h.si.len] at ec
  obtain ⟨vc, vp, vg, qs⟩ := a
  simp only at el ec em
  subst el ec em
  have HQL : Hid (qs.length = m.s.length) := h.si.len
  have HB : Hid (Below w.heap.size w (w.alloc (.cells #[.string m.n, .string m.b, .slice al m.t.length kl, .slice am m.d.length km, .slice ac m.s.length kc] 31))) := (Below.refl _ _).alloc (Nat.le_refl _) _
  have hbx := heap_new w (.cells #[.string m.n, .string m.b, .slice al m.t.length kl, .slice am m.d.length km, .slice ac m.s.length kc] 31)
  obtain ⟨c0, c1, c2, c3, c4, _⟩ := cel5 hbx
  have HT : Hid (Irow w (.slice al m.t.length kl) m.t) := h.t
  have HN : Hid (SNrow w (.slice ac m.s.length kc) qs) := h.sn
  have HI : Hid (SNin w qs m.s) := h.si
  have HE : Hid (∀ k, k ≤ m.s.length → (upE m k).length ≤ 1048576) := hE
  have hlt : m.t.length ≤ 1048576 := hl.t
  have hls : m.s.length ≤ 1048576 := hl.s
  have HLE : Hid (∀ k (hk : k < m.s.length), m.s[k].t.length ≤ 1048576) := hl.e
  have hsz : w.heap.size < (w.alloc (.cells #[.string m.n, .string m.b, .slice al m.t.length kl, .slice am m.d.length km, .slice ac m.s.length kc] 31)).heap.size := by simp
  clear h hl hE hbx
  unfold imA
  simp only
  go_enter Try.func32, Try.ntmps32
  go_wp2
  generalize (w.alloc (.cells #[.string m.n, .string m.b, .slice al m.t.length kl, .slice am m.d.length km, .slice ac m.s.length kc] 31)) = V at *
  go_loopw [5, 6] (fun o i wr => ∃ k : Nat, k ≤ m.t.length ∧ i = .int .i64 k ∧ o = .int .i64 ((m.t.take k).count x : Nat) ∧ wr = V) (fun _ i _ => m.t.length - (intOf i).toNat)
  case atStart => exact ⟨0, Nat.zero_le _, rfl, by simp, rfl⟩
  case round =>
    obtain ⟨k, hk, rfl, rfl, rfl⟩ := hrel
    by_cases hlt1 : k < m.t.length
    · obtain ⟨g, o, cap2, hv, _, hg, hc⟩ := HT.out.resolve_left (fun h => by rw [h.1] at hlt1; simp at hlt1)
      injection hv with hv1 hv2 hv3
      subst hv1 hv3
      have d0 := hc.below HB.out hg k hlt1
      have HC : Hid _ := cnt_take [] m.t x k hlt1
      simp only [List.nil_append] at HC
      have hcl : (m.t.take k).count x ≤ 1048576 := Nat.le_trans List.count_le_length (by rw [List.length_take]; omega)
      generalize (m.t.take k).count x = c at *
      generalize m.t[k] = y at *
      have hk0 : (0 : Int) ≤ (k : Int) := by omega
      have hk1 : (k : Int) < (m.t.length : Int) := by omega
      have hc0 : (0 : Int) ≤ (c : Int) := by omega
      have hc1 : (c : Int) ≤ 1048576 := by omega
      clear hc hv2
      have HL : Hid _ := l01B_any (y == x) wr
      cases hq : (y == x)
      · rw [hq] at HL HC
        simp only [Bool.false_eq_true, if_false, Int.add_zero] at HL HC
        go_wp2_with (go_at_call 47; refine Calls.mono HL.out ?_; rintro e u1 ⟨rfl, hu⟩; rw [hu]; clear hu)
        exact ⟨⟨k + 1, hlt1, by simp, by rw [HC.out], trivial⟩, by simp [intOf]; omega⟩
      · rw [hq] at HL HC
        simp only [if_true] at HL HC
        go_wp2_with (go_at_call 47; refine Calls.mono HL.out ?_; rintro e u1 ⟨rfl, hu⟩; rw [hu]; clear hu)
        exact ⟨⟨k + 1, hlt1, by simp, by rw [HC.out], trivial⟩, by simp [intOf]; omega⟩
    · obtain rfl : k = m.t.length := by omega
      have e0 : (m.t.take m.t.length).count x = (upE m 0).count x := by rw [List.take_length, upE_zero]
      rw [e0]
      clear e0
      go_wp2
      go_loopw [5, 7] (fun o i w2 => ∃ k : Nat, k ≤ m.s.length ∧ i = .int .i64 k ∧ o = .int .i64 ((upE m k).count x : Nat) ∧ w2 = wr) (fun _ i _ => m.s.length - (intOf i).toNat)
      case atStart => exact ⟨0, Nat.zero_le _, rfl, rfl, rfl⟩
      case round =>
        obtain ⟨k, hk, rfl, rfl, rfl⟩ := hrel
        by_cases hlt2 : k < m.s.length
        · have hkq : k < qs.length := by rw [HQL.out]; exact hlt2
          obtain ⟨g, o, cap2, hv, _, hg, hc⟩ := HN.out.resolve_left (fun h => by rw [h.1] at hkq; simp at hkq)
          injection hv with hv1 hv2 hv3
          subst hv1 hv3
          obtain ⟨d0, d1⟩ := hc.below HB.out hg k hkq
          obtain ⟨q0, q2⟩ := HI.out.el k hkq hlt2
          obtain ⟨az, kz, hzt⟩ := q2.sl
          have htl : tlV m (k + 1) = m.s[k].t := by simp [tlV, List.getD_eq_getElem?_getD, List.getElem?_eq_getElem hlt2]
          have HT2 : Hid (Irow w (.slice az m.s[k].t.length kz) m.s[k].t) := (show Irow w (.slice az m.s[k].t.length kz) m.s[k].t by rw [← hzt]; exact q2)
          have HUP : Hid (upE m (k + 1) = upE m k ++ m.s[k].t) := (show _ = _ by rw [upE_succ, htl])
          have HLN : Hid ((upE m k ++ m.s[k].t).length ≤ 1048576) := (show _ ≤ _ by rw [← HUP.out]; exact HE.out (k + 1) hlt2)
          have hln := HLE.out k hlt2
          rw [hzt] at d1
          generalize m.s[k].t = ts at *
          generalize upE m k = es at *
          clear hc hzt q0 q2 htl hv2
          have hk0 : (0 : Int) ≤ (k : Int) := by omega
          have hk1 : (k : Int) < (m.s.length : Int) := by omega
          go_wp2
          go_loopw [5, 8] (fun o i w3 => ∃ j : Nat, j ≤ ts.length ∧ i = .int .i64 j ∧ o = .int .i64 ((es ++ ts.take j).count x : Nat) ∧ w3 = wr) (fun _ i _ => ts.length - (intOf i).toNat)
          case atStart => exact ⟨0, Nat.zero_le _, rfl, by simp, rfl⟩
          case round =>
            obtain ⟨j, hj, rfl, rfl, rfl⟩ := hrel
            by_cases hlt3 : j < ts.length
            · obtain ⟨g3, o3, cap3, hv, _, hg3, hc3⟩ := HT2.out.resolve_left (fun h => by rw [h.1] at hlt3; simp at hlt3)
              injection hv with hv1 hv2 hv3
              subst hv1 hv3
              have d2 := hc3.below HB.out hg3 j hlt3
              have HC : Hid _ := cnt_take es ts x j hlt3
              have hcl : (es ++ ts.take j).count x ≤ 1048576 := Nat.le_trans List.count_le_length (by
                have := HLN.out
                rw [List.length_append] at this ⊢
                rw [List.length_take]
                omega)
              generalize (es ++ ts.take j).count x = c at *
              generalize ts[j] = y at *
              have hj0 : (0 : Int) ≤ (j : Int) := by omega
              have hj1 : (j : Int) < (ts.length : Int) := by omega
              have hc0 : (0 : Int) ≤ (c : Int) := by omega
              have hc1 : (c : Int) ≤ 1048576 := by omega
              clear hc3 hv2
              have HL : Hid _ := fun u => l01B_any (y == x) u
              cases hq : (y == x)
              · rw [hq] at HL HC
                simp only [Bool.false_eq_true, if_false, Int.add_zero] at HL HC
                go_wp2_with (go_at_call 47; refine Calls.mono (HL.out _) ?_; rintro e u1 ⟨rfl, hu⟩; rw [hu]; clear hu)
                exact ⟨⟨j + 1, hlt3, by simp, by rw [HC.out], trivial⟩, by simp [intOf]; omega⟩
              · rw [hq] at HL HC
                simp only [if_true] at HL HC
                go_wp2_with (go_at_call 47; refine Calls.mono (HL.out _) ?_; rintro e u1 ⟨rfl, hu⟩; rw [hu]; clear hu)
                exact ⟨⟨j + 1, hlt3, by simp, by rw [HC.out], trivial⟩, by simp [intOf]; omega⟩
            · obtain rfl : j = ts.length := by omega
              have HX : Hid ((es ++ ts.take ts.length).count x = (upE m (k + 1)).count x) := (show _ = _ by rw [List.take_length, HUP.out])
              generalize (es ++ ts.take ts.length).count x = c at *
              go_wp2
              exact ⟨⟨k + 1, hlt2, by simp, by rw [HX.out], trivial⟩, by simp [intOf]; omega⟩
        · obtain rfl : k = m.s.length := by omega
          have HX : Hid ((upE m m.s.length).count x = (allE m).count x) := (show _ = _ from rfl)
          generalize (upE m m.s.length).count x = c at *
          go_wp2
          go_ret
          exact ⟨ret_int (by rw [HX.out]), HB.out⟩
end Go.Proofs.Ytaobbddecmhpnaa
