import Derived.Test.YtaobbddecmhpnaaTr2
namespace Go.Proofs.Ytaobbddecmhpnaa
open Go.RowKit Go.Shelf
attribute [local go_sem] Oper.semAt_some

/-- How many of the entries tell of each text. -/
def cR (d : Nat) (es : List Int) : List Int := (List.range d).map (fun (i : Nat) => ((es.count (i : Int) : Nat) : Int))
theorem cR_len (d : Nat) (es : List Int) : (cR d es).length = d := by simp [cR]
theorem cR_at (d : Nat) (es : List Int) (k : Nat) (hk : k < d) : (cR d es)[k]'(by rw [cR_len]; exact hk) = (es.count (k : Int) : Nat) := by simp [cR]
theorem cR_nil (d : Nat) : cR d [] = List.replicate d 0 := by
  apply List.ext_getElem
  · simp [cR]
  · intro i h1 h2
    simp [cR]
theorem cR_neg (d : Nat) (es : List Int) (e : Int) (h : e < 0) : cR d (es ++ [e]) = cR d es := by
  unfold cR
  apply List.map_congr_left
  intro i _
  rw [List.count_append, List.count_singleton, if_neg (by simp; omega)]
  rfl
theorem cR_put (d : Nat) (es : List Int) (k : Nat) : (cR d es).set k ((es.count (k : Int) : Nat) + 1 : Int) = cR d (es ++ [(k : Int)]) := by
  apply List.ext_getElem
  · simp [cR]
  · intro i h1 h2
    rw [cR_len] at h2
    rw [cR_at d _ i h2]
    by_cases e : k = i
    · subst e
      rw [List.getElem_set_self, List.count_append, List.count_singleton, if_pos (by simp)]
      simp
    · rw [List.getElem_set_ne e, cR_at d es i h2, List.count_append, List.count_singleton, if_neg (by simp; omega)]
      simp
theorem iR_set (zs : List Int) (k : Nat) (x : Int) : (iR zs).set k (.int .i64 x) = iR (zs.set k x) := by simp [iR, List.map_set]
/-- The entries of the tables that have come. -/
def flE (m : IM) (pre : List (TI m)) : List Int := pre.flatMap (fun x => tlV m x.1)
theorem flE_snoc (m : IM) (pre : List (TI m)) (x : TI m) : flE m (pre ++ [x]) = flE m pre ++ tlV m x.1 := by simp [flE]
theorem flE_len {m : IM} (h : tsB m = true) (pre : List (TI m)) : (flE m pre).length = pre.length * m.t.length := by
  have h2 := of_decide_eq_true h
  induction pre with
  | nil => simp [flE]
  | cons x pre ih =>
    have e : flE m (x :: pre) = tlV m x.1 ++ flE m pre := rfl
    have h3 : (tlV m x.1).length = m.t.length := (of_decide_eq_true (h2 x.1 x.2)).1
    rw [e, List.length_append, ih, h3, List.length_cons, Nat.succ_mul]
    omega
/-- All entries of an image. -/
def allE (m : IM) : List Int := (List.range (m.s.length + 1)).flatMap (tlV m)
theorem flE_all {m : IM} {ys : List (TI m)} (h : upT m (m.s.length + 1) ys) : flE m ys = allE m := by
  unfold allE
  rw [← h]
  simp [flE]
set_option maxRecDepth 100000 in
set_option maxHeartbeats 4000000 in
theorem tellers_any {w : World} {B : Nat} {m : IM} {a : IA} (hP : PB w B m a) (hl : m.d.length ≤ 1048576) (hs : m.s.length ≤ 8) (ht : m.t.length ≤ 64) (hr : tsB m = true) : Calls Try.prog 41 #[.pointer (some ⟨B, 0, none⟩)] w fun r w' => r = .returned (.slice (some ⟨w.heap.size, 0, none⟩) m.d.length m.d.length) ∧ w'.ownsRow w.heap.size 2 1 (.slice (some ⟨w.heap.size, 0, none⟩) m.d.length m.d.length) m.d.length (iR (cR m.d.length (allE m))) ∧ Below w.heap.size w w' := by
  have c3 := hP.c3
  obtain ⟨ad, kd, hd⟩ := hP.row.d.sl
  rw [hd] at c3
  have hmk := i_mk w m.d.length hl
  refine (callsIn_wide (n := 5)).1 ?_
  refine callsIn_of_wp_marks Try.func41 rfl trivial ?_ rfl
  simp only [Try.ntmps41, List.size_toArray, List.length_cons, List.length_nil, Nat.reduceAdd, Nat.reduceSub, Array.replicate_succ, Array.replicate_zero, List.push_toArray, List.append_toArray, List.nil_append, List.cons_append]
  gi_wp2_with (refine ⟨trivial, ?_⟩; gi_at_call 52; refine (callsIn_wide.2 (tables_in _ _)).mono ?_; rintro e w' ⟨rfl, rfl⟩)
  obtain ⟨V0, hV0⟩ : ∃ V, V = (((w.alloc (.cells (iR (List.replicate m.d.length 0)).toArray 2)).alloc (.cells #[.slice (some ⟨w.heap.size, 0, none⟩) m.d.length m.d.length] 22)).alloc (.cells #[.pointer (some ⟨B, 0, none⟩)] 64)) := ⟨_, rfl⟩
  have hB0 : Below w.heap.size w V0 := by rw [hV0]; exact (((Below.refl _ w).alloc (Nat.le_refl _) _).alloc (by simp) _).alloc (by simp; omega) _
  have hsz : V0.heap.size = w.heap.size + 3 := by rw [hV0]; simp
  have b1 : V0.heap[w.heap.size + 1]? = some (.cells #[.slice (some ⟨w.heap.size, 0, none⟩) m.d.length m.d.length] 22) := by
    rw [hV0, Below.heap_alloc _ _ _ (by simp)]; simpa using heap_new (w.alloc (.cells (iR (List.replicate m.d.length 0)).toArray 2)) (.cells #[.slice (some ⟨w.heap.size, 0, none⟩) m.d.length m.d.length] 22)
  have b2 : V0.heap[w.heap.size + 1 + 1]? = some (.cells #[.pointer (some ⟨B, 0, none⟩)] 64) := by
    rw [hV0]; simpa using heap_new ((w.alloc (.cells (iR (List.replicate m.d.length 0)).toArray 2)).alloc (.cells #[.slice (some ⟨w.heap.size, 0, none⟩) m.d.length m.d.length] 22)) (.cells #[.pointer (some ⟨B, 0, none⟩)] 64)
  have c1 : V0.cell? ⟨w.heap.size + 1, 0, none⟩ = some (.slice (some ⟨w.heap.size, 0, none⟩) m.d.length m.d.length) := by simp [World.cell?, b1]
  have c2 : V0.cell? ⟨w.heap.size + 1 + 1, 0, none⟩ = some (.pointer (some ⟨B, 0, none⟩)) := by simp [World.cell?, b2]
  have ho : V0.ownsRow w.heap.size 2 1 (.slice (some ⟨w.heap.size, 0, none⟩) m.d.length m.d.length) m.d.length (iR (cR m.d.length [])) := by
    rw [hV0, cR_nil]
    exact ((i_own0 w m.d.length hl).alloc _).alloc _
  rw [← hV0]
  clear hV0 b1 b2 hmk c3
  refine wpIn_rangeFunc_ownG rfl (by omega) (gf := 61) (lb := #[.pointer (some ⟨w.heap.size + 1 + 1, 0, none⟩)]) rfl trivial (enters_of Try.func61 (by kernel_rfl) rfl)
    (tables_stops 4 (by omega) (w.heap.size + 1 + 1) B m a w V0 hP hB0 (by omega) c2 (by omega)) (fun h k => Kt.trans h k)
    (fun W l o o' h1 h2 h3 h4 => ⟨belowK_b (w := V0) (by omega) W l o o' h1 h2 h3 h4, (grownBy_putObj' W l o').block _ (by have := (Array.getElem?_eq_some_iff.1 h2).1; omega) (by simp; omega)⟩) (Below.refl _ _) (fun _ => rfl)
    (fun pre W => (W.ownsRow w.heap.size 2 1 (.slice (some ⟨w.heap.size, 0, none⟩) m.d.length m.d.length) m.d.length (iR (cR m.d.length (flE m pre))) ∧ W.cell? ⟨w.heap.size + 1, 0, none⟩ = some (.slice (some ⟨w.heap.size, 0, none⟩) m.d.length m.d.length) ∧ w.heap.size + 3 ≤ W.heap.size) ∧ Below w.heap.size w W)
    (fun _ _ _ => False)
    (OwnFrom.and (fun s A C row hs hg hr => ⟨hs.1.kept hg (.inr (fun e => by have := (hr w.heap.size e.symm).1; omega)), cell_kept hs.2.1 hg (fun r e => (hr r e).2), Nat.le_trans hs.2.2 hg.size⟩) (ownFrom_below (Nat.le_refl _) (by omega)))
    (fun _ _ _ _ _ hs _ _ => hs)
    ⟨⟨ho, c1, by omega⟩, hB0⟩
    (fun x => { tmps := #[.pointer (some ⟨B, 0, none⟩), undef, .slice none 0 0, .pointer (some ⟨w.heap.size + 1, 0, none⟩), tvV a x.1, undef, undef, .pointer (some ⟨B, 0, none⟩), .pointer (some ⟨B, 0, none⟩), .pointer (some ⟨B, 3, none⟩), .slice ad m.d.length kd, .int .i64 m.d.length, .slice (some ⟨w.heap.size, 0, none⟩) m.d.length m.d.length, .pointer (some ⟨B, 0, none⟩), .func (.func 61) #[] #[.pointer (some ⟨w.heap.size + 1 + 1, 0, none⟩)], tvV a x.1, undef, undef, undef, undef, undef, undef, undef, undef, undef, undef, undef, undef, undef, undef, undef, undef], defers := [] }) ?assign ?body ?done ?stop
  case assign =>
    intro l x W K hK
    gi_wp2
    exact hK
  case body =>
    rintro l pre x W ⟨⟨hown, e1, hszW⟩, hB⟩ hpl
    obtain ⟨ax, kx, hx⟩ := (tv_row hP.row x.1 x.2).sl
    have hlx : (tlV m x.1).length = m.t.length := (of_decide_eq_true ((of_decide_eq_true hr) x.1 x.2)).1
    have HEN : Hid (∀ k (hk : k < (tlV m x.1).length), enB m.d.length (tlV m x.1)[k] = true) := (of_decide_eq_true ((of_decide_eq_true hr) x.1 x.2)).2
    have HR : Hid (Irow w (tvV a x.1) (tlV m x.1)) := tv_row hP.row x.1 x.2
    have HFL : Hid ((flE m pre).length ≤ 8 * 64) := (show (flE m pre).length ≤ 8 * 64 by
      rw [flE_len hr pre]
      exact Nat.mul_le_mul (by omega) ht)
    have HSN : Hid (flE m (pre ++ [x]) = flE m pre ++ tlV m x.1) := flE_snoc m pre x
    rw [hx] at HR ⊢
    have HB : Hid (Below w.heap.size w W) := hB
    have HO : Hid (W.ownsRow w.heap.size 2 1 (.slice (some ⟨w.heap.size, 0, none⟩) m.d.length m.d.length) m.d.length (iR (cR m.d.length (flE m pre)))) := hown
    have hlx2 : (tlV m x.1).length ≤ 64 := by omega
    clear hown hB hx hlx
    generalize tlV m x.1 = es at *
    generalize flE m pre = fs at *
    gi_wp2
    gi_loopw [18] (fun i wr => ∃ k : Nat, k ≤ es.length ∧ i = .int .i64 k ∧ wr.ownsRow w.heap.size 2 1 (.slice (some ⟨w.heap.size, 0, none⟩) m.d.length m.d.length) m.d.length (iR (cR m.d.length (fs ++ es.take k))) ∧ wr.cell? ⟨w.heap.size + 1, 0, none⟩ = some (.slice (some ⟨w.heap.size, 0, none⟩) m.d.length m.d.length) ∧ w.heap.size + 3 ≤ wr.heap.size ∧ KeepsFrom V0.heap.size W wr ∧ Kt w.heap.size (w.heap.size + 1 + 1) W wr) (fun i _ => es.length - (intOf i).toNat)
    case atStart => exact ⟨0, Nat.zero_le _, rfl, by rw [List.take_zero, List.append_nil]; exact HO.out, e1, hszW, KeepsFrom.refl _ _, ⟨Below.refl _ _, rfl⟩⟩
    case round =>
      obtain ⟨k, hk, rfl, hown, e1, hszr, hkf, hkt⟩ := hrel
      by_cases hlt : k < es.length
      · obtain ⟨g, o, cap2, hv, _, hg, hc⟩ := HR.out.resolve_left (fun h => by rw [h.1] at hlt; simp at hlt)
        injection hv with hv1 hv2 hv3
        subst hv1 hv3
        have hgw : g < wr.heap.size := by omega
        have hne : g ≠ w.heap.size := by omega
        have hen := of_decide_eq_true (HEN.out k hlt)
        have htk : es.take (k + 1) = es.take k ++ [es[k]] := List.take_succ_eq_append_getElem hlt
        have d0 : wr.cell? ⟨g, o + k, none⟩ = some (.int .i64 es[k]) := hc.below (HB.out.trans hkt.1) hg k hlt
        have HTK : Hid (fs ++ es.take (k + 1) = (fs ++ es.take k) ++ [es[k]]) := (show _ = _ by rw [htk, List.append_assoc])
        have HCN : Hid (∀ y : Int, (fs ++ es.take k).count y ≤ 1000) := fun y => Nat.le_trans (List.count_le_length) (by
          rw [List.length_append, List.length_take]
          have := HFL.out
          omega)
        generalize es[k] = z at *
        generalize fs ++ es.take k = qs at *
        have hk0 : (0 : Int) ≤ (k : Int) := by omega
        have hk1 : (k : Int) < (es.length : Int) := by omega
        clear hc htk hv2
        by_cases hz : z < 0
        · have hz2 : ¬ 0 ≤ z := by omega
          have HX : Hid (wr.ownsRow w.heap.size 2 1 (.slice (some ⟨w.heap.size, 0, none⟩) m.d.length m.d.length) m.d.length (iR (cR m.d.length (fs ++ es.take (k + 1))))) := (show wr.ownsRow w.heap.size 2 1 (.slice (some ⟨w.heap.size, 0, none⟩) m.d.length m.d.length) m.d.length (iR (cR m.d.length (fs ++ es.take (k + 1)))) by rw [HTK.out, cR_neg _ _ _ hz]; exact hown)
          clear hown hz
          gi_wp2
          go_roundw
          case rel => exact ⟨k + 1, hlt, by go_num, HX.out, e1, hszr, hkf, hkt⟩
          case measure => simp [intOf]; omega
        · obtain ⟨j, hj⟩ : ∃ j : Nat, z = j := ⟨z.toNat, by omega⟩
          subst hj
          have hjd : j < m.d.length := by omega
          have hj0 : (0 : Int) ≤ (j : Int) := by omega
          have hj1 : (j : Int) < (m.d.length : Int) := by omega
          have hcell := hown.cellAt j (by omega)
          have hcn := HCN.out (j : Int)
          have hfz := hown.frozenAt j
          have st := hown.stored j (.int .i64 ((qs.count (j : Int) : Nat) + 1))
          rw [iR_set, cR_put, ← HTK.out] at st
          have hce : (iR (cR m.d.length qs))[j]? = some (.int .i64 (qs.count (j : Int) : Nat)) := by
            simp [iR, cR, hjd]
          rw [hce] at hcell
          have ST : Hid _ := st
          generalize qs.count (j : Int) = c at *
          have hc0 : (0 : Int) ≤ (c : Int) := by omega
          have hc1 : (c : Int) ≤ 1000 := by omega
          clear hown st hce hz hen
          gi_wp2
          go_roundw
          case rel => exact ⟨k + 1, hlt, by go_num, ST.out.1, (World.cell?_of_block (ST.out.2.block (w.heap.size + 1) (by omega) (fun e => by injection e with e; omega))).trans e1, by have := ST.out.2.size; omega, hkf.trans (KeepsFrom.of_grownBy ST.out.2 (fun j e => by cases e; omega)), hkt.trans ⟨(Below.refl _ _).grown ST.out.2 (by omega) (fun j e => by cases e; exact Nat.le_refl _), ST.out.2.block _ (by omega) (fun e => by injection e with e; omega)⟩⟩
          case measure => simp [intOf]; omega
      · obtain rfl : k = es.length := by omega
        have HX : Hid (wr.ownsRow w.heap.size 2 1 (.slice (some ⟨w.heap.size, 0, none⟩) m.d.length m.d.length) m.d.length (iR (cR m.d.length (flE m (pre ++ [x]))))) := (show wr.ownsRow w.heap.size 2 1 (.slice (some ⟨w.heap.size, 0, none⟩) m.d.length m.d.length) m.d.length (iR (cR m.d.length (flE m (pre ++ [x])))) by rw [HSN.out]; rw [List.take_length] at hown; exact hown)
        clear hown
        gi_wp2
        exact ⟨hkf, hkt, ⟨HX.out, e1, hszr⟩, HB.out.trans hkt.1⟩
  case done =>
    rintro D ys W hD hup ⟨⟨hown, e1, _⟩, hB⟩ hK
    gi_wp2
    refine ⟨by simp, .inl ⟨_, _, rfl, run_takeDeferred hK, ?_⟩⟩
    rw [flE_all hup] at hown
    exact ⟨_, results_tmp rfl _ _ _, rfl, ownsRow_putObj hown _ hK rfl, hB.trans (belowK_b (w := w) (Nat.le_refl _) W D _ _ (by omega) hK rfl rfl)⟩
  case stop =>
    rintro D c pre W _ _ h _
    exact h.elim
end Go.Proofs.Ytaobbddecmhpnaa
