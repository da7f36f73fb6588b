import Derived.Test.YtomfbiiegcmmlabMq4
namespace Go.Proofs.Ytomfbiiegcmmlab
open Go.RowKit Go.Shelf
attribute [local go_sem] Oper.semAt_some

set_option maxRecDepth 100000 in
set_option maxHeartbeats 8000000 in
theorem leads_placeNo {w : World} {B : Nat} {h : MH} {a : HA} (hQ : QH w B h a) (hg8 : h.gs.length ≤ 8) (hs32 : ∀ k (hk : k < h.gs.length), h.gs[k].ss.length ≤ 32) {v : Value} {zs : List ByteArray} (hr : Srow w v zs) (hl : zs.length ≤ 1048576) (kd : Int) (Bm : Nat) (hBl : Bm < w.heap.size) (hBm : w.cell? ⟨Bm, 0, none⟩ = some (.pointer (some ⟨B, 0, none⟩))) : Calls Try.prog 110 #[.agg #[.int .i64 kd, v], .func (.func 135) #[] #[.pointer (some ⟨Bm, 0, none⟩)]] w fun r w' => (∃ u, r = .returned u ∧ Irow w' u (ldL zs kd (allS h))) ∧ Below w.heap.size w w' := by
  obtain ⟨ao, cap, rfl⟩ := hr.sl
  have hmk := fun u => i_mk u zs.length hl
  refine (callsIn_wide (n := 5)).1 ?_
  refine callsIn_of_wp_marks Try.func110 rfl trivial ?_ rfl
  simp only [Try.ntmps110, List.size_toArray, List.length_cons, List.length_nil, Nat.reduceAdd, Nat.reduceSub, Array.replicate_succ, Array.replicate_zero, List.push_toArray, List.append_toArray, List.nil_append, List.cons_append]
  gi_wp2
  obtain ⟨V0, hV0⟩ : ∃ V, V = (((w.alloc (.cells #[.int .i64 kd, .slice ao zs.length cap] 126)).alloc (.cells (iR (List.replicate zs.length 0)).toArray 2)).alloc (.cells #[.slice (some ⟨w.heap.size + 1, 0, none⟩) zs.length zs.length] 65)) := ⟨_, rfl⟩
  have hB0 : Below w.heap.size w V0 := by rw [hV0]; exact (((Below.refl _ w).alloc (Nat.le_refl _) _).alloc (by simp) _).alloc (by simp; omega) _
  have hsz : V0.heap.size = w.heap.size + 3 := by rw [hV0]; simp
  have b0 : V0.heap[w.heap.size]? = some (.cells #[.int .i64 kd, .slice ao zs.length cap] 126 (0, 0)) := by
    rw [hV0, Below.heap_alloc _ _ _ (by simp; omega), Below.heap_alloc _ _ _ (by simp)]; exact heap_new _ _
  have b1 : V0.heap[w.heap.size + 1]? = some (.cells (iR (ldL zs kd (slsOf h []))).toArray 2 (0, 0)) := by
    rw [show slsOf h [] = [] from rfl, ldL_nil]
    rw [hV0, Below.heap_alloc _ _ _ (by simp)]; simpa using heap_new (w.alloc (.cells #[.int .i64 kd, .slice ao zs.length cap] 126)) (.cells (iR (List.replicate zs.length 0)).toArray 2)
  have b2 : V0.heap[w.heap.size + 1 + 1]? = some (.cells #[.slice (some ⟨w.heap.size + 1, 0, none⟩) zs.length zs.length] 65 (0, 0)) := by
    rw [hV0]; simpa using heap_new ((w.alloc (.cells #[.int .i64 kd, .slice ao zs.length cap] 126)).alloc (.cells (iR (List.replicate zs.length 0)).toArray 2)) (.cells #[.slice (some ⟨w.heap.size + 1, 0, none⟩) zs.length zs.length] 65)
  rw [← hV0]
  clear hV0 hmk
  refine wpIn_rangeFunc_ownG rfl (by omega) (gf := 135) (lb := #[.pointer (some ⟨Bm, 0, none⟩)]) rfl trivial (enters_of Try.func135 (by kernel_rfl) rfl)
    (slots_stops 4 (by omega) Bm B h a w V0 hQ hg8 hs32 hB0 (by omega) (((hB0.cell (p := ⟨Bm, 0, none⟩) hBl)).trans hBm)) (fun h k => Kt.trans h k)
    (fun W l o o' h1 h2 h3 h4 => ⟨belowK_b (w := V0) (by omega) W l o o' h1 h2 h3 h4, (grownBy_putObj' W l o').block _ (by have := (Array.getElem?_eq_some_iff.1 h2).1; omega) (by simp; omega)⟩) (Below.refl _ _) (fun _ => rfl)
    (fun pre W => (W.heap[w.heap.size]? = some (.cells #[.int .i64 kd, .slice ao zs.length cap] 126 (0, 0)) ∧ W.heap[w.heap.size + 1]? = some (.cells (iR (ldL zs kd (slsOf h pre))).toArray 2 (0, 0)) ∧ W.heap[w.heap.size + 1 + 1]? = some (.cells #[.slice (some ⟨w.heap.size + 1, 0, none⟩) zs.length zs.length] 65 (0, 0)) ∧ w.heap.size + 3 ≤ W.heap.size) ∧ Below w.heap.size w W)
    (fun _ _ W => False ∧ Below w.heap.size w W)
    (OwnFrom.and (Own.from (fun s A B row hs hg hr => ⟨(grownBy_keeps_cells hg hr hs.1 rfl).trans hs.1, (grownBy_keeps_cells hg hr hs.2.1 rfl).trans hs.2.1, (grownBy_keeps_cells hg hr hs.2.2.1 rfl).trans hs.2.2.1, Nat.le_trans hs.2.2.2 hg.size⟩) _) (ownFrom_below (Nat.le_refl _) (by omega)))
    (fun c => OwnFrom.and (Own.from (fun s A B row hs hg hr => hs) _) (ownFrom_below (Nat.le_refl _) (by omega)))
    ⟨⟨b0, b1, b2, by omega⟩, hB0⟩
    (fun x => { tmps := #[.agg #[.int .i64 kd, .slice ao zs.length cap], .func (.func 135) #[] #[.pointer (some ⟨Bm, 0, none⟩)], .pointer (some ⟨w.heap.size, 0, none⟩), undef, .slice none 0 0, .pointer (some ⟨w.heap.size + 1 + 1, 0, none⟩), ptV a h x.1, .pointer (some ⟨w.heap.size, 1, none⟩), .slice ao zs.length cap, .int .i64 zs.length, .slice (some ⟨w.heap.size + 1, 0, none⟩) zs.length zs.length, .func (.func 135) #[] #[.pointer (some ⟨Bm, 0, none⟩)], ptV a h x.1, undef, undef, undef, undef, undef, undef, undef, undef, undef, undef, undef, undef, undef, undef, undef], defers := [] }) ?assign ?body ?done ?stop
  case assign =>
    intro l x W K hK
    gi_wp2
    exact hK
  case body =>
    rintro l pre x W ⟨⟨e0, e1, e2, hszW⟩, hB⟩ hpl
    have hQW := hQ.below hB
    obtain ⟨g, o, hpv, hso⟩ := ptV_slot hQW.row x
    rw [hpv]
    have hg1 : g < w.heap.size := by
      obtain ⟨g2, o2, hpv2, hso2⟩ := ptV_slot hQ.row x
      rw [hpv] at hpv2
      injection hpv2 with q1
      injection q1 with q2
      injection q2 with q3 _
      rw [q3]
      exact hso2.lt
    have s0 := hso.c0
    have s1 := hso.c1
    have s2 := hso.c2
    have sl := hso.lt
    have HB : Hid (Below w.heap.size w W) := hB
    have HSO : Hid (∀ u, Below w.heap.size w u → SO u g o (allS h)[x.1]) := fun u hu => by
      obtain ⟨g2, o2, hpv2, hso2⟩ := ptV_slot (hQ.below hu).row x
      rw [hpv] at hpv2
      injection hpv2 with q1
      injection q1 with q2
      injection q2 with q3 q4
      subst q3 q4
      exact hso2
    have hW0 : w.heap.size < W.heap.size := by omega
    have hW1 : w.heap.size + 1 < W.heap.size := by omega
    have hW2 : w.heap.size + 1 + 1 < W.heap.size := by omega
    have HC : Hid (Calls Try.prog 137 #[.agg #[.int .i64 kd, .slice ao zs.length cap], .agg #[.int .i64 (allS h)[x.1].kind, .int .i64 (allS h)[x.1].pos, .int .i64 (allS h)[x.1].used]] W.drew fun e w' => e = .returned (.bool (ltB zs kd (allS h)[x.1])) ∧ Below W.drew.heap.size W.drew w') := ledTo_placeNo (hr.below (hB.trans ((Below.refl _ _).drew.mono hB.size))) hl kd _
    have HE1 : Hid (W.heap[w.heap.size + 1]? = some (.cells (iR (ldL zs kd (slsOf h pre))).toArray 2 (0, 0))) := e1
    have HE2 : Hid (W.heap[w.heap.size + 1 + 1]? = some (.cells #[.slice (some ⟨w.heap.size + 1, 0, none⟩) zs.length zs.length] 65 (0, 0))) := e2
    have HE0 : Hid (W.heap[w.heap.size]? = some (.cells #[.int .i64 kd, .slice ao zs.length cap] 126 (0, 0))) := e0
    have t0 : W.cell? ⟨w.heap.size, 0, none⟩ = some (.int .i64 kd) := by simp [World.cell?, e0]
    have t1 : W.cell? ⟨w.heap.size, 1, none⟩ = some (.slice ao zs.length cap) := by simp [World.cell?, e0]
    have HPL : Hid ((slsOf h pre).length ≤ 256) := (show (slsOf h pre).length ≤ 256 by
      have h1 : (slsOf h pre).length = pre.length := by simp [slsOf]
      have h2 : (allS h).length ≤ 256 := allS_le hg8 hs32
      omega)
    have HSN : Hid (slsOf h (pre ++ [x]) = slsOf h pre ++ [(allS h)[x.1]]) := slsOf_snoc h pre x
    generalize slsOf h pre = L1 at *
    generalize (allS h)[x.1] = y at *
    clear hQW hB hpv hso e0 e1 e2
    cases hb : ltB zs kd y with
    | false =>
      rw [hb] at HC
      have HLD : Hid (ldL zs kd (slsOf h (pre ++ [x])) = ldL zs kd L1) := (show _ = _ by rw [HSN.out]; exact ldL_skip hb)
      gi_wp2
      gi_region_with (refine ⟨trivial, ?_⟩; gi_at_call 137; refine (CallsIn.inRound l (callsIn_wide.2 HC.out)).mono ?_; rintro e v1 ⟨rfl, hu1⟩; have hw1 : Below W.heap.size W v1 := (Below.refl _ _).drew.trans (hu1.mono (Nat.le_refl _)); clear hu1)
      all_goals gi_wp2
      all_goals exact ⟨keeps_below hw1, kt_below hw1 (by omega) (by omega), ⟨(hw1.block _ hW0).trans HE0.out, by rw [HLD.out]; exact (hw1.block _ hW1).trans HE1.out, (hw1.block _ hW2).trans HE2.out, Nat.le_trans hszW hw1.size⟩, HB.out.trans (hw1.mono HB.out.size)⟩
    | true =>
      rw [hb] at HC
      obtain ⟨p, hp, hpz⟩ := ltB_pos hb
      have hpl2 : p < (ldL zs kd L1).length := by rw [ldL_len]; exact hpz
      obtain ⟨hq0, hq1⟩ := ldL_le zs kd L1 p hpl2
      obtain ⟨z, hz⟩ : ∃ z, (ldL zs kd L1)[p] = z := ⟨_, rfl⟩
      have HLD : Hid (ldL zs kd (slsOf h (pre ++ [x])) = (ldL zs kd L1).set p (z + 1)) := (show _ = _ by rw [HSN.out]; exact ldL_put hb hp hpz _ (by rw [hz]))
      rw [hz] at hq0 hq1
      have hz1 : z ≤ 256 := by have := HPL.out; omega
      have hwz : IntKind.i64.wrap (z + 1) = z + 1 := by rw [IntKind.wrap_i64]; omega
      have HCC : Hid (∀ u : World, u.heap[w.heap.size + 1]? = some (.cells (iR (ldL zs kd L1)).toArray 2 (0, 0)) → u.cell? ⟨w.heap.size + 1, p, none⟩ = some (.int .i64 z) ∧ u.frozen? ⟨w.heap.size + 1, p, none⟩ = false) := fun u hu => by
        have := cnt_cell hu p hpl2
        rw [hz] at this
        exact this
      have HSET : Hid ((iR (ldL zs kd (slsOf h (pre ++ [x])))).toArray = (iR (ldL zs kd L1)).toArray.setIfInBounds p (.int .i64 (z + 1))) := (show _ = _ by
        rw [HLD.out]
        apply Array.toList_inj.1
        simp [iR, List.map_set])
      have hp0 : (0 : Int) ≤ (p : Int) := by omega
      have hp1 : (p : Int) < (zs.length : Int) := by omega
      rw [hp] at s1 HC
      clear hb hz hq1 HLD hpl2
      gi_wp2
      gi_region_with (refine ⟨trivial, ?_⟩; gi_at_call 137; refine (CallsIn.inRound l (callsIn_wide.2 HC.out)).mono ?_; rintro e v1 ⟨rfl, hu1⟩; have hw1 : Below W.heap.size W v1 := (Below.refl _ _).drew.trans (hu1.mono (Nat.le_refl _)); clear hu1)
      all_goals (
        have hB1 : Below w.heap.size w v1 := HB.out.trans (hw1.mono HB.out.size)
        have k1 := (HSO.out v1 hB1).c1
        rw [hp] at k1
        have kl := (HSO.out v1 hB1).lt
        have f1 := (hw1.block _ hW1).trans HE1.out
        have f2 := (hw1.block _ hW2).trans HE2.out
        have f0 := (hw1.block _ hW0).trans HE0.out
        have m2 : v1.cell? ⟨w.heap.size + 1 + 1, 0, none⟩ = some (.slice (some ⟨w.heap.size + 1, 0, none⟩) zs.length zs.length) := by simp [World.cell?, f2]
        obtain ⟨m1, mf⟩ := HCC.out v1 f1
        have l2 : w.heap.size + 1 + 1 < v1.heap.size := Nat.lt_of_lt_of_le hW2 hw1.size
        have l1 : w.heap.size + 1 < v1.heap.size := by omega
        have HF0 : Hid _ := f0
        have HF1 : Hid _ := f1
        have HF2 : Hid _ := f2
        have HW1 : Hid _ := hw1
        have HB1 : Hid _ := hB1
        have HKF : Hid (KeepsFrom V0.heap.size W (v1.setCell ⟨w.heap.size + 1, p, none⟩ (.int .i64 (z + 1)))) := (keeps_below hw1).trans ((KeepsOthers.setCell _ _ _).from _)
        have HKT : Hid (Kt w.heap.size Bm W (v1.setCell ⟨w.heap.size + 1, p, none⟩ (.int .i64 (z + 1))).drew) := ⟨((hw1.mono (Nat.le_of_lt hW0)).setCell (p := ⟨w.heap.size + 1, p, none⟩) (by simp only; omega) _).drew, (Below.heap_setCell v1 ⟨w.heap.size + 1, p, none⟩ (.int .i64 (z + 1)) Bm (by simp only; omega)).trans (hw1.block Bm (by omega))⟩
        have HX0 : Hid ((v1.setCell ⟨w.heap.size + 1, p, none⟩ (.int .i64 (z + 1))).heap[w.heap.size]? = some (.cells #[.int .i64 kd, .slice ao zs.length cap] 126 (0, 0))) := (Below.heap_setCell _ _ _ _ (by simp only; omega)).trans f0
        have HX1 : Hid ((v1.setCell ⟨w.heap.size + 1, p, none⟩ (.int .i64 (z + 1))).heap[w.heap.size + 1]? = some (.cells (iR (ldL zs kd (slsOf h (pre ++ [x])))).toArray 2 (0, 0))) := (show _ = _ by rw [HSET.out]; exact blk_set f1 p _)
        have HX2 : Hid ((v1.setCell ⟨w.heap.size + 1, p, none⟩ (.int .i64 (z + 1))).heap[w.heap.size + 1 + 1]? = some (.cells #[.slice (some ⟨w.heap.size + 1, 0, none⟩) zs.length zs.length] 65 (0, 0))) := (Below.heap_setCell _ _ _ _ (by simp only; omega)).trans f2
        have HXB : Hid (Below w.heap.size w (v1.setCell ⟨w.heap.size + 1, p, none⟩ (.int .i64 (z + 1))).drew) := (hB1.setCell (p := ⟨w.heap.size + 1, p, none⟩) (by simp only; omega) _).drew
        clear f0 f1 f2 hw1 hB1)
      all_goals gi_wp2
      all_goals gi_region
      all_goals gi_wp2
      all_goals exact ⟨⟨HKF.out.size, HKF.out.same⟩, HKT.out, ⟨HX0.out, HX1.out, HX2.out, Nat.le_trans hszW (by have := HKF.out.size; exact this)⟩, HXB.out⟩
  case done =>
    rintro D ys W hD hup ⟨⟨e0, e1, e2, hszW⟩, hB⟩ hK
    rw [slsOf_all hup] at e1
    have m2 : W.cell? ⟨w.heap.size + 1 + 1, 0, none⟩ = some (.slice (some ⟨w.heap.size + 1, 0, none⟩) zs.length zs.length) := by simp [World.cell?, e2]
    gi_wp2
    refine ⟨by simp, .inl ⟨_, _, rfl, run_takeDeferred hK, ?_⟩⟩
    have e5 := (grownBy_keeps_cells (grownBy_putObj' W D (.deferred none)) (fun r e => by cases e; exact ⟨_, hK, rfl⟩) e1 rfl).trans e1
    refine ⟨.slice (some ⟨w.heap.size + 1, 0, none⟩) zs.length zs.length, ?_, ⟨_, rfl, irow_blk e5 _ (ldL_len _ _ _)⟩, hB.trans (belowK_b (w := w) (Nat.le_refl _) W D _ _ (by omega) hK rfl rfl)⟩
    simp [results, Try.f110, go_sem]
  case stop =>
    rintro D c pre W hD _ ⟨hf, _⟩ hK
    exact hf.elim
end Go.Proofs.Ytomfbiiegcmmlab
