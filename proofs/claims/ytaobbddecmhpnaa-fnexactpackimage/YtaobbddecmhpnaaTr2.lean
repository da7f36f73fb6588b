import Derived.Test.YtaobbddecmhpnaaTr1
namespace Go.Proofs.Ytaobbddecmhpnaa
open Go.RowKit Go.Shelf
attribute [local go_sem] Oper.semAt_some

/-- All tables of an image are right. -/
def tsB (m : IM) : Bool := decide (∀ j, j < m.s.length + 1 → tblB m.d.length m.t.length (tlV m j) = true)
theorem tsB_no {m : IM} {j : Nat} (hj : j < m.s.length + 1) (h : tblB m.d.length m.t.length (tlV m j) = false) : tsB m = false :=
  decide_eq_false (fun h2 => by rw [h2 j hj] at h; cases h)
theorem keeps_below {B : Nat} {W W' : World} (h : Below W.heap.size W W') : KeepsFrom B W W' :=
  ⟨h.size, fun k _ _ hk _ => (h.block k (Array.getElem?_eq_some_iff.1 hk).1).trans hk⟩
theorem kt_below {n0 Bm : Nat} {W W' : World} (h : Below W.heap.size W W') (h0 : n0 ≤ W.heap.size) (hB : Bm < W.heap.size) : Kt n0 Bm W W' :=
  ⟨h.mono h0, h.block Bm hB⟩
theorem any_not {d n : Nat} {t : List Int} (hn : t.length = n) : t.any (fun e => !enB d e) = !tblB d n t := by
  cases hq : t.any (fun e => !enB d e) with
  | false =>
    have h2 := List.any_eq_false.1 hq
    have : tblB d n t = true := decide_eq_true ⟨hn, fun k hk => by have := h2 t[k] (List.getElem_mem hk); simpa using this⟩
    rw [this]; rfl
  | true =>
    obtain ⟨e, he, h2⟩ := List.any_eq_true.1 hq
    obtain ⟨k, hk, rfl⟩ := List.getElem_of_mem he
    rw [tblB_no hk (by simpa using h2)]; rfl
theorem own_cells_b {b : Nat} {v : Value} {β : Type} : Own (fun (_ : β) W => W.cell? ⟨b, 0, none⟩ = some v ∧ W.frozen? ⟨b, 0, none⟩ = false) :=
  fun _ _ _ _ hs hg hr => ⟨cell_kept hs.1 hg hr, (frozen_kept hs.1 hg hr).trans hs.2⟩
set_option maxRecDepth 100000 in
set_option maxHeartbeats 4000000 in
theorem tablesRight_any {w : World} {B : Nat} {m : IM} {a : IA} (hP : PB w B m a) (hl : m.d.length ≤ 1048576) (hs : m.s.length ≤ 1048576) (ht : ∀ j, j < m.s.length + 1 → (tlV m j).length ≤ 1048576) : Calls Try.prog 39 #[.pointer (some ⟨B, 0, none⟩)] w fun r w' => r = .returned (.bool (tsB m)) ∧ Below w.heap.size w w' := by
  refine (callsIn_wide (n := 5)).1 ?_
  refine callsIn_of_wp_marks Try.func39 rfl trivial ?_ rfl
  simp only [Try.ntmps39, List.size_toArray, List.length_cons, List.length_nil, Nat.reduceAdd, Nat.reduceSub, Array.replicate_succ, Array.replicate_zero, List.push_toArray, List.append_toArray, List.nil_append, List.cons_append]
  gi_wp2_with (refine ⟨trivial, ?_⟩; gi_at_call 52; refine (callsIn_wide.2 (tables_in _ _)).mono ?_; rintro e w' ⟨rfl, rfl⟩)
  obtain ⟨V0, hV0⟩ : ∃ V, V = (((w.alloc (.cells #[.pointer (some ⟨B, 0, none⟩)] 64)).alloc (.cells #[.bool false] 4)).alloc (.cells #[.pointer (some ⟨B, 0, none⟩)] 64)) := ⟨_, rfl⟩
  have hB0 : Below w.heap.size w V0 := by rw [hV0]; exact (((Below.refl _ w).alloc (Nat.le_refl _) _).alloc (by simp) _).alloc (by simp; omega) _
  have hsz : V0.heap.size = w.heap.size + 3 := by rw [hV0]; simp
  have b0 : V0.heap[w.heap.size]? = some (.cells #[.pointer (some ⟨B, 0, none⟩)] 64) := by
    rw [hV0, Below.heap_alloc _ _ _ (by simp; omega), Below.heap_alloc _ _ _ (by simp)]; exact heap_new _ _
  have b1 : V0.heap[w.heap.size + 1]? = some (.cells #[.bool false] 4) := by
    rw [hV0, Below.heap_alloc _ _ _ (by simp)]; simpa using heap_new (w.alloc (.cells #[.pointer (some ⟨B, 0, none⟩)] 64)) (.cells #[.bool false] 4)
  have b2 : V0.heap[w.heap.size + 1 + 1]? = some (.cells #[.pointer (some ⟨B, 0, none⟩)] 64) := by
    rw [hV0]; simpa using heap_new ((w.alloc (.cells #[.pointer (some ⟨B, 0, none⟩)] 64)).alloc (.cells #[.bool false] 4)) (.cells #[.pointer (some ⟨B, 0, none⟩)] 64)
  have c0 : V0.cell? ⟨w.heap.size, 0, none⟩ = some (.pointer (some ⟨B, 0, none⟩)) ∧ V0.frozen? ⟨w.heap.size, 0, none⟩ = false := by simp [World.cell?, World.frozen?, b0]
  have c1 : V0.cell? ⟨w.heap.size + 1, 0, none⟩ = some (.bool false) ∧ V0.frozen? ⟨w.heap.size + 1, 0, none⟩ = false := by simp [World.cell?, World.frozen?, b1]
  have c2 : V0.cell? ⟨w.heap.size + 1 + 1, 0, none⟩ = some (.pointer (some ⟨B, 0, none⟩)) := by simp [World.cell?, b2]
  rw [← hV0]
  clear hV0 b0 b1 b2
  refine wpIn_rangeFunc_ownG rfl (by omega) (gf := 61) (lb := #[.pointer (some ⟨w.heap.size + 1 + 1, 0, none⟩)]) rfl trivial (enters_of Try.func61 (by kernel_rfl) rfl)
    (tables_stops 4 (by omega) (w.heap.size + 1 + 1) B m a w V0 hP hB0 (by omega) c2 hs) (fun h k => Kt.trans h k)
    (fun W l o o' h1 h2 h3 h4 => ⟨belowK_b (w := V0) (by omega) W l o o' h1 h2 h3 h4, (grownBy_putObj' W l o').block _ (by have := (Array.getElem?_eq_some_iff.1 h2).1; omega) (by simp; omega)⟩) (Below.refl _ _) (fun _ => rfl)
    (fun pre W => ((∀ x ∈ pre, tblB m.d.length m.t.length (tlV m x.1) = true) ∧ (W.cell? ⟨w.heap.size, 0, none⟩ = some (.pointer (some ⟨B, 0, none⟩)) ∧ W.frozen? ⟨w.heap.size, 0, none⟩ = false) ∧ (W.cell? ⟨w.heap.size + 1, 0, none⟩ = some (.bool false) ∧ W.frozen? ⟨w.heap.size + 1, 0, none⟩ = false) ∧ w.heap.size + 3 ≤ W.heap.size) ∧ Below w.heap.size w W)
    (fun c _ W => (c = .ret ∧ tsB m = false ∧ W.cell? ⟨w.heap.size + 1, 0, none⟩ = some (.bool false)) ∧ Below w.heap.size w W)
    (OwnFrom.and (Own.from (fun s A B row hs hg hr => ⟨hs.1, ⟨cell_kept hs.2.1.1 hg hr, (frozen_kept hs.2.1.1 hg hr).trans hs.2.1.2⟩, ⟨cell_kept hs.2.2.1.1 hg hr, (frozen_kept hs.2.2.1.1 hg hr).trans hs.2.2.1.2⟩, Nat.le_trans hs.2.2.2 hg.size⟩) _) (ownFrom_below (Nat.le_refl _) (by omega)))
    (fun c => OwnFrom.and (Own.from (fun s A B row hs hg hr => ⟨hs.1, hs.2.1, cell_kept hs.2.2 hg hr⟩) _) (ownFrom_below (Nat.le_refl _) (by omega)))
    ⟨⟨by simp, c0, c1, by omega⟩, hB0⟩
    (fun x => { tmps := #[.pointer (some ⟨B, 0, none⟩), .pointer (some ⟨w.heap.size, 0, none⟩), .pointer (some ⟨w.heap.size + 1, 0, none⟩), tvV a x.1, .pointer (some ⟨B, 0, none⟩), .func (.func 61) #[] #[.pointer (some ⟨w.heap.size + 1 + 1, 0, none⟩)], tvV a x.1, undef, undef, undef, undef, undef, undef, undef, undef, undef, undef, undef], defers := [] }) ?assign ?body ?done ?stop
  case assign =>
    intro l x W K hK
    gi_wp2
    exact hK
  case body =>
    rintro l pre x W ⟨⟨hal, ⟨e0, f0⟩, ⟨e1, f1⟩, hszW⟩, hB⟩ _
    obtain ⟨ax, kx, hx⟩ := (tv_row hP.row x.1 x.2).sl
    have hPW := hP.below hB
    have d2 := hPW.c2
    obtain ⟨at2, kt2, ht2⟩ := hPW.row.t.sl
    rw [ht2] at d2
    have HR : Hid (Irow W (tvV a x.1) (tlV m x.1)) := tv_row hPW.row x.1 x.2
    rw [hx] at HR ⊢
    have HAL : Hid (∀ x ∈ pre, tblB m.d.length m.t.length (tlV m x.1) = true) := hal
    have HB : Hid (Below w.heap.size w W) := hB
    have HNO : Hid (tblB m.d.length m.t.length (tlV m x.1) = false → tsB m = false) := fun h => tsB_no x.2 h
    have hlx := ht x.1 x.2
    by_cases hq : (tlV m x.1).length = m.t.length
    · have HC : Hid _ := containsI_any HR.out hlx 54 #[.pointer (some ⟨w.heap.size, 0, none⟩)] (fun e => !enB m.d.length e) (fun xs w' => by kernel_rfl) (fun y w' hb => Calls.mono (notEntry_any (hPW.below hb) hl (((bcell hb).1 w.heap.size 0 (by omega)).trans e0) y) (fun r w'' ⟨h1, h2⟩ => ⟨h1, by rw [h2]; exact Below.refl _ _⟩))
      rw [any_not hq] at HC
      have HPX : Hid (tblB m.d.length m.t.length (tlV m x.1) = true → ∀ y ∈ pre ++ [x], tblB m.d.length m.t.length (tlV m y.1) = true) := fun h y hy => (List.mem_append.1 hy).elim (HAL.out y) (fun e => by simp at e; subst e; exact h)
      generalize tblB m.d.length m.t.length (tlV m x.1) = g at *
      clear hPW hal hB hx ht2 HR
      rw [hq] at HC ⊢
      cases g
      · have hno := HNO.out rfl
        gi_wp2_with (refine ⟨trivial, ?_⟩; gi_at_call 53; refine (CallsIn.inRound l (callsIn_wide.2 HC.out)).mono ?_; rintro e u1 ⟨rfl, hu1⟩; have g1 := ((bcell hu1).1 (w.heap.size + 1) 0 (by omega)).trans e1; have g2 := ((bcell hu1).2 (w.heap.size + 1) 0 (by omega)).trans f1)
        exact ⟨(keeps_below hu1).trans ((KeepsOthers.setCell _ _ _).from _), ⟨rfl, hno, World.cell?_setCell_same' _ _ _ (by rw [g1]; rfl)⟩, (HB.out.trans (hu1.mono HB.out.size)).setCell (p := ⟨w.heap.size + 1, 0, none⟩) (by simp) _⟩
      · have hpx := HPX.out rfl
        have HPX2 : Hid (∀ y ∈ pre ++ [x], tblB m.d.length m.t.length (tlV m y.1) = true) := hpx
        clear hpx HPX
        gi_wp2_with (refine ⟨trivial, ?_⟩; gi_at_call 53; refine (CallsIn.inRound l (callsIn_wide.2 HC.out)).mono ?_; rintro e u1 ⟨rfl, hu1⟩; have g1 := ((bcell hu1).1 (w.heap.size + 1) 0 (by omega)).trans e1; have g2 := ((bcell hu1).2 (w.heap.size + 1) 0 (by omega)).trans f1)
        exact ⟨keeps_below hu1, kt_below hu1 (by omega) (by omega), ⟨HPX2.out, ⟨((bcell hu1).1 w.heap.size 0 (by omega)).trans e0, ((bcell hu1).2 w.heap.size 0 (by omega)).trans f0⟩, ⟨g1, g2⟩, Nat.le_trans hszW hu1.size⟩, HB.out.trans (hu1.mono HB.out.size)⟩
    · have hno := HNO.out (decide_eq_false (fun h => hq h.1))
      have hqb : (((tlV m x.1).length : Int) == (m.t.length : Int)) = false := by simp; omega
      clear hPW hal hB hx ht2 HR HNO
      gi_wp2
      exact ⟨(KeepsOthers.setCell _ _ _).from _, ⟨rfl, hno, World.cell?_setCell_same' _ _ _ (by rw [e1]; rfl)⟩, HB.out.setCell (p := ⟨w.heap.size + 1, 0, none⟩) (by simp) _⟩
  case done =>
    rintro D ys W hD hup ⟨⟨hal, _, ⟨e1, f1⟩, _⟩, hB⟩ hK
    have hyes : tsB m = true := decide_eq_true (fun j hj => by
      have hm : j ∈ ys.map (·.val) := by rw [hup]; exact List.mem_range.2 hj
      obtain ⟨y, hy, rfl⟩ := List.mem_map.1 hm
      exact hal y hy)
    gi_wp2
    have hK' := (KeepsOthers.setCell W ⟨w.heap.size + 1, 0, none⟩ (.bool true)).same D _ hK rfl
    refine ⟨by simp, .inl ⟨_, _, rfl, run_takeDeferred hK', ?_⟩⟩
    have hc5 := cell_kept (World.cell?_setCell_same' W ⟨w.heap.size + 1, 0, none⟩ (.bool true) (by rw [e1]; rfl)) (grownBy_putObj' _ D (.deferred none)) (fun r e => by cases e; exact ⟨_, hK', rfl⟩)
    refine ⟨.bool true, ?_, by rw [hyes], (hB.setCell (p := ⟨w.heap.size + 1, 0, none⟩) (by simp) _).trans (belowK_b (w := w) (Nat.le_refl _) _ D _ _ (by omega) hK' rfl rfl)⟩
    simp [results, Try.f39, go_sem, hc5]
  case stop =>
    rintro D c pre W hD _ ⟨⟨rfl, hno, hcr⟩, hB⟩ hK
    gi_wp2
    refine ⟨by simp, .inl ⟨_, _, rfl, run_takeDeferred hK, ?_⟩⟩
    have hc5 := cell_kept hcr (grownBy_putObj' _ D (.deferred none)) (fun r e => by cases e; exact ⟨_, hK, rfl⟩)
    refine ⟨.bool false, ?_, by rw [hno], hB.trans (belowK_b (w := w) (Nat.le_refl _) W D _ _ (by omega) hK rfl rfl)⟩
    simp [results, Try.f39, go_sem, hc5]
end Go.Proofs.Ytaobbddecmhpnaa
