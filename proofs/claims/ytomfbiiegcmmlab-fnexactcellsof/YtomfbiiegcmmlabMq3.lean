import Derived.RegionIn
import Derived.Test.YtomfbiiegcmmlabMq2
namespace Go.Proofs.Ytomfbiiegcmmlab
open Go.RowKit Go.Shelf
attribute [local go_sem] Oper.semAt_some

theorem slots_stops (n : Nat) (hn : 1 ≤ n) (Bm B : Nat) (h : MH) (a : HA) (w w1 : World) (hQ : QH w B h a) (hg8 : h.gs.length ≤ 8) (hs32 : ∀ k (hk : k < h.gs.length), h.gs[k].ss.length ≤ 32) (hw : Below w.heap.size w w1) (hBl : Bm < w1.heap.size) (hBm : w1.cell? ⟨Bm, 0, none⟩ = some (.pointer (some ⟨B, 0, none⟩))) :
    SeqStopsK Fence.wide n Try.prog 135 #[.pointer (some ⟨Bm, 0, none⟩)] (fun x : TS h => #[ptV a h x.1]) (Kt w.heap.size Bm) (fun ys => upU h (allS h).length ys) (fun _ => True) (allS h).length w1 := fun l J Jx W hW _ _ hY h0 =>
  slots1_in n hn l Bm B h a w hQ hg8 hs32 J Jx hY W (hw.trans (hW.mono hw.size)) ((hW.cell (p := ⟨Bm, 0, none⟩) hBl).trans hBm) h0
set_option maxHeartbeats 1000000 in
theorem slots_in (p : Addr) (w : World) : Calls Try.prog 107 #[.pointer (some p)] w fun e w' => e = .returned (.func (.func 135) #[] #[.pointer (some ⟨w.heap.size, 0, none⟩)]) ∧ w' = w.alloc (.cells #[.pointer (some p)] 73) := by
  go_enter Try.func107, Try.ntmps107
  go_wp2
  go_ret
  exact ⟨rfl, rfl⟩
/-- All slots are right. -/
def arB (h : MH) : Bool := (allS h).all (slB h)
theorem arB_no {h : MH} (x : TS h) (hx : slB h (allS h)[x.1] = false) : arB h = false := by
  unfold arB
  rw [List.all_eq_false]
  exact ⟨_, List.getElem_mem x.2, by rw [hx]; decide⟩
theorem keeps_below {B : Nat} {W W' : World} (h : Below W.heap.size W W') : KeepsFrom B W W' :=
  ⟨h.size, fun k _ _ hk _ => (h.block k (Array.getElem?_eq_some_iff.1 hk).1).trans hk⟩
theorem kt_below {n0 Bm : Nat} {W W' : World} (h : Below W.heap.size W W') (h0 : n0 ≤ W.heap.size) (hB : Bm < W.heap.size) : Kt n0 Bm W W' :=
  ⟨h.mono h0, h.block Bm hB⟩
set_option maxRecDepth 100000 in
set_option maxHeartbeats 8000000 in
theorem slotsRight_any {w : World} {B : Nat} {h : MH} {a : HA} (hQ : QH w B h a) (hlc : h.cs.length ≤ 1048576) (hlp : h.ps.length ≤ 1048576) (hg8 : h.gs.length ≤ 8) (hs32 : ∀ k (hk : k < h.gs.length), h.gs[k].ss.length ≤ 32) : Calls Try.prog 72 #[.pointer (some ⟨B, 0, none⟩)] w fun r w' => r = .returned (.bool (arB h)) ∧ Below w.heap.size w w' := by
  refine (callsIn_wide (n := 5)).1 ?_
  refine callsIn_of_wp_marks Try.func72 rfl trivial ?_ rfl
  simp only [Try.ntmps72, List.size_toArray, List.length_cons, List.length_nil, Nat.reduceAdd, Nat.reduceSub, Array.replicate_succ, Array.replicate_zero, List.push_toArray, List.append_toArray, List.nil_append, List.cons_append]
  gi_wp2_with (refine ⟨trivial, ?_⟩; gi_at_call 107; refine (callsIn_wide.2 (slots_in _ _)).mono ?_; rintro e w' ⟨rfl, rfl⟩)
  obtain ⟨V0, hV0⟩ : ∃ V, V = (((w.alloc (.cells #[.pointer (some ⟨B, 0, none⟩)] 73)).alloc (.cells #[.bool false] 4)).alloc (.cells #[.pointer (some ⟨B, 0, none⟩)] 73)) := ⟨_, rfl⟩
  have hB0 : Below w.heap.size w V0 := by rw [hV0]; exact (((Below.refl _ w).alloc (Nat.le_refl _) _).alloc (by simp) _).alloc (by simp; omega) _
  have hsz : V0.heap.size = w.heap.size + 3 := by rw [hV0]; simp
  have b0 : V0.heap[w.heap.size]? = some (.cells #[.pointer (some ⟨B, 0, none⟩)] 73) := by
    rw [hV0, Below.heap_alloc _ _ _ (by simp; omega), Below.heap_alloc _ _ _ (by simp)]; exact heap_new _ _
  have b1 : V0.heap[w.heap.size + 1]? = some (.cells #[.bool false] 4) := by
    rw [hV0, Below.heap_alloc _ _ _ (by simp)]; simpa using heap_new (w.alloc (.cells #[.pointer (some ⟨B, 0, none⟩)] 73)) (.cells #[.bool false] 4)
  have b2 : V0.heap[w.heap.size + 1 + 1]? = some (.cells #[.pointer (some ⟨B, 0, none⟩)] 73) := by
    rw [hV0]; simpa using heap_new ((w.alloc (.cells #[.pointer (some ⟨B, 0, none⟩)] 73)).alloc (.cells #[.bool false] 4)) (.cells #[.pointer (some ⟨B, 0, none⟩)] 73)
  have c0 : V0.cell? ⟨w.heap.size, 0, none⟩ = some (.pointer (some ⟨B, 0, none⟩)) ∧ V0.frozen? ⟨w.heap.size, 0, none⟩ = false := by simp [World.cell?, World.frozen?, b0]
  have c1 : V0.cell? ⟨w.heap.size + 1, 0, none⟩ = some (.bool false) ∧ V0.frozen? ⟨w.heap.size + 1, 0, none⟩ = false := by simp [World.cell?, World.frozen?, b1]
  have c2 : V0.cell? ⟨w.heap.size + 1 + 1, 0, none⟩ = some (.pointer (some ⟨B, 0, none⟩)) := by simp [World.cell?, b2]
  rw [← hV0]
  clear hV0 b0 b1 b2
  refine wpIn_rangeFunc_ownG rfl (by omega) (gf := 135) (lb := #[.pointer (some ⟨w.heap.size + 1 + 1, 0, none⟩)]) rfl trivial (enters_of Try.func135 (by kernel_rfl) rfl)
    (slots_stops 4 (by omega) (w.heap.size + 1 + 1) B h a w V0 hQ hg8 hs32 hB0 (by omega) c2) (fun h k => Kt.trans h k)
    (fun W l o o' h1 h2 h3 h4 => ⟨belowK_b (w := V0) (by omega) W l o o' h1 h2 h3 h4, (grownBy_putObj' W l o').block _ (by have := (Array.getElem?_eq_some_iff.1 h2).1; omega) (by simp; omega)⟩) (Below.refl _ _) (fun _ => rfl)
    (fun pre W => ((∀ x ∈ pre, slB h (allS h)[x.1] = true) ∧ (W.cell? ⟨w.heap.size, 0, none⟩ = some (.pointer (some ⟨B, 0, none⟩)) ∧ W.frozen? ⟨w.heap.size, 0, none⟩ = false) ∧ (W.cell? ⟨w.heap.size + 1, 0, none⟩ = some (.bool false) ∧ W.frozen? ⟨w.heap.size + 1, 0, none⟩ = false) ∧ w.heap.size + 3 ≤ W.heap.size) ∧ Below w.heap.size w W)
    (fun c _ W => (c = .ret ∧ arB h = false ∧ W.cell? ⟨w.heap.size + 1, 0, none⟩ = some (.bool false)) ∧ Below w.heap.size w W)
    (OwnFrom.and (Own.from (fun s A B row hs hg hr => ⟨hs.1, ⟨cell_kept hs.2.1.1 hg hr, (frozen_kept hs.2.1.1 hg hr).trans hs.2.1.2⟩, ⟨cell_kept hs.2.2.1.1 hg hr, (frozen_kept hs.2.2.1.1 hg hr).trans hs.2.2.1.2⟩, Nat.le_trans hs.2.2.2 hg.size⟩) _) (ownFrom_below (Nat.le_refl _) (by omega)))
    (fun c => OwnFrom.and (Own.from (fun s A B row hs hg hr => ⟨hs.1, hs.2.1, cell_kept hs.2.2 hg hr⟩) _) (ownFrom_below (Nat.le_refl _) (by omega)))
    ⟨⟨by simp, c0, c1, by omega⟩, hB0⟩
    (fun x => { tmps := #[.pointer (some ⟨B, 0, none⟩), .pointer (some ⟨w.heap.size, 0, none⟩), .pointer (some ⟨w.heap.size + 1, 0, none⟩), ptV a h x.1, .pointer (some ⟨B, 0, none⟩), .func (.func 135) #[] #[.pointer (some ⟨w.heap.size + 1 + 1, 0, none⟩)], ptV a h x.1, undef, undef, undef, undef, undef, undef], defers := [] }) ?assign ?body ?done ?stop
  case assign =>
    intro l x W K hK
    gi_wp2
    exact hK
  case body =>
    rintro l pre x W ⟨⟨hal, ⟨e0, f0⟩, ⟨e1, f1⟩, hszW⟩, hB⟩ _
    have hQW := hQ.below hB
    obtain ⟨g, o, hpv, hso⟩ := ptV_slot hQW.row x
    rw [hpv]
    have s0 := hso.c0
    have s1 := hso.c1
    have s2 := hso.c2
    have sl := hso.lt
    have HAL : Hid (∀ x ∈ pre, slB h (allS h)[x.1] = true) := hal
    have HB : Hid (Below w.heap.size w W) := hB
    have HNO : Hid (slB h (allS h)[x.1] = false → arB h = false) := fun h => arB_no x h
    have HPX : Hid (slB h (allS h)[x.1] = true → ∀ y ∈ pre ++ [x], slB h (allS h)[y.1] = true) := fun h y hy => (List.mem_append.1 hy).elim (HAL.out y) (fun e => by simp at e; subst e; exact h)
    have HC : Hid (Calls Try.prog 108 #[.pointer (some ⟨B, 0, none⟩), .agg #[.int .i64 (allS h)[x.1].kind, .int .i64 (allS h)[x.1].pos, .int .i64 (allS h)[x.1].used]] W.drew fun e w' => e = .returned (.bool (slB h (allS h)[x.1])) ∧ Below W.drew.heap.size W.drew w') := isSlot_any (hQW.below (Below.refl _ _).drew) hlc hlp _
    generalize slB h (allS h)[x.1] = gb at *
    generalize (allS h)[x.1] = y at *
    clear hQW hal hB hpv hso
    have hlw : w.heap.size < W.heap.size := by omega
    have hlw1 : w.heap.size + 1 < W.heap.size := by omega
    cases gb
    · have hno := HNO.out rfl
      gi_wp2
      gi_region_with (refine ⟨trivial, ?_⟩; gi_at_call 108; refine (CallsIn.inRound l (callsIn_wide.2 HC.out)).mono ?_; rintro e u1 ⟨rfl, hu1⟩; have hw1 : Below W.heap.size W u1 := (Below.refl _ _).drew.trans (hu1.mono (Nat.le_refl _)); have g1 := ((bcell hw1).1 (w.heap.size + 1) 0 hlw1).trans e1; have g2 := ((bcell hw1).2 (w.heap.size + 1) 0 hlw1).trans f1; clear hu1)
      all_goals gi_wp2
      all_goals exact ⟨(keeps_below hw1).trans ((KeepsOthers.setCell _ _ _).from _), ⟨rfl, hno, World.cell?_setCell_same' _ _ _ (by rw [g1]; rfl)⟩, (HB.out.trans (hw1.mono HB.out.size)).setCell (p := ⟨w.heap.size + 1, 0, none⟩) (by simp) _⟩
    · have hpx := HPX.out rfl
      have HPX2 : Hid (∀ y ∈ pre ++ [x], slB h (allS h)[y.1] = true) := hpx
      clear hpx HPX
      gi_wp2
      gi_region_with (refine ⟨trivial, ?_⟩; gi_at_call 108; refine (CallsIn.inRound l (callsIn_wide.2 HC.out)).mono ?_; rintro e u1 ⟨rfl, hu1⟩; have hw1 : Below W.heap.size W u1 := (Below.refl _ _).drew.trans (hu1.mono (Nat.le_refl _)); have g1 := ((bcell hw1).1 (w.heap.size + 1) 0 hlw1).trans e1; have g2 := ((bcell hw1).2 (w.heap.size + 1) 0 hlw1).trans f1; clear hu1)
      all_goals gi_wp2
      all_goals exact ⟨keeps_below hw1, kt_below hw1 (by omega) (by omega), ⟨HPX2.out, ⟨((bcell hw1).1 w.heap.size 0 (by omega)).trans e0, ((bcell hw1).2 w.heap.size 0 (by omega)).trans f0⟩, ⟨g1, g2⟩, Nat.le_trans hszW hw1.size⟩, HB.out.trans (hw1.mono HB.out.size)⟩
  case done =>
    rintro D ys W hD hup ⟨⟨hal, _, ⟨e1, f1⟩, _⟩, hB⟩ hK
    have hyes : arB h = true := by
      unfold arB
      rw [List.all_eq_true]
      intro z hz
      obtain ⟨j, hj, rfl⟩ := List.getElem_of_mem hz
      have hm : j ∈ ys.map (·.val) := by rw [hup]; exact List.mem_range.2 hj
      obtain ⟨y, hy, rfl⟩ := List.mem_map.1 hm
      exact hal y hy
    gi_wp2
    have hK' := (KeepsOthers.setCell W ⟨w.heap.size + 1, 0, none⟩ (.bool true)).same D _ hK rfl
    refine ⟨by simp, .inl ⟨_, _, rfl, run_takeDeferred hK', ?_⟩⟩
    have hc5 := cell_kept (World.cell?_setCell_same' W ⟨w.heap.size + 1, 0, none⟩ (.bool true) (by rw [e1]; rfl)) (grownBy_putObj' _ D (.deferred none)) (fun r e => by cases e; exact ⟨_, hK', rfl⟩)
    refine ⟨.bool true, ?_, by rw [hyes], (hB.setCell (p := ⟨w.heap.size + 1, 0, none⟩) (by simp) _).trans (belowK_b (w := w) (Nat.le_refl _) _ D _ _ (by omega) hK' rfl rfl)⟩
    simp [results, Try.f72, go_sem, hc5]
  case stop =>
    rintro D c pre W hD _ ⟨⟨rfl, hno, hcr⟩, hB⟩ hK
    gi_wp2
    refine ⟨by simp, .inl ⟨_, _, rfl, run_takeDeferred hK, ?_⟩⟩
    have hc5 := cell_kept hcr (grownBy_putObj' _ D (.deferred none)) (fun r e => by cases e; exact ⟨_, hK, rfl⟩)
    refine ⟨.bool false, ?_, by rw [hno], hB.trans (belowK_b (w := w) (Nat.le_refl _) W D _ _ (by omega) hK rfl rfl)⟩
    simp [results, Try.f72, go_sem, hc5]
end Go.Proofs.Ytomfbiiegcmmlab
