import Derived.Test.YtjaelkagacmpkaaTFl4
namespace Go.Proofs.Ytjaelkagacmpkaa
open Go.ChangeShapes Go.WideShapes Go.ChangeAt Go.RowKit

/-- The specification's TlbFlush under way: what came in, its answer's box, the new cache at b. -/
structure SX (w u : World) (b : Nat) (v : Value) (xs : List TE) (v0 : Value) (nx : Int) : Prop where
  bel : Below w.heap.size w u
  b0 : BoxT u w.heap.size v0 nx
  b1 : u.heap[w.heap.size + 1]? = some (.cells #[.slice none 0 0, .int .i64 0] 57 (0, 0))
  lb : w.heap.size + 1 < b
  box : BoxT u b v 0
  row : u.ownsRow (w.heap.size + 2) 60 5 v xs.length (teR xs)
  ne : v.ownBlock ≠ some b
theorem SX.lt {w u : World} {b : Nat} {v : Value} {xs : List TE} {v0 : Value} {nx : Int} (h : SX w u b v xs v0 nx) : w.heap.size + 1 < u.heap.size := (Array.getElem?_eq_some_iff.1 h.b1).1
theorem SX.step {w u u' : World} {b : Nat} {v : Value} {xs : List TE} {v0 : Value} {nx : Int} (h : SX w u b v xs v0 nx) (hb : Below u.heap.size u u') : SX w u' b v xs v0 nx := by
  have := h.lt
  exact ⟨h.bel.trans (hb.mono h.bel.size), h.b0.below hb (by omega), (hb.block _ (by omega)).trans h.b1, h.lb, h.box.below hb h.box.lt, te_below h.row hb, h.ne⟩
theorem SX.app {w u w1 : World} {b g cap3 : Nat} {v : Value} {xs : List TE} {v0 : Value} {nx : Int} {m : TE} (h : SX w u b v xs v0 nx) (ho : w1.ownsRow (w.heap.size + 2) 60 5 (.slice (some ⟨g, 0, none⟩) (xs.length + 1) cap3) (xs.length + 1) (teR xs ++ teC m)) (hg : u.grownBy w1 v.ownBlock) (hl : v.ownBlock = some g ∨ g = u.heap.size) :
    BoxT w1 b v 0 ∧ SX w (w1.setCell ⟨b, 0, none⟩ (.slice (some ⟨g, 0, none⟩) (xs.length + 1) cap3)) b (.slice (some ⟨g, 0, none⟩) (xs.length + 1) cap3) (xs ++ [m]) v0 nx := by
  have hbl := h.box.lt
  have hlb := h.lb
  have hlt := h.lt
  have own : ∀ k, k < w.heap.size + 2 → some k ≠ v.ownBlock := fun k hk q => by have := (h.row.lt k q.symm).1; omega
  have bx : BoxT w1 b v 0 := (hg.block b hbl (fun q => h.ne q.symm)).trans h.box
  have x0 := (hg.block (w.heap.size) (by omega) (own _ (by omega))).trans h.b0
  have x1 := (hg.block (w.heap.size + 1) (by omega) (own _ (by omega))).trans h.b1
  have hne : (Value.slice (some ⟨g, 0, none⟩) (xs.length + 1) cap3).ownBlock ≠ some b := fun q => by
    have q2 : g = b := by simpa [Value.ownBlock] using q
    rcases hl with hl | hl
    · exact h.ne (by rw [hl, q2])
    · omega
  have hb1 : Below w.heap.size w w1 := h.bel.grown hg h.bel.size (fun j hj => by have := (h.row.lt j hj).1; omega)
  refine ⟨bx, ⟨hb1.setCell (by simp only; omega) _, (Below.heap_setCell _ _ _ _ (by simp only; omega)).trans x0, (Below.heap_setCell _ _ _ _ (by simp only; omega)).trans x1, h.lb, heap_setCell_same w1 b 0 _ _ _ bx, own_set (te_cast ho (by simp) (by rw [teR_app]; simp [teR])) hne, hne⟩⟩
theorem SX.fin {w u : World} {b : Nat} {ao : Option Addr} {n cap : Nat} {xs : List TE} {v0 : Value} {nx : Int} (h : SX w u b (.slice ao n cap) xs v0 nx) : ((u.setCell ⟨w.heap.size + 1, 0, none⟩ (.slice ao n cap)).setCell ⟨w.heap.size + 1, 1, none⟩ (.int .i64 0)).ownsRow w.heap.size 60 5 (.slice ao n cap) xs.length (teR xs) ∧ Below w.heap.size w ((u.setCell ⟨w.heap.size + 1, 0, none⟩ (.slice ao n cap)).setCell ⟨w.heap.size + 1, 1, none⟩ (.int .i64 0)) ∧ BoxT ((u.setCell ⟨w.heap.size + 1, 0, none⟩ (.slice ao n cap)).setCell ⟨w.heap.size + 1, 1, none⟩ (.int .i64 0)) (w.heap.size + 1) (.slice ao n cap) 0 := by
  have hn : (Value.slice ao n cap).ownBlock ≠ some (w.heap.size + 1) := fun q => by have := (h.row.lt _ q).1; omega
  exact ⟨te_weak (own_set (own_set h.row hn) hn) (by omega), (h.bel.setCell (by simp only; omega) _).setCell (by simp only; omega) _, putBoxT h.b1 _ _⟩
theorem al2f (w : World) (a b : Obj) : ((w.alloc a).alloc b).heap[w.heap.size]? = some a ∧ ((w.alloc a).alloc b).heap[w.heap.size + 1]? = some b := by
  refine ⟨(Below.heap_alloc _ _ _ (by simp)).trans (heap_new _ _), ?_⟩
  have := heap_new (w.alloc a) b
  simpa using this
/-- The two boxes ahead. -/
structure SX0 (w u : World) (v0 : Value) (nx : Int) : Prop where
  bel : Below w.heap.size w u
  b0 : BoxT u w.heap.size v0 nx
  b1 : u.heap[w.heap.size + 1]? = some (.cells #[.slice none 0 0, .int .i64 0] 57 (0, 0))
theorem SX0.lt {w u : World} {v0 : Value} {nx : Int} (h : SX0 w u v0 nx) : w.heap.size + 1 < u.heap.size := (Array.getElem?_eq_some_iff.1 h.b1).1
theorem SX0.step {w u u' : World} {v0 : Value} {nx : Int} (h : SX0 w u v0 nx) (hb : Below u.heap.size u u') : SX0 w u' v0 nx := by
  have := h.lt
  exact ⟨h.bel.trans (hb.mono h.bel.size), h.b0.below hb (by omega), (hb.block _ (by omega)).trans h.b1⟩
theorem SX0.new (w : World) (ao : Option Addr) (n cap : Nat) (nx : Int) : SX0 w ((w.alloc (.cells #[.slice ao n cap, .int .i64 nx] 57)).alloc (.cells #[.slice none 0 0, .int .i64 0] 57)) (.slice ao n cap) nx := by
  obtain ⟨h0, h1⟩ := al2f w (.cells #[.slice ao n cap, .int .i64 nx] 57) (.cells #[.slice none 0 0, .int .i64 0] 57)
  exact ⟨((Below.refl _ _).alloc (Nat.le_refl _) _).alloc (by simp) _, h0, h1⟩
set_option maxRecDepth 100000 in
set_option maxHeartbeats 4000000 in
theorem specFlush_bad {w : World} {ao : Option Addr} {cap : Nat} {zs : List TE} (h : TErow w (.slice ao zs.length cap) zs) (nx asid va : Int) (hl : zs.length ≤ 1048576) (hc : tlbC zs nx = 1) :
    Calls Try.prog 37 #[tlA (.slice ao zs.length cap) nx, .int .i64 asid, .int .i64 va] w fun r w' => r = .returned (tlA (.slice none 0 0) 0) ∧ Below w.heap.size w w' := by
  have HX0 : Hid (SX0 w ((w.alloc (.cells #[.slice ao zs.length cap, .int .i64 nx] 57)).alloc (.cells #[.slice none 0 0, .int .i64 0] 57)) (.slice ao zs.length cap) nx) := SX0.new w ao zs.length cap nx
  have HF := specFaultT_any (h.below (HX0.out.bel)) nx hl
  rw [hc] at HF
  have HFH : Hid _ := HF
  clear h HF hc
  unfold tlA at *
  go_enter Try.func37, Try.ntmps37
  go_wp2_with (go_at_call 76; refine Calls.mono HFH.out ?_; rintro r u1 ⟨rfl, hu1⟩; have HX : Hid (SX0 w u1 (.slice ao zs.length cap) nx) := HX0.out.step hu1; obtain ⟨k0, k1⟩ := cel2 HX.out.b1; have kf : ∀ x, u1.frozen? ⟨w.heap.size + 1, x, none⟩ = false := (fun x => by simp [World.frozen?, HX.out.b1]); have yl := HX.out.lt; clear hu1 HFH HX0)
  refine bodyPost_ret (v := .agg #[.slice none 0 0, .int .i64 0]) ?_ rfl ⟨rfl, (HX.out.bel.setCell (by simp only; omega) _).setCell (by simp only; omega) _⟩
  simp [results, Try.results37, go_sem, k0, k1]
set_option maxRecDepth 100000 in
set_option maxHeartbeats 4000000 in
theorem specFlush_good {w : World} {B : Nat} {ao : Option Addr} {cap : Nat} {zs : List TE} (h : w.ownsRow B 60 5 (.slice ao zs.length cap) zs.length (teR zs)) (nx asid va : Int) (hl : zs.length ≤ 16) (hc : tlbC zs nx = 0) :
    Calls Try.prog 37 #[tlA (.slice ao zs.length cap) nx, .int .i64 asid, .int .i64 va] w fun r w' => ∃ ao2 cap2, r = .returned (tlA (.slice ao2 (zs.filter (fun x => !flP asid va x)).length cap2) 0) ∧ w'.ownsRow w.heap.size 60 5 (.slice ao2 (zs.filter (fun x => !flP asid va x)).length cap2) (zs.filter (fun x => !flP asid va x)).length (teR (zs.filter (fun x => !flP asid va x))) ∧ Below w.heap.size w w' := by
  have HX0 : Hid (SX0 w ((w.alloc (.cells #[.slice ao zs.length cap, .int .i64 nx] 57)).alloc (.cells #[.slice none 0 0, .int .i64 0] 57)) (.slice ao zs.length cap) nx) := SX0.new w ao zs.length cap nx
  have HRW : Hid (TErow w (.slice ao zs.length cap) zs) := TErow.of h
  have HOK : Hid (∀ x ∈ zs, teOk x = true) := all_ok hc
  have HF := specFaultT_any ((TErow.of h).below (HX0.out.bel)) nx (by omega)
  rw [hc] at HF
  have HFH : Hid _ := HF
  clear h HF hc
  unfold tlA at *
  go_enter Try.func37, Try.ntmps37
  go_upto_region 5 with (go_at_call 76; refine Calls.mono HFH.out ?_; rintro r u1 ⟨rfl, hu1⟩; have HX : Hid (SX0 w u1 (.slice ao zs.length cap) nx) := HX0.out.step hu1; clear hu1 HFH HX0)
  have HS0 : Hid (SX w (u1.alloc (.cells #[.slice none 0 0, .int .i64 0] 57)) u1.heap.size (.slice none 0 0) [] (.slice ao zs.length cap) nx) := by
    have hb : Below u1.heap.size u1 (u1.alloc (.cells #[.slice none 0 0, .int .i64 0] 57)) := (Below.refl _ _).alloc (Nat.le_refl _) _
    have hX := HX.out.step hb
    exact ⟨hX.bel, hX.b0, hX.b1, HX.out.lt, heap_new _ _, World.ownsRow_nil _ _ _ _, fun q => by cases q⟩
  generalize u1.alloc (.cells #[.slice none 0 0, .int .i64 0] 57) = w0 at *
  generalize u1.heap.size = b at *
  clear HX
  go_loopw [8] (fun i wr => ∃ (k : Nat) (a2 : Option Addr) (c2 : Nat), k ≤ zs.length ∧ i = .int .i64 k ∧ SX w wr b (.slice a2 ((zs.take k).filter (fun x => !flP asid va x)).length c2) ((zs.take k).filter (fun x => !flP asid va x)) (.slice ao zs.length cap) nx) (fun i _ => zs.length - (intOf i).toNat)
  case atStart => exact ⟨0, none, 0, Nat.zero_le _, rfl, HS0.out⟩
  case round =>
    obtain ⟨k, a2, c2, hk, rfl, hS⟩ := hrel
    obtain ⟨ys, hys⟩ : ∃ ys, (zs.take k).filter (fun x => !flP asid va x) = ys := ⟨_, rfl⟩
    rw [hys] at hS
    have HYS : Hid ((zs.take k).filter (fun x => !flP asid va x) = ys) := hys
    have HS : Hid (SX w wr b (.slice a2 ys.length c2) ys (.slice ao zs.length cap) nx) := hS
    have HYL : Hid (ys.length ≤ 16) := (show ys.length ≤ 16 by rw [← hys]; refine Nat.le_trans (List.length_filter_le _ _) ?_; rw [List.length_take]; omega)
    clear hS hys HS0
    obtain ⟨c0, c1⟩ := HS.out.b0.cel
    by_cases hlt : k < zs.length
    · obtain ⟨g0, o0, cap0, hv, _, hg, hc⟩ := HRW.out.resolve_left (fun h => by rw [h.1] at hlt; simp at hlt)
      injection hv with hv1 hv2 hv3
      subst hv1 hv3
      obtain ⟨d0, d1, d2, d3, d4⟩ := hc.below HS.out.bel hg k hlt
      obtain ⟨z, hz⟩ : ∃ z, zs[k] = z := ⟨_, rfl⟩
      rw [hz] at d0 d1 d2 d3 d4
      have hzm : teOk z = true := HOK.out z (by rw [← hz]; exact List.getElem_mem hlt)
      obtain ⟨q1, q2, q3, q4, q5⟩ := teOk_b hzm
      have HH : Hid _ := fun w' => specHolds_any z va w' q2
      have hg8 : bits .and .i64 z.flags 128 = z.flags / 128 % 2 * 128 := and128 _ q4.1 (by omega)
      have HT1 : Hid (flP asid va z = true → (zs.take (k + 1)).filter (fun x => !flP asid va x) = ys) := fun hp => by rw [fil_take hlt, hz, if_pos hp, List.append_nil]; exact HYS.out
      have HT2 : Hid (flP asid va z = false → (zs.take (k + 1)).filter (fun x => !flP asid va x) = ys ++ [z]) := fun hp => by rw [fil_take hlt, hz, hp, if_neg (by decide)]; rw [HYS.out]
      have hk0 : (0 : Int) ≤ (k : Int) := by omega
      have hk1 : (k : Int) < (zs.length : Int) := by omega
      have q41 : 0 ≤ z.flags := q4.1
      have HSW : Hid (SX w (wr.alloc (.cells #[.int .i64 z.asid, .int .i64 z.page, .int .i64 z.frame, .int .i64 z.flags, .bool z.large] 60)) b (.slice a2 ys.length c2) ys (.slice (some ⟨g0, o0, none⟩) zs.length cap) nx) := HS.out.step ((Below.refl _ _).alloc (Nat.le_refl _) _)
      have HBX : Hid ((wr.alloc (.cells #[.int .i64 z.asid, .int .i64 z.page, .int .i64 z.frame, .int .i64 z.flags, .bool z.large] 60)).heap[wr.heap.size]? = some (.cells #[.int .i64 z.asid, .int .i64 z.page, .int .i64 z.frame, .int .i64 z.flags, .bool z.large] 60 (0, 0))) := heap_new _ _
      clear hc hz q1 q2 q3 q4 q5 hzm
      go_upto_region 8 with fail
      generalize wr.alloc (.cells #[.int .i64 z.asid, .int .i64 z.page, .int .i64 z.frame, .int .i64 z.flags, .bool z.large] 60) = W at *
      generalize wr.heap.size = pz at *
      clear d0 d1 d2 d3 d4 c0 c1 HS
      obtain ⟨y0, y1, y2, y3, y4⟩ := cel5 HBX.out
      unfold teA at HH
      obtain ⟨i0, hi0, hz0, hz1, hz2⟩ := info_parts Try.info60
      have HI0 : Hid (Try.prog.info? 60 = some i0) := hi0
      clear hi0
      obtain ⟨hb, hhb⟩ : ∃ hb, holdsB z va = hb := ⟨_, rfl⟩
      rw [hhb] at HH
      have HB1 : Hid (holdsB z va = hb) := hhb
      clear hhb
      by_cases h1 : asid < 0
      · by_cases h4 : va < 0
        · have E : flP asid va z = true := by
            unfold flP
            simp [h1, h4]
          go_wp2
          refine ⟨⟨k + 1, a2, c2, hlt, by go_num, by rw [HT1.out E]; exact HSW.out⟩, by simp [intOf]; omega⟩
        · have E : flP asid va z = hb := by
            unfold flP
            simp [h1, h4]
            exact HB1.out
          cases hb
          · go_wp2_with (first
              | (go_at_call 86; refine Calls.mono (HH.out _) ?_; rintro r u5 ⟨rfl, hu5⟩; have HS5 : Hid (SX w u5 b (.slice a2 ys.length c2) ys (.slice (some ⟨g0, o0, none⟩) zs.length cap) nx) := HSW.out.step hu5; obtain ⟨y0, y1, y2, y3, y4⟩ := cel5 ((hu5.block pz (Array.getElem?_eq_some_iff.1 HBX.out).1).trans HBX.out); obtain ⟨m0, m1⟩ := HS5.out.box.cel; clear hu5)
                        | (at_builtin; (refine wpList_append_lies _ rfl _ _ 55 rfl (w.heap.size + 2) 60 i0 (.agg #[.int .i64 0, .int .i64 0, .int .i64 0, .int .i64 0, .bool false]) 5 40 Try.underlying55 HI0.out hz0 hz1 hz2 rfl (by decide) (.slice a2 ys.length c2) ys.length (teR ys) rfl (by exact HS5.out.row.alloc _) ⟨u5.heap.size, 0, none⟩ 1 1 (teC z) rfl rfl (World.news_of_block (cs := #[.int .i64 z.asid, .int .i64 z.page, .int .i64 z.frame, .int .i64 z.flags, .bool z.large]) (by exact heap_new u5 _)) (te_oneC z) (by decide) (by have := HYL.out; unfold maxLen; omega) (by have := HYL.out; omega) (by have := HS5.out.lb; have := HS5.out.box.lt; simp; omega) _ rfl ?_; intro g cap3 w1 ho hgr hli _; have HA := (HS5.out.step ((Below.refl _ _).alloc (Nat.le_refl _) _)).app (m := z) ho hgr hli; obtain ⟨v0, v1⟩ := HA.1.cel; have bf : ∀ x, w1.frozen? ⟨b, x, none⟩ = false := (fun x => by simp [World.frozen?, (show w1.heap[b]? = _ from HA.1)]); have HS7 : Hid (SX w (w1.setCell ⟨b, 0, none⟩ (.slice (some ⟨g, 0, none⟩) (ys.length + 1) cap3)) b (.slice (some ⟨g, 0, none⟩) (ys.length + 1) cap3) (ys ++ [z]) (.slice (some ⟨g0, o0, none⟩) zs.length cap) nx) := HA.2; clear HA ho hgr hli)))
            refine ⟨⟨k + 1, some ⟨g, 0, none⟩, cap3, hlt, by go_num, by rw [HT2.out E, List.length_append]; exact HS7.out⟩, by simp [intOf]; omega⟩
          · go_wp2_with (go_at_call 86; refine Calls.mono (HH.out _) ?_; rintro r u5 ⟨rfl, hu5⟩; have HS5 : Hid (SX w u5 b (.slice a2 ys.length c2) ys (.slice (some ⟨g0, o0, none⟩) zs.length cap) nx) := HSW.out.step hu5; obtain ⟨y0, y1, y2, y3, y4⟩ := cel5 ((hu5.block pz (Array.getElem?_eq_some_iff.1 HBX.out).1).trans HBX.out); clear hu5)
            refine ⟨⟨k + 1, a2, c2, hlt, by go_num, by rw [HT1.out E]; exact HS5.out⟩, by simp [intOf]; omega⟩
      · by_cases h2 : z.asid = asid
        · subst h2
          rcases (by omega : z.flags / 128 % 2 = 0 ∨ z.flags / 128 % 2 = 1) with h3 | h3
          · have h30 : bits .and .i64 z.flags 128 = 0 := by omega
            clear hg8
            by_cases h4 : va < 0
            · have E : flP z.asid va z = true := by
                unfold flP
                simp [h1, h3, h4]
              go_wp2
              refine ⟨⟨k + 1, a2, c2, hlt, by go_num, by rw [HT1.out E]; exact HSW.out⟩, by simp [intOf]; omega⟩
            · have E : flP z.asid va z = hb := by
                unfold flP
                simp [h1, h3, h4]
                exact HB1.out
              cases hb
              · go_wp2_with (first
                  | (go_at_call 86; refine Calls.mono (HH.out _) ?_; rintro r u5 ⟨rfl, hu5⟩; have HS5 : Hid (SX w u5 b (.slice a2 ys.length c2) ys (.slice (some ⟨g0, o0, none⟩) zs.length cap) nx) := HSW.out.step hu5; obtain ⟨y0, y1, y2, y3, y4⟩ := cel5 ((hu5.block pz (Array.getElem?_eq_some_iff.1 HBX.out).1).trans HBX.out); obtain ⟨m0, m1⟩ := HS5.out.box.cel; clear hu5)
                                | (at_builtin; (refine wpList_append_lies _ rfl _ _ 55 rfl (w.heap.size + 2) 60 i0 (.agg #[.int .i64 0, .int .i64 0, .int .i64 0, .int .i64 0, .bool false]) 5 40 Try.underlying55 HI0.out hz0 hz1 hz2 rfl (by decide) (.slice a2 ys.length c2) ys.length (teR ys) rfl (by exact HS5.out.row.alloc _) ⟨u5.heap.size, 0, none⟩ 1 1 (teC z) rfl rfl (World.news_of_block (cs := #[.int .i64 z.asid, .int .i64 z.page, .int .i64 z.frame, .int .i64 z.flags, .bool z.large]) (by exact heap_new u5 _)) (te_oneC z) (by decide) (by have := HYL.out; unfold maxLen; omega) (by have := HYL.out; omega) (by have := HS5.out.lb; have := HS5.out.box.lt; simp; omega) _ rfl ?_; intro g cap3 w1 ho hgr hli _; have HA := (HS5.out.step ((Below.refl _ _).alloc (Nat.le_refl _) _)).app (m := z) ho hgr hli; obtain ⟨v0, v1⟩ := HA.1.cel; have bf : ∀ x, w1.frozen? ⟨b, x, none⟩ = false := (fun x => by simp [World.frozen?, (show w1.heap[b]? = _ from HA.1)]); have HS7 : Hid (SX w (w1.setCell ⟨b, 0, none⟩ (.slice (some ⟨g, 0, none⟩) (ys.length + 1) cap3)) b (.slice (some ⟨g, 0, none⟩) (ys.length + 1) cap3) (ys ++ [z]) (.slice (some ⟨g0, o0, none⟩) zs.length cap) nx) := HA.2; clear HA ho hgr hli)))
                refine ⟨⟨k + 1, some ⟨g, 0, none⟩, cap3, hlt, by go_num, by rw [HT2.out E, List.length_append]; exact HS7.out⟩, by simp [intOf]; omega⟩
              · go_wp2_with (go_at_call 86; refine Calls.mono (HH.out _) ?_; rintro r u5 ⟨rfl, hu5⟩; have HS5 : Hid (SX w u5 b (.slice a2 ys.length c2) ys (.slice (some ⟨g0, o0, none⟩) zs.length cap) nx) := HSW.out.step hu5; obtain ⟨y0, y1, y2, y3, y4⟩ := cel5 ((hu5.block pz (Array.getElem?_eq_some_iff.1 HBX.out).1).trans HBX.out); clear hu5)
                refine ⟨⟨k + 1, a2, c2, hlt, by go_num, by rw [HT1.out E]; exact HS5.out⟩, by simp [intOf]; omega⟩
          · have h30 : bits .and .i64 z.flags 128 = 128 := by omega
            clear hg8
            have E : flP z.asid va z = false := by
              unfold flP
              simp [h1, h3]
            obtain ⟨m0, m1⟩ := HSW.out.box.cel
            go_wp2_with (at_builtin; (refine wpList_append_lies _ rfl _ _ 55 rfl (w.heap.size + 2) 60 i0 (.agg #[.int .i64 0, .int .i64 0, .int .i64 0, .int .i64 0, .bool false]) 5 40 Try.underlying55 HI0.out hz0 hz1 hz2 rfl (by decide) (.slice a2 ys.length c2) ys.length (teR ys) rfl (by exact HSW.out.row.alloc _) ⟨W.heap.size, 0, none⟩ 1 1 (teC z) rfl rfl (World.news_of_block (cs := #[.int .i64 z.asid, .int .i64 z.page, .int .i64 z.frame, .int .i64 z.flags, .bool z.large]) (by exact heap_new W _)) (te_oneC z) (by decide) (by have := HYL.out; unfold maxLen; omega) (by have := HYL.out; omega) (by have := HSW.out.lb; have := HSW.out.box.lt; simp; omega) _ rfl ?_; intro g cap3 w1 ho hgr hli _; have HA := (HSW.out.step ((Below.refl _ _).alloc (Nat.le_refl _) _)).app (m := z) ho hgr hli; obtain ⟨v0, v1⟩ := HA.1.cel; have bf : ∀ x, w1.frozen? ⟨b, x, none⟩ = false := (fun x => by simp [World.frozen?, (show w1.heap[b]? = _ from HA.1)]); have HS7 : Hid (SX w (w1.setCell ⟨b, 0, none⟩ (.slice (some ⟨g, 0, none⟩) (ys.length + 1) cap3)) b (.slice (some ⟨g, 0, none⟩) (ys.length + 1) cap3) (ys ++ [z]) (.slice (some ⟨g0, o0, none⟩) zs.length cap) nx) := HA.2; clear HA ho hgr hli))
            refine ⟨⟨k + 1, some ⟨g, 0, none⟩, cap3, hlt, by go_num, by rw [HT2.out E, List.length_append]; exact HS7.out⟩, by simp [intOf]; omega⟩
        · have E : flP asid va z = false := by
            unfold flP
            simp [h1, h2]
          obtain ⟨m0, m1⟩ := HSW.out.box.cel
          go_wp2_with (at_builtin; (refine wpList_append_lies _ rfl _ _ 55 rfl (w.heap.size + 2) 60 i0 (.agg #[.int .i64 0, .int .i64 0, .int .i64 0, .int .i64 0, .bool false]) 5 40 Try.underlying55 HI0.out hz0 hz1 hz2 rfl (by decide) (.slice a2 ys.length c2) ys.length (teR ys) rfl (by exact HSW.out.row.alloc _) ⟨W.heap.size, 0, none⟩ 1 1 (teC z) rfl rfl (World.news_of_block (cs := #[.int .i64 z.asid, .int .i64 z.page, .int .i64 z.frame, .int .i64 z.flags, .bool z.large]) (by exact heap_new W _)) (te_oneC z) (by decide) (by have := HYL.out; unfold maxLen; omega) (by have := HYL.out; omega) (by have := HSW.out.lb; have := HSW.out.box.lt; simp; omega) _ rfl ?_; intro g cap3 w1 ho hgr hli _; have HA := (HSW.out.step ((Below.refl _ _).alloc (Nat.le_refl _) _)).app (m := z) ho hgr hli; obtain ⟨v0, v1⟩ := HA.1.cel; have bf : ∀ x, w1.frozen? ⟨b, x, none⟩ = false := (fun x => by simp [World.frozen?, (show w1.heap[b]? = _ from HA.1)]); have HS7 : Hid (SX w (w1.setCell ⟨b, 0, none⟩ (.slice (some ⟨g, 0, none⟩) (ys.length + 1) cap3)) b (.slice (some ⟨g, 0, none⟩) (ys.length + 1) cap3) (ys ++ [z]) (.slice (some ⟨g0, o0, none⟩) zs.length cap) nx) := HA.2; clear HA ho hgr hli))
          refine ⟨⟨k + 1, some ⟨g, 0, none⟩, cap3, hlt, by go_num, by rw [HT2.out E, List.length_append]; exact HS7.out⟩, by simp [intOf]; omega⟩
    · obtain rfl : k = zs.length := by omega
      have HYF : Hid (zs.filter (fun x => !flP asid va x) = ys) := (show zs.filter (fun x => !flP asid va x) = ys by rw [← HYS.out, List.take_length])
      obtain ⟨m0, m1⟩ := HS.out.box.cel
      obtain ⟨x0, x1⟩ := cel2 HS.out.b1
      have kf : ∀ x, wr.frozen? ⟨w.heap.size + 1, x, none⟩ = false := (fun x => by simp [World.frozen?, HS.out.b1])
      have lb := HS.out.lb
      have n5 : ¬ b = w.heap.size + 1 := by omega
      have n6 : ¬ w.heap.size + 1 = b := by omega
      go_wp2
      obtain ⟨f1, f2, f3⟩ := HS.out.fin
      obtain ⟨r0, r1⟩ := f3.cel
      rw [HYF.out]
      exact bodyPost_ret (v := .agg #[.slice a2 ys.length c2, .int .i64 0]) (by simp [results, Try.results37, go_sem, r0, r1]) rfl ⟨a2, c2, rfl, f1, f2⟩
end Go.Proofs.Ytjaelkagacmpkaa
