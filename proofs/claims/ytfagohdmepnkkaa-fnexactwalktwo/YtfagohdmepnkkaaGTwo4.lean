import Derived.Test.YtfagohdmepnkkaaGTwo3
namespace Go.Proofs.Ytfagohdmepnkkaa
open Go.ChangeShapes Go.WideShapes Go.ChangeAt Go.RowKit

set_option maxRecDepth 100000 in
set_option maxHeartbeats 4000000 in
theorem readG_yes {w0 wr : World} {b G B n : Nat} {s : ByteArray} {y : GS} {rv : Value} {zs : List Int} {x : WS} (h : GW w0 b G B n s y wr rv zs x) (hn : s.size = n * 256) (hs : s.size ≤ 65536) (t i : Nat) (T I : Int) (hT : T = t) (hI : I = i) (ht : t < 1024) (hi : i ≤ 31) (hz : zs.length ≤ 10) (hh : y.host ≤ 255) (hst0 : 0 ≤ y.steps) (hst : y.steps ≤ 1000) :
    Calls Try.prog 117 #[.pointer (some ⟨B, 0, none⟩), .int .i64 T, .int .i64 I] wr fun e u =>
      ((walkV s y.host ((t * 256 + 4 * i : Nat) : Int) 1 false).fault = 0 → e = .returned (.int .i64 0) ∧ ∃ rv', GW w0 b G B n (walkV s y.host ((t * 256 + 4 * i : Nat) : Int) 1 false).mem { y with steps := y.steps + (walkV s y.host ((t * 256 + 4 * i : Nat) : Int) 1 false).reads.length, place := ((t * 256 + 4 * i : Nat) : Int) } u rv' (zs ++ [(t : Int)])
        { x with at_ := ((t * 256 + 4 * i : Nat) : Int), e := wv (walkV s y.host ((t * 256 + 4 * i : Nat) : Int) 1 false).mem (walkV s y.host ((t * 256 + 4 * i : Nat) : Int) 1 false).pa.toNat }) ∧
      (¬ (walkV s y.host ((t * 256 + 4 * i : Nat) : Int) 1 false).fault = 0 → e = .returned (.int .i64 3) ∧ GW w0 b G B n (walkV s y.host ((t * 256 + 4 * i : Nat) : Int) 1 false).mem { y with steps := y.steps + (walkV s y.host ((t * 256 + 4 * i : Nat) : Int) 1 false).reads.length, place := ((t * 256 + 4 * i : Nat) : Int) } u rv zs { x with at_ := ((t * 256 + 4 * i : Nat) : Int) }) := by
  subst hT hI
  obtain ⟨i0, hi0, hz0, hz1, hz2⟩ := info_parts Try.info2
  obtain ⟨c0, c1, c2, c3, c4, c5, c6, c7, c8, cf⟩ := h.box.cells
  have hhd := fun w => guestHolds_any G t w
  rw [show decide ((t : Int) < 1024) = true by simp; omega] at hhd
  have hP : Hid _ := entryPlace_any (t : Int) (i : Int) wr (by omega) (by omega) (by omega) (by omega)
  obtain ⟨k, hk⟩ : ∃ k, t * 256 + 4 * i = k := ⟨_, rfl⟩
  have ek : (t : Int) * 256 + (i : Int) * 4 = (k : Int) := by omega
  rw [ek] at hP
  rw [hk]
  have HS : Hid (GW w0 b G B n s y (wr.setCell ⟨B, 4, none⟩ (.int .i64 k)) rv zs { x with at_ := (k : Int) }) := h.set 4 _ (h.box.put4 _)
  have HR : Hid (∀ v, Below (wr.setCell ⟨B, 4, none⟩ (.int .i64 k)).heap.size (wr.setCell ⟨B, 4, none⟩ (.int .i64 k)) v → _) := fun v hv => readEntryG (HS.out.below hv).mem (HS.out.below hv).gbx h.bG k hn hs hh (by omega) (by omega) hst0 hst
  have HV4 : Hid (∀ v, Below (wr.setCell ⟨B, 4, none⟩ (.int .i64 k)).heap.size (wr.setCell ⟨B, 4, none⟩ (.int .i64 k)) v → GW w0 b G B n s y v rv zs { x with at_ := (k : Int) }) := fun v hv => HS.out.below hv
  obtain ⟨r, hr⟩ : ∃ r, walkV s y.host k 1 false = r := ⟨_, rfl⟩
  rw [hr] at HR ⊢
  have m1 := mHoldsG G
  have m2 := mReadG G
  obtain ⟨ao, cap, hv⟩ := h.sl
  have HV : Hid (rv = .slice ao zs.length cap) := hv
  rw [hv] at c7
  clear h hn hs hv hr hk ek
  by_cases hf : r.fault = 0
  · go_enter Try.func117, Try.ntmps117
    go_wp2_with (first | (go_at_call 148; refine Calls.mono (hhd _) ?_; rintro e u ⟨rfl, hu⟩; rw [hu]; clear hu u) | (go_at_call 97; refine Calls.mono hP.out ?_; rintro e u ⟨rfl, hu⟩; rw [hu]; clear hu u))
    go_region_with (go_at_call 150; refine Calls.mono (HR.out _ (by exact ⟨rfl, rfl, rfl, Nat.le_refl _, fun _ _ => rfl⟩)) ?_; rintro e u ⟨hg, hm, hb, hy, _⟩; obtain rfl := hy hf; have HU : Hid (GW w0 b G B n r.mem { y with steps := y.steps + (r.reads.length : Int), place := (k : Int) } u rv zs { x with at_ := (k : Int) }) := (HV4.out _ (by exact ⟨rfl, rfl, rfl, Nat.le_refl _, fun _ _ => rfl⟩)).look hg hm hb; clear hg hm hb hy)
    · obtain ⟨d0, d1, d2, d3, d4, d5, d6, d7, d8, df⟩ := HU.out.box.cells
      rw [HV.out] at d7
      have HW : Hid (GW w0 b G B n r.mem { y with steps := y.steps + (r.reads.length : Int), place := (k : Int) } ((u.setCell ⟨B, 5, none⟩ (.int .i64 (wv r.mem r.pa.toNat))).alloc (.cells #[.int .i64 t] 2)) rv zs { x with at_ := (k : Int), e := wv r.mem r.pa.toNat }) := (HU.out.set 5 _ (HU.out.box.put5 _)).below ((Below.refl _ _).alloc (Nat.le_refl _) _)
      clear c0 c1 c2 c3 c4 c5 c6 c7 c8 cf
      go_wp2_with (at_builtin; refine wpList_append_own _ rfl _ _ 28 rfl (B + 1) 2 i0 (.int .i64 0) 1 8 Try.underlying28 hi0 hz0 hz1 hz2 rfl (by decide) rv zs.length (zs.map (Value.int .i64)) (by rw [HV.out]; rfl) HW.out.own ⟨(u.setCell ⟨B, 5, none⟩ (.int .i64 (wv r.mem r.pa.toNat))).heap.size, 0, none⟩ 1 1 [.int .i64 t] (by first | (simp [World.setCell, Act.eval]; done) | (simp [World.setCell, Act.eval, Act.put]; done) | (simp [Act.eval]; done) | (simp [Act.eval, Act.put]; done)) rfl ?ca1 ?ca2 ?ca3 ?ca4 ?ca5 ?_)
      case ca2 => rfl
      case ca3 => unfold maxLen; omega
      case ca4 => omega
      case ca5 => have := HU.out.box.lt; omega
      intro v' w2 hown2 hgrow _
      have hb2 := hgrow.block _ HW.out.box.lt (fun e => rowNe HW.out.own B (Nat.le_refl _) e.symm)
      obtain ⟨f0, f1, f2, f3, f4, f5, f6, f7, f8, ff⟩ := (HW.out.box.block hb2).cells
      rw [HV.out] at f7
      have HP : Hid (GW w0 b G B n r.mem { y with steps := y.steps + (r.reads.length : Int), place := (k : Int) } (w2.setCell ⟨B, 7, none⟩ v') v' (zs ++ [(t : Int)]) { x with at_ := (k : Int), e := wv r.mem r.pa.toNat }) := HW.out.put7 hgrow hown2
      obtain ⟨ao', cap', hv1⟩ := HP.out.sl
      have hv' : v' = .slice ao' (zs.length + 1) cap' := by simpa using hv1
      clear hv1
      subst hv'
      clear hown2 hgrow hb2 d0 d1 d2 d3 d4 d5 d6 d7 d8 df
      go_wp2
      go_ret
      exact ⟨rfl, _, HP.out⟩
    · obtain ⟨d0, d1, d2, d3, d4, d5, d6, d7, d8, df⟩ := HU.out.box.cells
      rw [HV.out] at d7
      have HW : Hid (GW w0 b G B n r.mem { y with steps := y.steps + (r.reads.length : Int), place := (k : Int) } ((u.setCell ⟨B, 5, none⟩ (.int .i64 (wv r.mem r.pa.toNat))).alloc (.cells #[.int .i64 t] 2)) rv zs { x with at_ := (k : Int), e := wv r.mem r.pa.toNat }) := (HU.out.set 5 _ (HU.out.box.put5 _)).below ((Below.refl _ _).alloc (Nat.le_refl _) _)
      clear c0 c1 c2 c3 c4 c5 c6 c7 c8 cf
      go_wp2_with (at_builtin; refine wpList_append_own _ rfl _ _ 28 rfl (B + 1) 2 i0 (.int .i64 0) 1 8 Try.underlying28 hi0 hz0 hz1 hz2 rfl (by decide) rv zs.length (zs.map (Value.int .i64)) (by rw [HV.out]; rfl) HW.out.own ⟨(u.setCell ⟨B, 5, none⟩ (.int .i64 (wv r.mem r.pa.toNat))).heap.size, 0, none⟩ 1 1 [.int .i64 t] (by first | (simp [World.setCell, Act.eval]; done) | (simp [World.setCell, Act.eval, Act.put]; done) | (simp [Act.eval]; done) | (simp [Act.eval, Act.put]; done)) rfl ?cb1 ?cb2 ?cb3 ?cb4 ?cb5 ?_)
      case cb2 => rfl
      case cb3 => unfold maxLen; omega
      case cb4 => omega
      case cb5 => have := HU.out.box.lt; omega
      intro v' w2 hown2 hgrow _
      have hb2 := hgrow.block _ HW.out.box.lt (fun e => rowNe HW.out.own B (Nat.le_refl _) e.symm)
      obtain ⟨f0, f1, f2, f3, f4, f5, f6, f7, f8, ff⟩ := (HW.out.box.block hb2).cells
      rw [HV.out] at f7
      have HP : Hid (GW w0 b G B n r.mem { y with steps := y.steps + (r.reads.length : Int), place := (k : Int) } (w2.setCell ⟨B, 7, none⟩ v') v' (zs ++ [(t : Int)]) { x with at_ := (k : Int), e := wv r.mem r.pa.toNat }) := HW.out.put7 hgrow hown2
      obtain ⟨ao', cap', hv1⟩ := HP.out.sl
      have hv' : v' = .slice ao' (zs.length + 1) cap' := by simpa using hv1
      clear hv1
      subst hv'
      clear hown2 hgrow hb2 d0 d1 d2 d3 d4 d5 d6 d7 d8 df
      go_wp2
      go_ret
      exact ⟨rfl, _, HP.out⟩
  · go_enter Try.func117, Try.ntmps117
    go_wp2_with (first | (go_at_call 148; refine Calls.mono (hhd _) ?_; rintro e u ⟨rfl, hu⟩; rw [hu]; clear hu u) | (go_at_call 97; refine Calls.mono hP.out ?_; rintro e u ⟨rfl, hu⟩; rw [hu]; clear hu u))
    go_region_with (go_at_call 150; refine Calls.mono (HR.out _ (by exact ⟨rfl, rfl, rfl, Nat.le_refl _, fun _ _ => rfl⟩)) ?_; rintro e u ⟨hg, hm, hb, _, hy⟩; obtain rfl := hy hf; have HU : Hid (GW w0 b G B n r.mem { y with steps := y.steps + (r.reads.length : Int), place := (k : Int) } u rv zs { x with at_ := (k : Int) }) := (HV4.out _ (by exact ⟨rfl, rfl, rfl, Nat.le_refl _, fun _ _ => rfl⟩)).look hg hm hb; clear hg hm hb hy)
    all_goals
      go_wp2
      go_ret
      exact ⟨fun h => absurd h hf, fun _ => ⟨rfl, HU.out⟩⟩
end Go.Proofs.Ytfagohdmepnkkaa
