import Derived.Test.YtcglpigmellfcabEa4
namespace Go.Proofs.Ytcglpigmellfcab
open Go.ChangeShapes Go.WideShapes Go.ChangeAt Go.RowKit

def TKv (w : World) (B : Nat) (v : Value) (zs : List TK) : Prop := w.ownsRow B 110 6 v zs.length (tkR zs)
theorem TKv.own {w : World} {B n c : Nat} {ao : Option Addr} {zs : List TK} (h : TKv w B (.slice ao n c) zs) (hz : 0 < zs.length) : ∃ g, ao = some ⟨g, 0, none⟩ ∧ n = zs.length ∧ TKown w B g c zs := by
  have h0 := h
  obtain ⟨hl, ⟨_, he⟩ | ⟨g, c2, cur, e, _⟩⟩ := h
  · omega
  · injection e with e1 e2 e3
    subst e1 e2 e3
    exact ⟨g, rfl, rfl, h0⟩
theorem TKv.kept {w w' : World} {B : Nat} {v : Value} {zs : List TK} (h : TKv w B v zs) (hb : Below w.heap.size w w') : TKv w' B v zs := own_below h hb
theorem TKv.grow {w w' : World} {B : Nat} {v : Value} {zs : List TK} {r : Option Nat} (h : TKv w B v zs) (hg : w.grownBy w' r) (hr : v.ownBlock = none ∨ v.ownBlock ≠ r) : TKv w' B v zs := World.ownsRow.kept h hg hr
theorem TKv.lt {w : World} {B : Nat} {v : Value} {zs : List TK} (h : TKv w B v zs) : ∀ k, v.ownBlock = some k → B ≤ k ∧ k < w.heap.size := World.ownsRow.lt h
/-- The first so many have begun the quantum. -/
def mix (q : Int) (ys : List TK) (j : Nat) : List TK := (ys.take j).map (bgn q) ++ ys.drop j
theorem mix_len (q : Int) (ys : List TK) (j : Nat) (h : j ≤ ys.length) : (mix q ys j).length = ys.length := by simp [mix]; omega
theorem mix_zero (q : Int) (ys : List TK) : mix q ys 0 = ys := by simp [mix]
theorem mix_all (q : Int) (ys : List TK) : mix q ys ys.length = ys.map (bgn q) := by simp [mix]
theorem mix_at (q : Int) (ys : List TK) (j : Nat) (h : j < ys.length) (h2 : j < (mix q ys j).length) : (mix q ys j)[j] = ys[j] := by
  have e : (mix q ys j)[j]? = some ys[j] := by
    unfold mix
    rw [List.getElem?_append_right (by simp; omega)]
    simp [Nat.min_eq_left (Nat.le_of_lt h), h]
  rw [List.getElem?_eq_getElem h2] at e
  exact Option.some.inj e
theorem mix_step (q : Int) (ys : List TK) (j : Nat) (h : j < ys.length) : (mix q ys j).set j (bgn q ys[j]) = mix q ys (j + 1) := by
  unfold mix
  have hl : ((ys.take j).map (bgn q)).length = j := by simp; omega
  rw [List.set_append_right _ _ (by omega), hl, Nat.sub_self, List.drop_eq_getElem_cons h, List.set_cons_zero, List.take_succ_eq_append_getElem h, List.map_append, List.append_assoc]
  rfl
set_option maxRecDepth 100000 in
set_option maxHeartbeats 8000000 in
theorem runTasks_any {w : World} {B : Nat} {v : Value} {zs : List TK} (h : TKv w B v zs) (hl : zs.length ≤ 8) (hok : tksOk 0 zs) (Q : Nat) (hQ : Q ≤ 1000) : Calls Try.prog 52 #[v, .int .i64 (Q : Int)] w fun e w' => ∃ sv, e = .returned sv ∧ w'.ownsRow w.heap.size 2 1 sv Q (iR (runK zs Q).2) ∧ TKv w' B v (runK zs Q).1 ∧ w.grownBy w' v.ownBlock := by
  have HZ : Hid (TKv w B v zs) := h
  have HOK : Hid (tksOk 0 zs) := hok
  have HVB : Hid (∀ k, v.ownBlock = some k → B ≤ k ∧ k < w.heap.size) := h.lt
  obtain ⟨ao, cap, rfl⟩ := tk_sl h
  clear h hok
  go_enter Try.func52, Try.ntmps52
  go_wp2
  go_loopw [5, 10] (fun sv i wr => ∃ k : Nat, k ≤ Q ∧ i = .int .i64 k ∧ wr.ownsRow w.heap.size 2 1 sv k (iR (runK zs k).2) ∧ TKv wr B (.slice ao zs.length cap) (runK zs k).1 ∧ w.grownBy wr (Value.slice ao zs.length cap).ownBlock) (fun _ i _ => Q - (intOf i).toNat)
  case atStart => exact ⟨0, Nat.zero_le _, rfl, World.ownsRow_nil _ _ _ _, HZ.out, World.grownBy.refl _ _⟩
  case round =>
    obtain ⟨k, hk, rfl, hso, htk, hgr⟩ := hrel
    by_cases hlt : k < Q
    · have hk0 : (0 : Int) ≤ (k : Int) := by omega
      have hk1 : (k : Int) < (Q : Int) := by omega
      obtain ⟨ys, hys⟩ : ∃ ys, (runK zs k).1 = ys := ⟨_, rfl⟩
      have hyl : ys.length = zs.length := by rw [← hys]; exact (runK_len zs k).1
      have HYO : Hid (tksOk (k : Int) ys) := (by have h9 := runK_ok HOK.out k; rw [hys] at h9; exact h9)
      have HSO : Hid (wr.ownsRow w.heap.size 2 1 u5 k (iR (runK zs k).2)) := hso
      have HGR : Hid (w.grownBy wr (Value.slice ao zs.length cap).ownBlock) := hgr
      have HTK : Hid (TKv wr B (.slice ao zs.length cap) ys) := hys ▸ htk
      have HST : Hid ((runK zs (k + 1)).1 = (stp (k : Int) ys).1 ∧ (runK zs (k + 1)).2 = (runK zs k).2 ++ [(stp (k : Int) ys).2]) := (show _ ∧ _ by rw [← hys]; exact ⟨rfl, rfl⟩)
      have HUB : Hid (∀ j, u5.ownBlock = some j → w.heap.size ≤ j ∧ j < wr.heap.size) := HSO.out.lt
      have HSV : Hid (u5.ownBlock = none ∨ u5.ownBlock ≠ (Value.slice ao zs.length cap).ownBlock) := (by
        cases hu : u5.ownBlock with
        | none => exact .inl rfl
        | some q =>
          refine .inr (fun e => ?_)
          have h1 := (HUB.out q hu).1
          have h2 := (HVB.out q e.symm).2
          omega)
      have HSV2 : Hid ((Value.slice ao zs.length cap).ownBlock = none ∨ (Value.slice ao zs.length cap).ownBlock ≠ u5.ownBlock) := (by
        cases hu : (Value.slice ao zs.length cap).ownBlock with
        | none => exact .inl rfl
        | some q =>
          refine .inr (fun e => ?_)
          have h1 := (HUB.out q e.symm).1
          have h2 := (HVB.out q hu).2
          omega)
      clear hso htk hgr hys
      generalize wr = wa at *
      go_wp2
      go_loopw [15] (fun i wr2 => ∃ j : Nat, j ≤ zs.length ∧ i = .int .i64 j ∧ TKv wr2 B (.slice ao zs.length cap) (mix (k : Int) ys j) ∧ wa.grownBy wr2 (Value.slice ao zs.length cap).ownBlock) (fun i _ => zs.length - (intOf i).toNat)
      case atStart => exact ⟨0, Nat.zero_le _, rfl, by rw [mix_zero]; exact HTK.out, World.grownBy.refl _ _⟩
      case round =>
        obtain ⟨j, hj, rfl, htj, hgj⟩ := hrel
        have HTJ : Hid (TKv wr B (.slice ao zs.length cap) (mix (k : Int) ys j)) := htj
        have HGJ : Hid (wa.grownBy wr (Value.slice ao zs.length cap).ownBlock) := hgj
        clear htj hgj
        by_cases hlj : j < zs.length
        · have hj0 : (0 : Int) ≤ (j : Int) := by omega
          have hj1 : (j : Int) < (zs.length : Int) := by omega
          have hjm : j < (mix (k : Int) ys j).length := by rw [mix_len _ _ _ (by omega)]; omega
          obtain ⟨g, rfl, -, hown⟩ := HTJ.out.own (by omega)
          have hyo := HYO.out j (by omega)
          have hge : ys.getD j tk0 = (mix (k : Int) ys j)[j] := by rw [mix_at _ _ _ (by omega) hjm]; simp [List.getD, List.getElem?_eq_getElem (show j < ys.length by omega)]
          rw [hge] at hyo
          have HBE : Hid _ := begin_any hown j hjm (k : Int) hk0 (by omega) hyo
          have HMS : Hid ((mix (k : Int) ys j).set j (bgn (k : Int) (mix (k : Int) ys j)[j]) = mix (k : Int) ys (j + 1)) := (show _ = _ by rw [mix_at _ _ _ (by omega) hjm]; exact mix_step _ _ _ (by omega))
          have HML : Hid ((mix (k : Int) ys (j + 1)).length = zs.length) := (show _ = _ by rw [mix_len _ _ _ (by omega), hyl])
          clear hown hyo hge
          rw [HMS.out] at HBE
          go_wp2_with fail
          refine Calls.mono HBE.out ?_
          rintro e w3 ⟨⟨ev, rfl⟩, ho3, hg3⟩
          have HO3 : Hid (TKown w3 B g cap (mix (k : Int) ys (j + 1))) := ho3
          have HG3 : Hid (wr.grownBy w3 (some g)) := hg3
          clear ho3 hg3 HBE
          have HT3 : Hid (TKv w3 B (.slice (some ⟨g, 0, none⟩) zs.length cap) (mix (k : Int) ys (j + 1))) := (by
            have h9 := HO3.out
            unfold TKown at h9
            unfold TKv
            rw [HML.out] at h9 ⊢
            exact h9)
          go_wp2
          go_roundw
          case rel => exact ⟨j + 1, hlj, by go_num, HT3.out, gbTK HGJ.out HG3.out⟩
          case measure => simp [intOf]; omega
        · obtain rfl : j = zs.length := by omega
          have hme : mix (k : Int) ys zs.length = ys.map (bgn (k : Int)) := by rw [← hyl]; exact mix_all _ _
          have HTA : Hid (TKv wr B (.slice ao zs.length cap) (ys.map (bgn (k : Int)))) := hme ▸ HTJ.out
          clear hme HTJ
          obtain ⟨xs, hxs⟩ : ∃ xs, ys.map (bgn (k : Int)) = xs := ⟨_, rfl⟩
          have hxl : xs.length = zs.length := by rw [← hxs]; simpa using hyl
          have HXT : Hid (TKv wr B (.slice ao zs.length cap) xs) := hxs ▸ HTA.out
          have HSX : Hid ((stp (k : Int) ys).1 = aft xs (nx xs xs.length) ∧ (stp (k : Int) ys).2 = nx xs xs.length) := (show _ ∧ _ by
            rw [← hxs]
            simp [stp])
          have HNX : Hid _ := next_any (TKrow.of HXT.out) (by omega)
          have hnb := nx_b xs xs.length
          have HNL : Hid (0 ≤ nx xs xs.length → 0 < (xs.getD (nx xs xs.length).toNat tk0).left ∧ (xs.getD (nx xs xs.length).toNat tk0).left ≤ 1000) := fun h0 => (by
            refine ⟨nx_left xs xs.length h0, ?_⟩
            have h1 := bgn_getD (k : Int) ys (nx xs xs.length).toNat (by omega)
            rw [hxs] at h1
            have h2 := bgn_ok (HYO.out (nx xs xs.length).toNat (by omega)) hk0
            rw [← h1] at h2
            obtain ⟨a1, a2, a3, a4, a5, a6, a7, a8, _⟩ := h2
            omega)
          clear hxs HTA
          obtain ⟨M, hM⟩ : ∃ M, nx xs xs.length = M := ⟨_, rfl⟩
          rw [hM] at HNX HSX hnb HNL
          have HMM : Hid (-1 ≤ M ∧ M < (xs.length : Int)) := hnb
          clear hM
          go_wp2_with fail
          refine Calls.mono HNX.out ?_
          rintro e w3 ⟨rfl, hb3⟩
          have HT3 : Hid (TKv w3 B (.slice ao zs.length cap) xs) := HXT.out.kept hb3
          have HG3 : Hid (wa.grownBy w3 (Value.slice ao zs.length cap).ownBlock) := gbTK HGJ.out ⟨hb3.os, hb3.tape, hb3.output, hb3.size, fun k hk _ => hb3.block k hk⟩
          have HS3 : Hid (w3.ownsRow w.heap.size 2 1 u5 k (iR (runK zs k).2)) := HSO.out.kept HG3.out (HSV.out)
          clear hb3 HNX HXT HGJ
          have HFIN : Hid (∀ (w4 : World), TKv w4 B (.slice ao zs.length cap) (aft xs M) → w.grownBy w4 (Value.slice ao zs.length cap).ownBlock → w4.ownsRow w.heap.size 2 1 u5 k (iR (runK zs k).2) → ∃ v' u', (Builtin.append_ #[27, 27] 27 #[u5, .slice (some ⟨w4.heap.size, 0, none⟩) 1 1]).run Try.prog (w4.alloc (.cells #[.int .i64 M] 2)) = .ok v' u' ∧ (u'.ownsRow w.heap.size 2 1 v' (k + 1) (iR (runK zs (k + 1)).2) ∧ TKv u' B (.slice ao zs.length cap) (runK zs (k + 1)).1 ∧ w.grownBy u' (Value.slice ao zs.length cap).ownBlock)) := fun w4 h1 h2 h3 => (by
            obtain ⟨v', u', r1, r2, r3⟩ := appI h3 (by omega) h2.size M
            have ha : TKv (w4.alloc (.cells #[.int .i64 M] 2)) B (.slice ao zs.length cap) (aft xs M) := h1.kept (bx1 _ _)
            refine ⟨v', u', r1, ?_, ?_, ?_⟩
            · rw [HST.out.2, HSX.out.2]
              exact r2
            · rw [HST.out.1, HSX.out.1]
              exact ha.grow r3 (HSV2.out)
            · refine ⟨r3.os.trans h2.os, r3.tape.trans h2.tape, r3.output.trans h2.output, ?_, fun q hq hn => ?_⟩
              · have h4 := r3.size
                have h5 := h2.size
                simp at h4
                omega
              · have h5 := h2.size
                have e1 := r3.block q (by simp; omega) (fun e => by have := (HUB.out q e.symm).1; omega)
                exact e1.trans ((Below.heap_alloc _ _ _ (by omega)).trans (h2.block q hq hn)))
          by_cases hM0 : M < 0
          · have hM1 : M = -1 := by have := HMM.out; omega
            have HAF : Hid (aft xs M = xs) := (show aft xs M = xs by unfold aft; rw [if_neg (by omega)])
            have HAP : Hid _ := HFIN.out w3 (by rw [HAF.out]; exact HT3.out) (gbTK HGR.out HG3.out) HS3.out
            clear HFIN HAF
            subst hM1
            go_wp2_with (at_builtin; (refine wl_append_ex rfl _ _ 27 rfl _ _ rfl rfl HAP.out ?_; rintro v' u6 ⟨ho, ht, hg2⟩; have HO6 : Hid (u6.ownsRow w.heap.size 2 1 v' (k + 1) (iR (runK zs (k + 1)).2)) := ho; have HT6 : Hid (TKv u6 B (.slice ao zs.length cap) (runK zs (k + 1)).1) := ht; have HG6 : Hid (w.grownBy u6 (Value.slice ao zs.length cap).ownBlock) := hg2; clear ho ht hg2 HAP))
            go_roundw
            case rel => exact ⟨k + 1, hlt, by go_num, HO6.out, HT6.out, HG6.out⟩
            case measure => simp [intOf]; omega
          · obtain ⟨X, rfl⟩ := Int.eq_ofNat_of_zero_le (show 0 ≤ M by omega)
            have hX : X < xs.length := by have := HMM.out; omega
            have hX0 : (0 : Int) ≤ (X : Int) := by omega
            have hX1 : (X : Int) < (zs.length : Int) := by omega
            have hXn : ((X : Int) != -1) = true := by simp
            obtain ⟨hlf1, hlf2⟩ := HNL.out (by omega)
            obtain ⟨g, rfl, -, hown⟩ := HT3.out.own (by omega)
            obtain ⟨c0, c1, c2, c3, c4, c5⟩ := hown.cells X hX
            have hgd : xs.getD X tk0 = xs[X] := by simp [List.getD, List.getElem?_eq_getElem hX]
            have HAF : Hid (aft xs (X : Int) = xs.set X { xs[X] with left := xs[X].left - 1 }) := (show aft xs (X : Int) = _ by unfold aft; rw [if_pos hX0]; simp only [Int.toNat_natCast]; rw [hgd])
            rw [Int.toNat_natCast, hgd] at hlf1 hlf2
            have HPU : Hid _ := hown.put (j := 3) (by omega) X hX (.int .i64 (xs[X].left - 1)) { xs[X] with left := xs[X].left - 1 } rfl
            have fz := hown.frz (X * 6 + 3)
            have gl := hown.lt.1
            have HW4 : Hid (TKv (w3.setCell ⟨g, X * 6 + 3, none⟩ (.int .i64 (xs[X].left - 1))) B (.slice (some ⟨g, 0, none⟩) zs.length cap) (aft xs (X : Int))) := (by
              have h9 := HPU.out.1
              unfold TKown at h9
              rw [← HAF.out] at h9
              unfold TKv
              have e : (aft xs (X : Int)).length = zs.length := by rw [HAF.out, List.length_set]; exact hxl
              rw [e] at h9 ⊢
              exact h9)
            have HAP : Hid _ := HFIN.out (w3.setCell ⟨g, X * 6 + 3, none⟩ (.int .i64 (xs[X].left - 1))) HW4.out (gbTK (gbTK HGR.out HG3.out) HPU.out.2) (HS3.out.kept HPU.out.2 HSV.out)
            clear HFIN HAF HPU HW4 hown hgd c0 c1 c2 c4 c5
            generalize xs[X].left = lf at *
            go_upto_region 13 with fail
            generalize (w3.setCell ⟨g, X * 6 + 3, none⟩ (.int .i64 (lf - 1))) = w4 at *
            go_wp2_with (at_builtin; (refine wl_append_ex rfl _ _ 27 rfl _ _ rfl rfl HAP.out ?_; rintro v' u6 ⟨ho, ht, hg2⟩; have HO6 : Hid (u6.ownsRow w.heap.size 2 1 v' (k + 1) (iR (runK zs (k + 1)).2)) := ho; have HT6 : Hid (TKv u6 B (.slice (some ⟨g, 0, none⟩) zs.length cap) (runK zs (k + 1)).1) := ht; have HG6 : Hid (w.grownBy u6 (Value.slice (some ⟨g, 0, none⟩) zs.length cap).ownBlock) := hg2; clear ho ht hg2 HAP))
            go_roundw
            case rel => exact ⟨k + 1, hlt, by go_num, HO6.out, HT6.out, HG6.out⟩
            case measure => simp [intOf]; omega
    · obtain rfl : k = Q := by omega
      have HSO : Hid _ := hso
      have HTK : Hid _ := htk
      have HGR : Hid _ := hgr
      clear hso htk hgr
      go_wp2
      go_ret
      exact ⟨_, rfl, HSO.out, HTK.out, HGR.out⟩
end Go.Proofs.Ytcglpigmellfcab
