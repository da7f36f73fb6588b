import Derived.Test.YtgpfjbopekkflaaPRm
import Derived.Test.YtgpfjbopekkflaaPMem4
namespace Go.Proofs.Ytgpfjbopekkflaa
open Go.ChangeShapes Go.WideShapes Go.ChangeAt Go.RowKit

theorem pm_row {w : World} {B g n cap : Nat} {zs : List PM} (h : w.ownsRow B 53 4 (.slice (some ⟨g, 0, none⟩) n cap) n (pmR zs)) (hn : zs.length = n) : ∀ (j : Nat) (u : Value), (pmR zs)[j]? = some u → w.cell? (Addr.add ⟨g, 0, none⟩ j) = some u := by
  intro j u hj
  have hl := pmR_len zs
  have hlt : j < (pmR zs).length := (List.getElem?_eq_some_iff.1 hj).1
  have hc := h.cellAt j (by omega)
  have e : Addr.add ⟨g, 0, none⟩ j = ⟨g, j, none⟩ := by
    simp [Addr.add]
    exact fun h => h.symm
  rw [e, hc]
  exact hj
theorem pmR_one (zs : List PM) : ∀ u ∈ pmR zs, u.oneCell' = true := by
  intro u hu
  unfold pmR at hu
  rw [List.mem_flatMap] at hu
  obtain ⟨m, _, hm⟩ := hu
  exact pm_one m u hm
theorem own_weak4 {w : World} {B B' : Nat} {v : Value} {n : Nat} {xs : List Value} (h : w.ownsRow B 53 4 v n xs) (hb : B' ≤ B) : w.ownsRow B' 53 4 v n xs := by
  obtain ⟨hl, h | ⟨g, cap, cur, hv, hg, h1, h2, h3, h4, h5⟩⟩ := h
  · exact ⟨hl, .inl h⟩
  · exact ⟨hl, .inr ⟨g, cap, cur, hv, Nat.le_trans hb hg, h1, h2, h3, h4, h5⟩⟩
theorem own_cap {w : World} {B n : Nat} {v : Value} {xs : List Value} (h : w.ownsRow B 53 4 v n xs) : (v = .slice none 0 0 ∧ n = 0) ∨ ∃ g cap, v = .slice (some ⟨g, 0, none⟩) n cap ∧ n ≤ cap := by
  rcases h.2 with h1 | ⟨g, cap, cur, rfl, _, _, hc, _⟩
  · exact .inl h1
  · exact .inr ⟨g, cap, rfl, hc⟩
theorem own_some {w : World} {B n : Nat} {v : Value} {xs : List Value} (h : w.ownsRow B 53 4 v n xs) : (v = .slice none 0 0 ∧ n = 0) ∨ ∃ g cap, v = .slice (some ⟨g, 0, none⟩) n cap := by
  rcases h.2 with h1 | ⟨g, cap, cur, rfl, _⟩
  · exact .inl h1
  · exact .inr ⟨g, cap, rfl⟩
set_option maxRecDepth 100000 in
set_option maxHeartbeats 4000000 in
theorem implRead_yes (s : ByteArray) (root : Nat) (hm : memOk s = true) (hr : (root + 1) * 256 ≤ s.size) : AnsR 11 s root (fstN s root 32) := by
  intro w
  have hc : Hid _ := memC_ok hm
  obtain ⟨hs0, hs, hs2⟩ := memOk_b hm
  obtain ⟨n, hn⟩ : ∃ n, s.size = n * 256 := ⟨s.size / 256, by omega⟩
  obtain ⟨i0, hi0, hz0, hz1, hz2⟩ := info_parts Try.info53
  have HRM : Hid _ := fun w => readMemory_any s n w hn (by omega)
  have hh := fun (b : Nat) w' => memHolds_any b n (root : Int) w'
  rw [show (decide (0 ≤ (root : Int)) && decide ((root : Int) < (n : Int))) = true by simp; omega] at hh
  have HH : Hid _ := hh
  have hMW : Hid (∀ (b : Nat) (w' : World) (k : Nat) (X : Int), MemAt w' b s → X = ((root * 256 + 4 * k : Nat) : Int) → k < 32 → Calls Try.prog 32 #[.slice (some ⟨b, 0, none⟩) n n, .int .i64 X] w' fun e w2 => e = .returned (.int .i64 (wv s (root * 256 + 4 * k))) ∧ ∃ q, w2 = w'.drewN q) := by
    intro b w' k X h1 hX hk
    subst hX
    exact memWord_any b n s (root * 256 + 4 * k) w' h1 hn hs (by omega) (by omega)
  have hEP : Hid _ := fun (k : Nat) (w' : World) (hk : k < 32) => entryPlace_any (root : Int) (k : Int) w' (by omega) (by omega) (by omega) (by omega)
  have HN : Hid (s.size = n * 256) := hn
  clear hh hm hs0 hs2 hn
  unfold mv at HH
  go_enter Try.func11, Try.ntmps11
  go_wp2_with (first | (go_at_call 20; refine (implMemFault_any _ _ (by omega)).mono ?_; rintro e u1 ⟨rfl, hu1⟩; rw [hu1, hc.out]; clear hu1) | (go_at_call 24; refine Calls.mono (HRM.out _) ?_; rintro e u3 ⟨rfl, hM3, hB3, hS3⟩; unfold mv; have HM3 : Hid (MemAt u3 w.heap.size s) := hM3; have HB3 : Hid (Below w.heap.size w u3) := hB3; clear hM3 hB3 hS3) | (go_at_call 31; refine Calls.mono (HH.out _ _) ?_; rintro e u1 ⟨rfl, hu1⟩; rw [hu1]; clear hu1))
  have hb3 := HM3.out.lt
  go_loopw [6, 19] (fun v i wr => ∃ k : Nat, k ≤ 32 ∧ i = .int .i64 k ∧ wr.ownsRow u3.heap.size 53 4 v (fstN s root k).length (pmR (fstN s root k)) ∧ Below u3.heap.size u3 wr) (fun _ i _ => 32 - (intOf i).toNat)
  case atStart => exact ⟨0, Nat.zero_le _, rfl, World.ownsRow_nil _ _ _ _, Below.refl _ _⟩
  case round =>
    obtain ⟨k, hk, rfl, hown, hb⟩ := hrel
    have HO : Hid _ := hown
    have HB : Hid (Below u3.heap.size u3 wr) := hb
    obtain ⟨ao, cap, hv⟩ := own_sl4 HO.out
    subst hv
    clear hown hb
    by_cases hlt : k < 32
    · obtain ⟨z, hz⟩ : ∃ z, wv s (root * 256 + 4 * k) = z := ⟨_, rfl⟩
      obtain ⟨z0, z1⟩ := wv_b s (root * 256 + 4 * k)
      rw [hz] at z0 z1
      have HX : Hid (wv s (root * 256 + 4 * k) = z) := hz
      have hsu := fstN_succ s root k
      have hln := fstN_len s root k
      have ht := fun w => isTable_any z w z0 z1
      by_cases f1 : z % 2 = 0
      · have g1 : bits .and .i64 z 1 = 0 := (and1 z z0 (by omega)).trans f1
        rw [show decide (z % 16 = 1) = false by apply decide_eq_false; omega] at ht
        have e1 : fst1 s root k = [] := by unfold fst1; rw [hz, if_pos f1]
        rw [e1, List.append_nil] at hsu
        have HSU : Hid _ := hsu
        clear hsu e1 f1 hz
        go_wp2_with (first | (go_at_call 33; refine Calls.mono (hEP.out k _ hlt) ?_; rintro e u2 ⟨rfl, hu2⟩; rw [hu2]; clear hu2) | (go_at_call 32; refine Calls.mono (hMW.out _ wr k _ (HM3.out.below HB.out hb3) (by omega) hlt) ?_; rintro e u4 ⟨rfl, q3, hu4⟩; rw [HX.out, hu4]; clear hu4) | (go_at_call 34; refine Calls.mono (ht _) ?_; rintro e u5 ⟨rfl, hu5⟩; rw [hu5]; clear hu5))
        refine ⟨⟨k + 1, hlt, by simp, own_cast4 (own_below4 HO.out (bdn (Below.refl _ _) q3)) (by rw [HSU.out]) (by rw [HSU.out]), bdn HB.out q3⟩, ?_⟩
        simp [intOf]
        omega
      have g1 : bits .and .i64 z 1 = 1 := (and1 z z0 (by omega)).trans (by omega)
      by_cases f2 : z % 16 = 1
      · rw [show decide (z % 16 = 1) = true by apply decide_eq_true; omega] at ht
        have e1 : fst1 s root k = secA s (z / 256) ((k * 8192 : Nat) : Int) := by unfold fst1; rw [hz, if_neg f1, if_pos f2, show ((k * 8192 : Nat) : Int) = (k : Int) * 8192 by omega]
        rw [e1] at hsu
        have HSU : Hid _ := hsu
        have hTM : Hid (∀ (w' : World) (V : Int), MemAt w' w.heap.size s → V = ((k * 8192 : Nat) : Int) → Calls Try.prog 35 #[.slice (some ⟨w.heap.size, 0, none⟩) n n, .int .i64 (z / 256), .int .i64 V] w' fun e w2 => ∃ v, e = .returned v ∧ w2.ownsRow w'.heap.size 53 4 v (secA s (z / 256) ((k * 8192 : Nat) : Int)).length (pmR (secA s (z / 256) ((k * 8192 : Nat) : Int))) ∧ Below w'.heap.size w' w2) := by
          intro w' V h1 hV
          subst hV
          exact tableMaps_any h1 HN.out hs (z / 256) (by omega) (k * 8192) (by omega)
        have hlS : (secA s (z / 256) ((k * 8192 : Nat) : Int)).length ≤ 32 := by
          unfold secA
          split
          · exact secN_len _ _ _ _
          · simp
        generalize secA s (z / 256) ((k * 8192 : Nat) : Int) = L at *
        clear hsu e1 f1 f2 hz
        go_wp2_with (first | (go_at_call 33; refine Calls.mono (hEP.out k _ hlt) ?_; rintro e u2 ⟨rfl, hu2⟩; rw [hu2]; clear hu2) | (go_at_call 32; refine Calls.mono (hMW.out _ wr k _ (HM3.out.below HB.out hb3) (by omega) hlt) ?_; rintro e u4 ⟨rfl, q3, hu4⟩; rw [HX.out, hu4]; clear hu4) | (go_at_call 34; refine Calls.mono (ht _) ?_; rintro e u5 ⟨rfl, hu5⟩; rw [hu5]; clear hu5) | (go_at_call 36; refine (frameOf_any _ _).mono ?_; rintro e u5 ⟨rfl, hu5⟩; rw [hu5]; clear hu5) | fail)
        refine Calls.mono (hTM.out _ _ (HM3.out.below (bdn HB.out q3) hb3) (by omega)) ?_
        rintro e u6 ⟨v6, rfl, ho6, hb6⟩
        have HB6 : Hid (Below u3.heap.size u3 u6) := (bdn HB.out q3).trans (hb6.mono HB.out.size)
        have HO6 : Hid (u6.ownsRow u3.heap.size 53 4 (.slice ao (fstN s root k).length cap) (fstN s root k).length (pmR (fstN s root k))) := own_below4 (own_below4 HO.out (bdn (Below.refl _ _) q3)) hb6
        have HR6 : Hid (u6.ownsRow wr.heap.size 53 4 v6 L.length (pmR L)) := ho6
        clear hb6 ho6
        rcases own_some HR6.out with ⟨rfl, hn0⟩ | ⟨g6, cap6, rfl⟩
        · have hL0 : L = [] := List.eq_nil_of_length_eq_zero hn0
          have HS2 : Hid (fstN s root (k + 1) = fstN s root k) := by
            have := HSU.out
            rw [hL0, List.append_nil] at this
            exact this
          clear hn0 HR6
          rcases own_cap HO6.out with ⟨e0, hn6⟩ | ⟨g7, cap7, e7, hc7⟩
          · injection e0 with e1 e2 e3
            subst e1 e3
            have HN6 : Hid ((fstN s root k).length = 0) := hn6
            rw [hn6]
            go_wp2
            have h6 := HO6.out
            rw [HN6.out] at h6
            refine ⟨⟨k + 1, hlt, by simp, own_cast4 h6 (by rw [HS2.out, HN6.out]) (by rw [HS2.out]), HB6.out⟩, ?_⟩
            simp [intOf]
            omega
          · injection e7 with e1 e2 e3
            subst e1 e3
            have hc8 : (fstN s root k).length + 0 ≤ cap := by omega
            go_wp2
            refine ⟨⟨k + 1, hlt, by simp, own_cast4 HO6.out (by rw [HS2.out]) (by rw [HS2.out]), HB6.out⟩, ?_⟩
            simp [intOf]
            omega
        · go_wp2_with (at_builtin; refine wpList_append_own _ rfl _ _ 29 rfl u3.heap.size 53 i0 (.agg #[.int .i64 0, .int .i64 0, .int .i64 0, .bool false]) 4 32 Try.underlying29 hi0 hz0 hz1 hz2 rfl (by decide) (.slice ao (fstN s root k).length cap) (fstN s root k).length (pmR (fstN s root k)) (by first | rfl | (simp [Act.eval]; done) | (simp [Act.eval, Act.put]; done)) HO6.out ⟨g6, 0, none⟩ L.length cap6 (pmR L) (by first | rfl | (simp [Act.eval]; done) | (simp [Act.eval, Act.put]; done)) (pmR_len L) (pm_row HR6.out rfl) (pmR_one L) ?ca3 ?ca4 ?ca5 ?_)
          case ca3 => unfold maxLen; omega
          case ca4 => omega
          case ca5 => exact HB6.out.size
          intro v' w2 hown2 hgrow _
          obtain ⟨ao2, cap2, hv2⟩ := own_sl4 hown2
          subst hv2
          have HO2 : Hid _ := hown2
          have HB2 : Hid (Below u3.heap.size u3 w2) := HB6.out.grown hgrow HB6.out.size (fun j hj => (World.ownsRow.lt HO6.out j hj).1)
          clear hown2 hgrow
          go_wp2
          refine ⟨⟨k + 1, hlt, by simp, own_cast4 HO2.out (by rw [HSU.out]; simp) (by rw [HSU.out, pmR_app]), HB2.out⟩, ?_⟩
          simp [intOf]
          omega
      · rw [show decide (z % 16 = 1) = false by apply decide_eq_false; omega] at ht
        have e1 : fst1 s root k = [enP z ((k : Int) * 8192) true] := by unfold fst1; rw [hz, if_neg f1, if_neg f2]
        rw [e1] at hsu
        have HSU : Hid _ := hsu
        clear hsu e1 f1 f2 hz
        go_wp2_with (first | (go_at_call 33; refine Calls.mono (hEP.out k _ hlt) ?_; rintro e u2 ⟨rfl, hu2⟩; rw [hu2]; clear hu2) | (go_at_call 32; refine Calls.mono (hMW.out _ wr k _ (HM3.out.below HB.out hb3) (by omega) hlt) ?_; rintro e u4 ⟨rfl, q3, hu4⟩; rw [HX.out, hu4]; clear hu4) | (go_at_call 34; refine Calls.mono (ht _) ?_; rintro e u5 ⟨rfl, hu5⟩; rw [hu5]; clear hu5) | (go_at_call 37; refine (pageMapOf_any _ _ _ _).mono ?_; rintro e u6 ⟨rfl, hu6⟩; have HB6 : Hid (Below u3.heap.size u3 u6) := (bdn HB.out q3).trans (hu6.mono HB.out.size); have HO6 : Hid _ := own_below4 (own_below4 HO.out (bdn (Below.refl _ _) q3)) hu6; clear hu6; simp only [pmA, enP]) | (at_builtin; refine wpList_append_own _ rfl _ _ 29 rfl u3.heap.size 53 i0 (.agg #[.int .i64 0, .int .i64 0, .int .i64 0, .bool false]) 4 32 Try.underlying29 hi0 hz0 hz1 hz2 rfl (by decide) (.slice ao (fstN s root k).length cap) (fstN s root k).length (pmR (fstN s root k)) (by first | rfl | (simp [Act.eval]; done) | (simp [Act.eval, Act.put]; done)) (own_below4 HO6.out ((Below.refl _ _).alloc (Nat.le_refl _) _)) ⟨u6.heap.size, 0, none⟩ 1 1 (pmC (enP z ((k : Int) * 32 * 256) true)) (by first | rfl | (simp [Act.eval]; done) | (simp [Act.eval, Act.put]; done)) rfl (pm_news u6 (enP z ((k : Int) * 32 * 256) true)) (pm_one _) ?ca3 ?ca4 ?ca5 ?_))
        case ca3 => unfold maxLen; omega
        case ca4 => omega
        case ca5 => have := HB6.out.size; simp; omega
        intro v' w2 hown2 hgrow _
        obtain ⟨ao2, cap2, hv2⟩ := own_sl4 hown2
        subst hv2
        have HO2 : Hid _ := hown2
        have hb1 : Below u3.heap.size u3 (u6.alloc (.cells #[.int .i64 ((k : Int) * 32 * 256), .int .i64 (z / 256), .int .i64 (bits .and .i64 z 158), .bool true] 53)) := HB6.out.alloc HB6.out.size _
        have HB2 : Hid (Below u3.heap.size u3 w2) := hb1.grown hgrow hb1.size (fun j hj => (World.ownsRow.lt HO6.out j hj).1)
        clear hown2 hgrow hb1
        go_wp2
        refine ⟨⟨k + 1, hlt, by simp, own_cast4 HO2.out (by rw [HSU.out]; simp) (by rw [HSU.out, pmR_app, show (k : Int) * 8192 = (k : Int) * 32 * 256 by omega]; rfl), HB2.out⟩, ?_⟩
        simp [intOf]
        omega
    · obtain rfl : k = 32 := by omega
      go_wp2
      go_ret
      exact ⟨_, rfl, own_weak4 HO.out HB3.out.size, HB3.out.trans (HB.out.mono HB3.out.size)⟩
end Go.Proofs.Ytgpfjbopekkflaa
