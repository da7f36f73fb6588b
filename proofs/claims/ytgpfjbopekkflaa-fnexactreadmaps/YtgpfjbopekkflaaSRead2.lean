import Derived.Test.YtgpfjbopekkflaaSRead
namespace Go.Proofs.Ytgpfjbopekkflaa
open Go.ChangeShapes Go.WideShapes Go.ChangeAt Go.RowKit

theorem own_cast4 {w : World} {B n n' : Nat} {v : Value} {xs xs' : List Value} (h : w.ownsRow B 53 4 v n xs) (hn : n = n') (hx : xs = xs') : w.ownsRow B 53 4 v n' xs' := by
  subst hn
  subst hx
  exact h
theorem cel4 {u : World} {b t : Nat} {a0 a1 a2 a3 : Value} (h : u.heap[b]? = some (.cells #[a0, a1, a2, a3] t (0, 0))) : u.cell? ⟨b, 0, none⟩ = some a0 ∧ u.cell? ⟨b, 1, none⟩ = some a1 ∧ u.cell? ⟨b, 2, none⟩ = some a2 ∧ u.cell? ⟨b, 3, none⟩ = some a3 := by
  simp [World.cell?, h]
theorem pm_news (W : World) (m : PM) : ∀ (j : Nat) (u : Value), (pmC m)[j]? = some u → (W.alloc (.cells #[.int .i64 m.va, .int .i64 m.frame, .int .i64 m.flags, .bool m.large] 53)).cell? (Addr.add ⟨W.heap.size, 0, none⟩ j) = some u := by
  intro j u hj
  obtain ⟨c0, c1, c2, c3⟩ := cel4 (heap_new W (.cells #[.int .i64 m.va, .int .i64 m.frame, .int .i64 m.flags, .bool m.large] 53))
  match j, hj with
  | 0, hj => exact c0.trans hj
  | 1, hj => exact c1.trans hj
  | 2, hj => exact c2.trans hj
  | 3, hj => exact c3.trans hj
  | j + 4, hj => simp [pmC] at hj
theorem pm_one (m : PM) : ∀ u ∈ pmC m, u.oneCell' = true := by
  intro u hu
  simp [pmC] at hu
  rcases hu with rfl | rfl | rfl | rfl <;> rfl
set_option maxRecDepth 100000 in
set_option maxHeartbeats 4000000 in
theorem specRead_yes (s : ByteArray) (root : Nat) (hm : memOk s = true) (hr : (root + 1) * 256 ≤ s.size) : AnsR 10 s root (fstN s root 32) := by
  intro w
  have hc : Hid _ := memC_ok hm
  obtain ⟨_, hs, _⟩ := memOk_b hm
  obtain ⟨i0, hi0, hz0, hz1, hz2⟩ := info_parts Try.info53
  have hin := fun w' => l03In_any s root w' hs
  rw [show (decide (0 ≤ (root : Int)) && decide ((root : Int) < (s.size : Int) / 256)) = true by simp; omega] at hin
  have HIN : Hid _ := hin
  clear hin hm
  go_enter Try.func10, Try.ntmps10
  go_wp2_with (first | (go_at_call 15; refine (specMemFault_any _ _ (by omega)).mono ?_; rintro e u1 ⟨rfl, hu1⟩; rw [hu1, hc.out]; clear hu1) | (go_at_call 30; refine Calls.mono (HIN.out _) ?_; rintro e u2 ⟨rfl, hu2⟩; rw [hu2]; clear hu2))
  go_loopw [5, 6] (fun v i wr => ∃ k : Nat, k ≤ 32 ∧ i = .int .i64 k ∧ wr.ownsRow w.heap.size 53 4 v (fstN s root k).length (pmR (fstN s root k)) ∧ Below w.heap.size w wr) (fun _ i _ => 32 - (intOf i).toNat)
  case atStart =>
    have hw := World.ownsRow_lit (base := w.heap.size) (e := 53) (size := 4) w #[] 0 (Nat.le_refl _) (by decide) rfl
    exact ⟨0, Nat.zero_le _, rfl, hw, (Below.refl _ _).alloc (Nat.le_refl _) _⟩
  case round =>
    obtain ⟨k, hk, rfl, hown, hb⟩ := hrel
    by_cases hlt : k < 32
    · obtain ⟨z, hz⟩ : ∃ z, wv s (root * 256 + 4 * k) = z := ⟨_, rfl⟩
      obtain ⟨z0, z1⟩ := wv_b s (root * 256 + 4 * k)
      rw [hz] at z0 z1
      have cent0 := fun w' => l03Entry_at s root k root k w' rfl rfl hr (by omega) hs
      rw [hz] at cent0
      have cent : Hid _ := cent0
      have hln := fstN_len s root k
      have hsu := fstN_succ s root k
      by_cases f1 : z % 2 = 0
      · have g1 : bits .and .i64 z 1 = 0 := (and1 z z0 (by omega)).trans f1
        have e1 : fst1 s root k = [] := by unfold fst1; rw [hz, if_pos f1]
        rw [e1, List.append_nil] at hsu
        have HO : Hid _ := hown
        have HB : Hid _ := hb
        have HSU : Hid _ := hsu
        clear hown hb hsu e1 cent0 f1
        obtain ⟨ao, cap, hv⟩ := own_sl4 HO.out
        subst hv
        go_wp2_with (go_at_call 17; refine Calls.mono (cent.out _) ?_; rintro e u3 ⟨rfl, q3, hu3⟩; rw [hu3]; clear hu3)
        refine ⟨⟨k + 1, hlt, by simp, own_cast4 (own_below4 HO.out (bdn (Below.refl _ _) q3)) (by rw [HSU.out]) (by rw [HSU.out]), bdn HB.out q3⟩, ?_⟩
        simp [intOf]
        omega
      have g1 : bits .and .i64 z 1 = 1 := (and1 z z0 (by omega)).trans (by omega)
      by_cases f2 : z % 16 = 1
      case neg =>
        have g14 : (bits .and .i64 z 14 == 0) = false := by
          rw [and14 z z0 (by omega)]
          simp
          omega
        have e1 : fst1 s root k = [enP z ((k : Int) * 8192) true] := by unfold fst1; rw [hz, if_neg f1, if_neg f2]
        rw [e1] at hsu
        have HO : Hid _ := hown
        have HB : Hid _ := hb
        have HSU : Hid _ := hsu
        clear hown hb hsu e1 cent0 f1 f2
        obtain ⟨ao, cap, hv⟩ := own_sl4 HO.out
        subst hv
        go_wp2_with (first | (go_at_call 17; refine Calls.mono (cent.out _) ?_; rintro e u3 ⟨rfl, q3, hu3⟩; rw [hu3]; clear hu3) | (at_builtin; refine wpList_append_own _ rfl _ _ 29 rfl w.heap.size 53 i0 (.agg #[.int .i64 0, .int .i64 0, .int .i64 0, .bool false]) 4 32 Try.underlying29 hi0 hz0 hz1 hz2 rfl (by decide) (.slice ao (fstN s root k).length cap) (fstN s root k).length (pmR (fstN s root k)) (by first | rfl | (simp [Act.eval]; done) | (simp [Act.eval, Act.put]; done)) (own_below4 HO.out ((bdn (Below.refl _ _) q3).alloc (Nat.le_refl _) _)) ⟨wr.heap.size, 0, none⟩ 1 1 (pmC (enP z ((k : Int) * 8192) true)) (by first | rfl | (simp [Act.eval]; done) | (simp [Act.eval, Act.put]; done)) rfl (pm_news (wr.drewN q3) (enP z ((k : Int) * 8192) true)) (pm_one _) ?ca3 ?ca4 ?ca5 ?_))
        case ca3 => unfold maxLen; omega
        case ca4 => omega
        case ca5 => have := HB.out.size; simp; omega
        intro v' w2 hown2 hgrow _
        obtain ⟨ao2, cap2, hv2⟩ := own_sl4 hown2
        subst hv2
        have HO2 : Hid _ := hown2
        have hb1 : Below w.heap.size w ((wr.drewN q3).alloc (.cells #[.int .i64 ((k : Int) * 8192), .int .i64 (z / 256), .int .i64 (bits .and .i64 z 158), .bool true] 53)) := (bdn HB.out q3).alloc HB.out.size _
        have HB2 : Hid (Below w.heap.size w w2) := hb1.grown hgrow hb1.size (fun j hj => (World.ownsRow.lt HO.out j hj).1)
        clear hown2 hgrow hb1
        go_wp2
        refine ⟨⟨k + 1, hlt, by simp, own_cast4 HO2.out (by rw [HSU.out]; simp) (by rw [HSU.out, pmR_app]; rfl), HB2.out⟩, ?_⟩
        simp [intOf]
        omega
      · have g14 : bits .and .i64 z 14 = 0 := by
          rw [and14 z z0 (by omega)]
          omega
        obtain ⟨T, hT⟩ := Int.eq_ofNat_of_zero_le (show 0 ≤ z / 256 by omega)
        have e1 : fst1 s root k = secA s (T : Int) ((k : Int) * 8192) := by unfold fst1; rw [hz, if_neg f1, if_pos f2, hT]
        rw [e1] at hsu
        by_cases f3 : (T + 1) * 256 ≤ s.size
        · have e2 : secA s (T : Int) ((k : Int) * 8192) = secN s T ((k : Int) * 8192) 32 := if_pos (by omega)
          rw [e2] at hsu
          have HO : Hid _ := hown
          have HB : Hid _ := hb
          have HSU : Hid _ := hsu
          clear hown hb hsu e1 e2 cent0 f1 f2
          obtain ⟨ao, cap, hv⟩ := own_sl4 HO.out
          subst hv
          go_wp2_with (first | (go_at_call 17; refine Calls.mono (cent.out _) ?_; rintro e u3 ⟨rfl, q3, hu3⟩; rw [hu3]; clear hu3) | fail)
          go_loopw [5, 9] (fun v i wr2 => ∃ j : Nat, j ≤ 32 ∧ i = .int .i64 j ∧ wr2.ownsRow w.heap.size 53 4 v (fstN s root k ++ secN s T ((k : Int) * 8192) j).length (pmR (fstN s root k ++ secN s T ((k : Int) * 8192) j)) ∧ Below w.heap.size w wr2) (fun _ i _ => 32 - (intOf i).toNat)
          case atStart => exact ⟨0, Nat.zero_le _, rfl, own_cast4 (own_below4 HO.out (bdn (Below.refl _ _) q3)) (by simp [secN]) (by simp [secN]), bdn HB.out q3⟩
          case round =>
            obtain ⟨j, hj, rfl, hown5, hb5⟩ := hrel
            have hl5 : (fstN s root k ++ secN s T ((k : Int) * 8192) j).length ≤ 2000 := by
              rw [List.length_append]
              have h1 := fstN_len s root k
              have h2 := secN_len s T ((k : Int) * 8192) j
              omega
            obtain ⟨L, hL⟩ : ∃ L, (fstN s root k ++ secN s T ((k : Int) * 8192) j) = L := ⟨_, rfl⟩
            rw [hL] at hown5 hl5
            have HL : Hid ((fstN s root k ++ secN s T ((k : Int) * 8192) j) = L) := hL
            clear hL
            by_cases hlt5 : j < 32
            · obtain ⟨x, hx⟩ : ∃ x, wv s (T * 256 + 4 * j) = x := ⟨_, rfl⟩
              obtain ⟨x0, x1⟩ := wv_b s (T * 256 + 4 * j)
              rw [hx] at x0 x1
              have c5 := fun (X : Int) (w' : World) (hX : X = (T : Int)) => l03Entry_at s T j X j w' hX rfl f3 (by omega) hs
              rw [hx] at c5
              have cent5 : Hid _ := c5
              have hs5 := secN_succ s T ((k : Int) * 8192) j
              have HO5 : Hid _ := hown5
              have HB5 : Hid _ := hb5
              obtain ⟨ao5, cap5, hv5⟩ := own_sl4 HO5.out
              subst hv5
              by_cases p1 : x % 2 = 1
              · have k1 : bits .and .i64 x 1 = 1 := (and1 x x0 (by omega)).trans p1
                have e5 : sec1 s T ((k : Int) * 8192) j = [enP x ((k : Int) * 8192 + (j : Int) * 256) false] := by unfold sec1; rw [hx, if_pos p1]
                rw [e5] at hs5
                have HS5 : Hid _ := hs5
                clear hown5 hb5 c5 hs5 e5 p1 cent
                go_wp2_with (first | (go_at_call 17; refine Calls.mono (cent5.out _ _ (by first | rfl | omega)) ?_; rintro e u6 ⟨rfl, q6, hu6⟩; rw [hu6]; clear hu6) | (at_builtin; refine wpList_append_own _ rfl _ _ 29 rfl w.heap.size 53 i0 (.agg #[.int .i64 0, .int .i64 0, .int .i64 0, .bool false]) 4 32 Try.underlying29 hi0 hz0 hz1 hz2 rfl (by decide) (.slice ao5 L.length cap5) L.length (pmR L) (by first | rfl | (simp [Act.eval]; done) | (simp [Act.eval, Act.put]; done)) (own_below4 HO5.out ((bdn (Below.refl _ _) q6).alloc (Nat.le_refl _) _)) ⟨wr.heap.size, 0, none⟩ 1 1 (pmC (enP x ((k : Int) * 8192 + (j : Int) * 256) false)) (by first | rfl | (simp [Act.eval]; done) | (simp [Act.eval, Act.put]; done)) rfl (pm_news (wr.drewN q6) (enP x ((k : Int) * 8192 + (j : Int) * 256) false)) (pm_one _) ?cb3 ?cb4 ?cb5 ?_))
                case cb3 => unfold maxLen; omega
                case cb4 => omega
                case cb5 => have := HB5.out.size; simp; omega
                intro v' w2 hown2 hgrow _
                obtain ⟨ao2, cap2, hv2⟩ := own_sl4 hown2
                subst hv2
                have HO2 : Hid _ := hown2
                have hb1 : Below w.heap.size w ((wr.drewN q6).alloc (.cells #[.int .i64 ((k : Int) * 8192 + (j : Int) * 256), .int .i64 (x / 256), .int .i64 (bits .and .i64 x 158), .bool false] 53)) := (bdn HB5.out q6).alloc HB5.out.size _
                have HB2 : Hid (Below w.heap.size w w2) := hb1.grown hgrow hb1.size (fun j hj => (World.ownsRow.lt HO5.out j hj).1)
                clear hown2 hgrow hb1
                go_wp2
                refine ⟨⟨j + 1, hlt5, by simp, own_cast4 HO2.out ?_ ?_, HB2.out⟩, ?_⟩
                · rw [HS5.out, ← List.append_assoc, HL.out]
                  simp
                · rw [HS5.out, ← List.append_assoc, HL.out, pmR_app]
                  rfl
                simp [intOf]
                omega
              · have k1 : bits .and .i64 x 1 = 0 := (and1 x x0 (by omega)).trans (by omega)
                have e5 : sec1 s T ((k : Int) * 8192) j = [] := by unfold sec1; rw [hx, if_neg p1]
                rw [e5, List.append_nil] at hs5
                have HS5 : Hid _ := hs5
                clear hown5 hb5 c5 hs5 e5 p1 cent
                go_wp2_with (go_at_call 17; refine Calls.mono (cent5.out _ _ (by first | rfl | omega)) ?_; rintro e u6 ⟨rfl, q6, hu6⟩; rw [hu6]; clear hu6)
                refine ⟨⟨j + 1, hlt5, by simp, own_cast4 (own_below4 HO5.out (bdn (Below.refl _ _) q6)) ?_ ?_, bdn HB5.out q6⟩, ?_⟩
                · rw [HS5.out, HL.out]
                · rw [HS5.out, HL.out]
                simp [intOf]
                omega
            · obtain rfl : j = 32 := by omega
              have HO5 : Hid _ := hown5
              have HB5 : Hid _ := hb5
              clear hown5 hb5 cent
              obtain ⟨ao5, cap5, hv5⟩ := own_sl4 HO5.out
              subst hv5
              go_wp2
              go_roundw
              case rel => exact ⟨k + 1, hlt, by go_num, own_cast4 HO5.out (by rw [HSU.out, HL.out]) (by rw [HSU.out, HL.out]), HB5.out⟩
              case measure => simp [intOf]; omega
        · have e2 : secA s (T : Int) ((k : Int) * 8192) = [] := if_neg (by omega)
          rw [e2, List.append_nil] at hsu
          have HO : Hid _ := hown
          have HB : Hid _ := hb
          have HSU : Hid _ := hsu
          clear hown hb hsu e1 e2 cent0 f1 f2
          obtain ⟨ao, cap, hv⟩ := own_sl4 HO.out
          subst hv
          go_wp2_with (first | (go_at_call 17; refine Calls.mono (cent.out _) ?_; rintro e u3 ⟨rfl, q3, hu3⟩; rw [hu3]; clear hu3) | fail)
          go_loopw [5, 9] (fun v i wr2 => ∃ j : Nat, j ≤ 32 ∧ i = .int .i64 j ∧ wr2.ownsRow w.heap.size 53 4 v (fstN s root k).length (pmR (fstN s root k)) ∧ Below w.heap.size w wr2) (fun _ i _ => 32 - (intOf i).toNat)
          case atStart => exact ⟨0, Nat.zero_le _, rfl, own_below4 HO.out (bdn (Below.refl _ _) q3), bdn HB.out q3⟩
          case round =>
            obtain ⟨j, hj, rfl, hown5, hb5⟩ := hrel
            have HO5 : Hid _ := hown5
            have HB5 : Hid _ := hb5
            obtain ⟨ao5, cap5, hv5⟩ := own_sl4 HO5.out
            subst hv5
            clear hown5 hb5 cent
            have cent6 : Hid (∀ (X : Int) (w' : World), X = (T : Int) → Calls Try.prog 17 #[.string s, .int .i64 X, .int .i64 j] w' fun e w2 => e = .returned (.tuple #[.int .i64 0, .bool false]) ∧ w2 = w') := fun X w' hX => l03Entry_no s X j w' (by omega) (by omega) (by omega)
            by_cases hlt5 : j < 32
            · go_wp2_with (go_at_call 17; refine Calls.mono (cent6.out _ _ (by first | rfl | omega)) ?_; rintro e u6 ⟨rfl, hu6⟩; rw [hu6]; clear hu6)
              refine ⟨⟨j + 1, hlt5, by simp, HO5.out, HB5.out⟩, ?_⟩
              simp [intOf]
              omega
            · obtain rfl : j = 32 := by omega
              go_wp2
              go_roundw
              case rel => exact ⟨k + 1, hlt, by go_num, own_cast4 HO5.out (by rw [HSU.out]) (by rw [HSU.out]), HB5.out⟩
              case measure => simp [intOf]; omega
    · obtain rfl : k = 32 := by omega
      have HO : Hid _ := hown
      have HB : Hid _ := hb
      clear hown hb
      obtain ⟨ao, cap, hv⟩ := own_sl4 HO.out
      subst hv
      go_wp2
      go_ret
      exact ⟨_, rfl, HO.out, HB.out⟩
end Go.Proofs.Ytgpfjbopekkflaa
