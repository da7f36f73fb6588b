import Derived.Test.YtgpfjbopekkflaaSRead2
import Derived.Test.YtgpfjbopekkflaaPWk1
namespace Go.Proofs.Ytgpfjbopekkflaa
open Go.ChangeShapes Go.WideShapes Go.ChangeAt Go.RowKit

set_option maxRecDepth 100000 in
set_option maxHeartbeats 1000000 in
theorem pageMapOf_any (va e : Int) (lg : Bool) (w : World) : Calls Try.prog 37 #[.int .i64 va, .int .i64 e, .bool lg] w fun x w' => x = .returned (pmA (enP e va lg)) ∧ Below w.heap.size w w' := by
  go_enter Try.func37, Try.ntmps37
  go_wp2_with (go_at_call 36; refine (frameOf_any _ _).mono ?_; rintro e u1 ⟨rfl, hu1⟩; rw [hu1]; clear hu1)
  refine bodyPost_ret (v := pmA (enP e va lg)) (by simp [results, Try.results37, go_sem, pmA, enP]) rfl ⟨rfl, (Below.refl _ _).alloc (Nat.le_refl _) _⟩
set_option maxRecDepth 100000 in
set_option maxHeartbeats 4000000 in
theorem tableMaps_yes {w : World} {b n : Nat} {s : ByteArray} (hM : MemAt w b s) (hn : s.size = n * 256) (hs : s.size ≤ 65536) (T : Nat) (hT : (T + 1) * 256 ≤ s.size) (va : Nat) (hva : va ≤ 262143) :
    Calls Try.prog 35 #[mv b n, .int .i64 T, .int .i64 va] w fun e w' => ∃ v, e = .returned v ∧ w'.ownsRow w.heap.size 53 4 v (secN s T va 32).length (pmR (secN s T va 32)) ∧ Below w.heap.size w w' := by
  obtain ⟨i0, hi0, hz0, hz1, hz2⟩ := info_parts Try.info53
  have hh := fun w' => memHolds_any b n (T : Int) w'
  rw [show (decide (0 ≤ (T : Int)) && decide ((T : Int) < (n : Int))) = true by simp; omega] at hh
  have HH : Hid _ := hh
  have HM : Hid (MemAt w b s) := hM
  have hbw := hM.lt
  have hMW : Hid (∀ (w' : World) (k : Nat) (X : Int), MemAt w' b s → X = ((T * 256 + 4 * k : Nat) : Int) → k < 32 → Calls Try.prog 32 #[.slice (some ⟨b, 0, none⟩) n n, .int .i64 X] w' fun e w2 => e = .returned (.int .i64 (wv s (T * 256 + 4 * k))) ∧ ∃ q, w2 = w'.drewN q) := by
    intro w' k X h1 hX hk
    subst hX
    exact memWord_any b n s (T * 256 + 4 * k) w' h1 hn hs (by omega) (by omega)
  have hEP : Hid _ := fun (k : Nat) (w' : World) (hk : k < 32) => entryPlace_any (T : Int) (k : Int) w' (by omega) (by omega) (by omega) (by omega)
  have VA : Hid (va ≤ 262143) := hva
  clear hh hM hva
  unfold mv at HH ⊢
  go_enter Try.func35, Try.ntmps35
  go_wp2_with (go_at_call 31; refine Calls.mono (HH.out _) ?_; rintro e u1 ⟨rfl, hu1⟩; rw [hu1]; clear hu1)
  go_loopw [7, 14] (fun v i wr => ∃ k : Nat, k ≤ 32 ∧ i = .int .i64 k ∧ wr.ownsRow w.heap.size 53 4 v (secN s T va k).length (pmR (secN s T va k)) ∧ Below w.heap.size w wr) (fun _ i _ => 32 - (intOf i).toNat)
  case atStart => exact ⟨0, Nat.zero_le _, rfl, World.ownsRow_nil _ _ _ _, Below.refl _ _⟩
  case round =>
    obtain ⟨k, hk, rfl, hown, hb⟩ := hrel
    have HO : Hid _ := hown
    have HB : Hid (Below w.heap.size w wr) := hb
    obtain ⟨ao, cap, hv⟩ := own_sl4 HO.out
    subst hv
    clear hown hb
    by_cases hlt : k < 32
    · obtain ⟨x, hx⟩ : ∃ x, wv s (T * 256 + 4 * k) = x := ⟨_, rfl⟩
      obtain ⟨x0, x1⟩ := wv_b s (T * 256 + 4 * k)
      rw [hx] at x0 x1
      have HX : Hid (wv s (T * 256 + 4 * k) = x) := hx
      have hs5 := secN_succ s T va k
      have hln := secN_len s T va k
      by_cases p1 : x % 2 = 1
      · have k1 : bits .and .i64 x 1 = 1 := (and1 x x0 (by omega)).trans p1
        have e5 : sec1 s T va k = [enP x ((va : Int) + (k : Int) * 256) false] := by unfold sec1; rw [hx, if_pos p1]
        rw [e5] at hs5
        have HS5 : Hid _ := hs5
        have hwv : IntKind.i64.wrap ((va : Int) + (k : Int) * 256) = (va : Int) + (k : Int) * 256 := by rw [IntKind.wrap_i64]; have := VA.out; omega
        clear hs5 e5 p1 hx
        go_wp2_with (first | (go_at_call 33; refine Calls.mono (hEP.out k _ hlt) ?_; rintro e u2 ⟨rfl, hu2⟩; rw [hu2]; clear hu2) | (go_at_call 32; refine Calls.mono (hMW.out wr k _ (HM.out.below HB.out hbw) (by omega) hlt) ?_; rintro e u3 ⟨rfl, q3, hu3⟩; rw [HX.out, hu3]; clear hu3) | (go_at_call 37; refine (pageMapOf_any _ _ _ _).mono ?_; rintro e u4 ⟨rfl, hu4⟩; have HB4 : Hid (Below w.heap.size w u4) := (bdn HB.out q3).trans (hu4.mono HB.out.size); have HO4 : Hid _ := own_below4 (own_below4 HO.out (bdn (Below.refl _ _) q3)) hu4; clear hu4; simp only [pmA, enP]) | (at_builtin; refine wpList_append_own _ rfl _ _ 29 rfl w.heap.size 53 i0 (.agg #[.int .i64 0, .int .i64 0, .int .i64 0, .bool false]) 4 32 Try.underlying29 hi0 hz0 hz1 hz2 rfl (by decide) (.slice ao (secN s T va k).length cap) (secN s T va k).length (pmR (secN s T va k)) (by first | rfl | (simp [Act.eval]; done) | (simp [Act.eval, Act.put]; done)) (own_below4 HO4.out ((Below.refl _ _).alloc (Nat.le_refl _) _)) ⟨u4.heap.size, 0, none⟩ 1 1 (pmC (enP x ((va : Int) + (k : Int) * 256) false)) (by first | rfl | (simp [Act.eval]; done) | (simp [Act.eval, Act.put]; done)) rfl (pm_news u4 (enP x ((va : Int) + (k : Int) * 256) false)) (pm_one _) ?ca3 ?ca4 ?ca5 ?_))
        case ca3 => unfold maxLen; omega
        case ca4 => omega
        case ca5 => have := HB4.out.size; simp; omega
        intro v' w2 hown2 hgrow _
        obtain ⟨ao2, cap2, hv2⟩ := own_sl4 hown2
        subst hv2
        have HO2 : Hid _ := hown2
        have hb1 : Below w.heap.size w (u4.alloc (.cells #[.int .i64 ((va : Int) + (k : Int) * 256), .int .i64 (x / 256), .int .i64 (bits .and .i64 x 158), .bool false] 53)) := HB4.out.alloc HB4.out.size _
        have HB2 : Hid (Below w.heap.size w w2) := hb1.grown hgrow hb1.size (fun j hj => (World.ownsRow.lt HO4.out j hj).1)
        clear hown2 hgrow hb1
        go_wp2
        refine ⟨⟨k + 1, hlt, by simp, own_cast4 HO2.out (by rw [HS5.out]; simp) (by rw [HS5.out, pmR_app]; rfl), HB2.out⟩, ?_⟩
        simp [intOf]
        omega
      · have k1 : bits .and .i64 x 1 = 0 := (and1 x x0 (by omega)).trans (by omega)
        have e5 : sec1 s T va k = [] := by unfold sec1; rw [hx, if_neg p1]
        rw [e5, List.append_nil] at hs5
        have HS5 : Hid _ := hs5
        clear hs5 e5 p1 hx
        go_wp2_with (first | (go_at_call 33; refine Calls.mono (hEP.out k _ hlt) ?_; rintro e u2 ⟨rfl, hu2⟩; rw [hu2]; clear hu2) | (go_at_call 32; refine Calls.mono (hMW.out wr k _ (HM.out.below HB.out hbw) (by omega) hlt) ?_; rintro e u3 ⟨rfl, q3, hu3⟩; rw [HX.out, hu3]; clear hu3))
        refine ⟨⟨k + 1, hlt, by simp, own_cast4 (own_below4 HO.out (bdn (Below.refl _ _) q3)) (by rw [HS5.out]) (by rw [HS5.out]), bdn HB.out q3⟩, ?_⟩
        simp [intOf]
        omega
    · obtain rfl : k = 32 := by omega
      go_wp2
      go_ret
      exact ⟨_, rfl, HO.out, HB.out⟩
set_option maxRecDepth 100000 in
set_option maxHeartbeats 4000000 in
theorem tableMaps_no (b n : Nat) (X va : Int) (w : World) (hX : (n : Int) ≤ X) : Calls Try.prog 35 #[mv b n, .int .i64 X, .int .i64 va] w fun e w' => e = .returned (.slice none 0 0) ∧ w' = w := by
  have hh := fun w' => memHolds_any b n X w'
  rw [show (decide (0 ≤ X) && decide (X < (n : Int))) = false by simp; omega] at hh
  have HH : Hid _ := hh
  clear hh
  unfold mv at HH ⊢
  go_enter Try.func35, Try.ntmps35
  go_wp2_with (go_at_call 31; refine Calls.mono (HH.out _) ?_; rintro e u1 ⟨rfl, hu1⟩; rw [hu1]; clear hu1)
  go_ret
  exact ⟨rfl, rfl⟩
/-- A table's maps, whatever its number. -/
theorem tableMaps_any {w : World} {b n : Nat} {s : ByteArray} (hM : MemAt w b s) (hn : s.size = n * 256) (hs : s.size ≤ 65536) (X : Int) (hX : 0 ≤ X) (va : Nat) (hva : va ≤ 262143) :
    Calls Try.prog 35 #[mv b n, .int .i64 X, .int .i64 va] w fun e w' => ∃ v, e = .returned v ∧ w'.ownsRow w.heap.size 53 4 v (secA s X va).length (pmR (secA s X va)) ∧ Below w.heap.size w w' := by
  obtain ⟨T, rfl⟩ := Int.eq_ofNat_of_zero_le hX
  unfold secA
  by_cases h : ((T : Int) + 1) * 256 ≤ (s.size : Int)
  · rw [if_pos h]
    exact tableMaps_yes hM hn hs T (by omega) va hva
  · rw [if_neg h]
    refine Calls.mono (tableMaps_no b n T va w (by omega)) ?_
    rintro e w' ⟨rfl, rfl⟩
    exact ⟨_, rfl, World.ownsRow_nil _ _ _ _, Below.refl _ _⟩
end Go.Proofs.Ytgpfjbopekkflaa
