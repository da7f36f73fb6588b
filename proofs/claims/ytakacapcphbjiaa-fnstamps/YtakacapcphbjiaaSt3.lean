import Derived.Test.YtakacapcphbjiaaSt2
namespace Go.Proofs.Ytakacapcphbjiaa
open Go.ChangeShapes Go.WideShapes Go.ChangeAt Go.RowKit

set_option maxRecDepth 100000 in
set_option maxHeartbeats 4000000 in
theorem specStamp_yes (n : Int) (w : World) (n0 : 0 ≤ n) (n1 : n < 3155760000) : Calls Try.prog 6 #[.int .i64 n] w fun e w' => ∃ y m d s, e = .returned (sA y m d s) ∧ StampAt n y m d s ∧ Below w.heap.size w w' := by
  have hq : n.tdiv 86400 = n / 86400 := Int.tdiv_eq_ediv_of_nonneg n0
  have hr : n.tmod 86400 = n % 86400 := Int.tmod_eq_emod_of_nonneg n0
  have hq0 : 0 ≤ n / 86400 := by omega
  have hq1 : n / 86400 < 36525 := by omega
  have hr0 : 0 ≤ n % 86400 := by omega
  have hr1 : n % 86400 < 86400 := by omega
  have n2 : ¬ n < 0 := by omega
  have n3 : ¬ 3155760000 ≤ n := by omega
  unfold StampAt
  generalize hD : n / 86400 = D at *
  generalize hS : n % 86400 = S at *
  have HT0 : Hid (T2 w ((w.alloc (.cells #[.int .i64 0, .int .i64 0, .int .i64 0, .int .i64 0] 23)).alloc (.cells #[.int .i64 2000, .int .i64 1, .int .i64 0, .int .i64 S] 23)) 2000 1 0 S) := T2.new _ _ _ _ _
  go_enter Try.func6, Try.ntmps6
  go_wp2_with fail
  generalize ((w.alloc (.cells #[.int .i64 0, .int .i64 0, .int .i64 0, .int .i64 0] 23)).alloc (.cells #[.int .i64 2000, .int .i64 1, .int .i64 0, .int .i64 S] 23)) = u0 at *
  go_loopw [3] (fun i wr => ∃ y m : Int, 2000 ≤ y ∧ 1 ≤ m ∧ m ≤ 12 ∧ 0 ≤ D - cy y - cm y m ∧ i = .int .i64 (D - cy y - cm y m) ∧ T2 w wr y m 0 S) (fun i _ => (intOf i).toNat)
  case atStart => exact ⟨2000, 1, by omega, by omega, by omega, by rw [cm_one]; unfold cy; omega, by rw [cm_one]; unfold cy; simp, HT0.out⟩
  case round =>
    obtain ⟨y, m, hy0, m0, m1, hd0, rfl, ht⟩ := hrel
    have hin := cm_in (y := y) m0 m1
    have hy1 : y ≤ 2099 := by
      have h9 : 0 ≤ D - cy y := by omega
      unfold cy at h9
      omega
    have HT : Hid (T2 w wr y m 0 S) := ht
    obtain ⟨c0, c1, c2, c3, cf⟩ := cel4 ht.b1
    have lt := ht.lt
    have HC : Hid (∀ u, Below wr.heap.size wr u → T2 w u y m 0 S) := fun u hu => HT.out.step hu
    clear ht
    have HM : Hid _ := fun u => l09Days_any y m u (by omega) m0 m1
    have hp := dm_pos y m
    have HSU2 : Hid (cm y (m + 1) = cm y m + dm y m) := cm_succ m0 m1
    have HSY : Hid (m = 12 → cy (y + 1) + cm y 1 = cy y + cm y m + dm y m) := fun h => by
      subst h
      have k := HSU2.out
      rw [show (12 : Int) + 1 = 13 from rfl, cm_end] at k
      rw [cy_succ, cm_one]
      omega
    have hdm : D - cy y - cm y m < 36525 := by
      have h9 : 0 ≤ cy y := by unfold cy; omega
      omega
    clear hin
    generalize hdd : dm y m = M at *
    generalize hx : D - cy y - cm y m = x at *
    by_cases hlt : M ≤ x
    · go_wp2_with fail
      clear c0 c1 c2 c3 cf lt
      refine Calls.mono (HM.out _) ?_
      rintro e u1 ⟨rfl, hb⟩
      have HT1 : Hid (T2 w u1 y m 0 S) := HT.out.step hb
      obtain ⟨c0, c1, c2, c3, cf⟩ := cel4 HT1.out.b1
      have lt := HT1.out.lt
      clear hb
      go_wp2_with fail
      clear c0 c1 c2 c3 cf lt
      refine Calls.mono (HM.out _) ?_
      rintro e u2 ⟨rfl, hb⟩
      have HT2 : Hid (T2 w u2 y m 0 S) := HT1.out.step hb
      obtain ⟨c0, c1, c2, c3, cf⟩ := cel4 HT2.out.b1
      have lt := HT2.out.lt
      clear hb
      by_cases h12 : m = 12
      · have HSY2 : Hid (cy (y + 1) + 0 = cy y + cm y m + M) := (show _ = _ by have := HSY.out h12; rw [cm_one] at this; exact this)
        clear HSY
        subst h12
        go_wp2_with fail
        go_roundw
        case rel => exact ⟨y + 1, 1, by omega, by omega, by omega, by rw [cm_one]; have := HSY2.out; omega, by rw [cm_one]; have := HSY2.out; go_num, ((HT2.out.setm _).setm _).sety _⟩
        case measure => simp [intOf]; omega
      · have h12' : m < 12 := by omega
        go_wp2_with fail
        go_roundw
        case rel => exact ⟨y, m + 1, by omega, by omega, by omega, by rw [HSU2.out]; omega, by rw [HSU2.out]; go_num, HT2.out.setm _⟩
        case measure => simp [intOf]; omega
    · go_wp2_with fail
      clear c0 c1 c2 c3 cf lt
      refine Calls.mono (HM.out _) ?_
      rintro e u1 ⟨rfl, hb⟩
      have HT1 : Hid (T2 w u1 y m 0 S) := HT.out.step hb
      obtain ⟨c0, c1, c2, c3, cf⟩ := cel4 HT1.out.b1
      obtain ⟨z0, z1, z2, z3, zf⟩ := cel4 HT1.out.b0
      have lt := HT1.out.lt
      have lt0 : w.heap.size < u1.heap.size := by omega
      have ne0 : ¬ w.heap.size = w.heap.size + 1 := by omega
      have ne1 : ¬ w.heap.size + 1 = w.heap.size := by omega
      clear hb
      go_wp2_with fail
      obtain ⟨U, hU, e1, f0, f1, f2, f3⟩ := bodyT2 (HT1.out.setd (x + 1))
      subst hU
      refine bodyPost_ret (v := sA y m (x + 1) S) ?_ rfl ⟨_, _, _, _, rfl, ⟨hy0, hy1, m0, m1, by omega, by omega, by rw [hdd]; omega, rfl⟩, e1⟩
      clear e1 HT HT1
      unfold sA
      simp only [results, Try.results6, go_sem]
      simp [go_sem, f0, f1, f2, f3]
set_option maxRecDepth 100000 in
set_option maxHeartbeats 4000000 in
theorem specStamp_no (n : Int) (w : World) (h : n < 0 ∨ 3155760000 ≤ n) : Calls Try.prog 6 #[.int .i64 n] w fun e w' => e = .returned (sA 0 0 0 0) ∧ Below w.heap.size w w' := by
  rcases h with h | h
  · go_enter Try.func6, Try.ntmps6
    go_wp2
    refine bodyPost_ret (v := sA 0 0 0 0) ?_ rfl ⟨rfl, (Below.refl _ _).alloc (Nat.le_refl _) _⟩
    unfold sA
    simp only [results, Try.results6, go_sem]
    simp [go_sem]
  · have h0 : ¬ n < 0 := by omega
    go_enter Try.func6, Try.ntmps6
    go_wp2
    refine bodyPost_ret (v := sA 0 0 0 0) ?_ rfl ⟨rfl, (Below.refl _ _).alloc (Nat.le_refl _) _⟩
    unfold sA
    simp only [results, Try.results6, go_sem]
    simp [go_sem]
end Go.Proofs.Ytakacapcphbjiaa
