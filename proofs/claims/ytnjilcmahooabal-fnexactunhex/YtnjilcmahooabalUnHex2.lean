import Derived.Test.YtnjilcmahooabalUnHex
namespace Go.Proofs.Ytnjilcmahooabal
open Go.ChangeShapes Go.WideShapes Go.ChangeAt Go.RowKit

theorem at_zer (A : List UInt8) (n k : Nat) (hA : A.length = k) : (cells8 (A ++ zer (n + 1)))[k]? = some (.int .u8 0) := by
  subst hA
  have e : zer (n + 1) = 0 :: zer n := rfl
  rw [e]
  simp [cells8]
theorem set1 (A : List UInt8) (n : Nat) (x : UInt8) (k : Nat) (hA : A.length = k) : (cells8 (A ++ zer (n + 1))).set k (.int .u8 x.toNat) = cells8 ((A ++ [x]) ++ zer n) := by
  subst hA
  have e : zer (n + 1) = 0 :: zer n := rfl
  rw [e]
  simp [cells8]

set_option maxHeartbeats 1000000 in
theorem implUnHex_in (s : ByteArray) (w : World) (hs : s.size ≤ 65536) (he : s.size % 2 = 0) :
    Calls Try.prog 20 #[.string s] w fun e w' => (∃ r, e = .returned (.string r) ∧ IsUn s r) ∧ Below w.heap.size w w' := by
  obtain ⟨i0, hi, hz0, hz1, hz2⟩ := info_parts Try.info5
  have ht : decide (65536 < (s.size : Int)) = false := by simp; omega
  have ht2 : ((s.size : Int) % 2 != 0) = false := by simp; omega
  go_enter Try.func20, Try.ntmps20
  go_wp2_with (first | (go_at_call 21; refine (tooLong_any _ _).mono ?_; rintro e u1 ⟨rfl, hw1⟩; subst hw1) | (at_make; refine wpList_make_full _ rfl _ _ 32 rfl u1.heap.size 5 i0 (.int .u8 0) 1 Try.underlying32 hi hz0 hz1 _ _ _ _ (s.size / 2) rfl rfl (by omega) (by omega) ?b2 ?b3 (Nat.le_refl _) ?_))
  case b2 => rw [hz2]; omega
  case b3 => unfold maxLen; omega
  intro w1 hown1 hgrow1
  go_wp2
  have hbl1 : Below u1.heap.size u1 w1 := (Below.refl _ _).grown hgrow1 (Nat.le_refl _) (fun j hj => by cases hj)
  have hown2 : w1.ownsRow u1.heap.size 5 1 (.slice (some ⟨u1.heap.size, 0, none⟩) (s.size / 2) (s.size / 2)) (s.size / 2) (cells8 (unL s 0 ++ zer (s.size / 2 - 0))) := own_cast hown1 rfl ((made_zer (s.size / 2)).trans rfl)
  clear hown1 hgrow1
  go_loopw [21] (fun i wr => ∃ k : Nat, k ≤ s.size / 2 ∧ i = .int .i64 k ∧ wr.ownsRow u1.heap.size 5 1 (.slice (some ⟨u1.heap.size, 0, none⟩) (s.size / 2) (s.size / 2)) (s.size / 2) (cells8 (unL s k ++ zer (s.size / 2 - k))) ∧ Below u1.heap.size u1 wr ∧ (∀ j, j < k → gd s j)) (fun i _ => s.size / 2 - (intOf i).toNat)
  case atStart => exact ⟨0, Nat.zero_le _, rfl, hown2, hbl1, fun j hj => by omega⟩
  case round =>
    obtain ⟨k, hk, rfl, hown, hbl, hall⟩ := hrel
    have HA : Hid (∀ j, j < k → gd s j) := hall
    clear hall hown2 hbl1
    by_cases hlt : k < s.size / 2
    · have ix0 := fun w => idx_str s (2 * k) (by omega) w (2 * (k : Int)) (by omega)
      have ix1 := fun w => idx_str s (2 * k + 1) (by omega) w (2 * (k : Int) + 1) (by omega)
      obtain ⟨b0, b1⟩ := bt_b s (2 * k)
      obtain ⟨b2, b3⟩ := bt_b s (2 * k + 1)
      obtain ⟨d0, d1⟩ := dg_b (bt s (2 * k))
      obtain ⟨d2, d3⟩ := dg_b (bt s (2 * k + 1))
      by_cases hg : gd s k
      · have g0 : 0 ≤ dg (bt s (2 * k)) := hg.1
        have g1 : 0 ≤ dg (bt s (2 * k + 1)) := hg.2
        have hu : ((ub s k).toNat : Int) = 16 * dg (bt s (2 * k)) + dg (bt s (2 * k + 1)) := ub_nat s k hg
        have hl := unL_len s k
        rw [show s.size / 2 - k = s.size / 2 - (k + 1) + 1 from by omega] at hown
        have hc0 : wr.cell? ⟨u1.heap.size, k, none⟩ = some (.int .u8 0) := (hown.cellAt k (by omega)).trans (at_zer _ _ _ hl)
        have hf0 := hown.frozenAt k
        have st1 := hown.stored k (.int .u8 (16 * dg (bt s (2 * k)) + dg (bt s (2 * k + 1))))
        have ST : Hid ((wr.setCell ⟨u1.heap.size, k, none⟩ (.int .u8 (16 * dg (bt s (2 * k)) + dg (bt s (2 * k + 1))))).ownsRow u1.heap.size 5 1 (.slice (some ⟨u1.heap.size, 0, none⟩) (s.size / 2) (s.size / 2)) (s.size / 2) (cells8 (unL s (k + 1) ++ zer (s.size / 2 - (k + 1))))) := own_cast st1.1 rfl (by rw [← hu]; exact set1 _ _ _ _ hl)
        have HN : Hid (∀ j, j < k + 1 → gd s j) := (show ∀ j, j < k + 1 → gd s j from fun j hj => by
          rcases Nat.lt_or_ge j k with h | h
          · exact HA.out j h
          · obtain rfl : j = k := by omega
            exact hg)
        clear st1 hl hu
        obtain ⟨v0, rfl⟩ : ∃ v0 : World, v0 = u1 := ⟨_, rfl⟩
        go_wp2_with (go_at_call 27; refine (indexByte_any _ _).mono ?_; rintro e u2 ⟨rfl, hw2⟩; subst hw2)
        exact ⟨⟨k + 1, by omega, by go_num, ST.out, hbl.setCell (Nat.le_refl _) _, HN.out⟩, by simp [intOf]; omega⟩
      · have hbad : Hid (IsUn s ⟨#[]⟩) := (show IsUn s ⟨#[]⟩ from .inr ⟨⟨k, hlt, hg⟩, rfl⟩)
        by_cases h1 : 0 ≤ dg (bt s (2 * k))
        · have h2 : dg (bt s (2 * k + 1)) < 0 := by
            rcases Int.lt_or_le (dg (bt s (2 * k + 1))) 0 with h | h
            · exact h
            · exact absurd ⟨h1, h⟩ hg
          go_wp2_with (go_at_call 27; refine (indexByte_any _ _).mono ?_; rintro e u2 ⟨rfl, hw2⟩; subst hw2)
          go_ret
          exact ⟨⟨_, rfl, hbad.out⟩, hbl⟩
        · have h2 : dg (bt s (2 * k)) < 0 := by omega
          go_wp2_with (go_at_call 27; refine (indexByte_any _ _).mono ?_; rintro e u2 ⟨rfl, hw2⟩; subst hw2)
          go_ret
          exact ⟨⟨_, rfl, hbad.out⟩, hbl⟩
    · obtain rfl : k = s.size / 2 := by omega
      rw [show s.size / 2 - s.size / 2 = 0 from by omega, show unL s (s.size / 2) ++ zer 0 = unL s (s.size / 2) from by simp [zer]] at hown
      have hcv := conv_own wr _ _ _ _ hown
      go_wp2
      go_ret
      exact ⟨⟨_, rfl, .inl ⟨HA.out, rfl⟩⟩, hbl⟩
theorem unhex_long (s : ByteArray) (w : World) (hs : s.size ≤ 1048576) (h : 65536 < s.size) :
    (Calls Try.prog 19 #[.string s] w fun e w' => e = .returned (.string ⟨#[]⟩) ∧ Below w.heap.size w w') ∧ (Calls Try.prog 20 #[.string s] w fun e w' => e = .returned (.string ⟨#[]⟩) ∧ Below w.heap.size w w') := by
  have ht : decide (65536 < (s.size : Int)) = true := by simp; omega
  constructor
  · go_enter Try.func19, Try.ntmps19
    go_wp2_with fail
    go_ret
    exact ⟨rfl, Below.refl _ _⟩
  · go_enter Try.func20, Try.ntmps20
    go_wp2_with (go_at_call 21; refine (tooLong_any _ _).mono ?_; rintro e u1 ⟨rfl, hw1⟩; subst hw1)
    go_ret
    exact ⟨rfl, Below.refl _ _⟩

theorem unhex_odd (s : ByteArray) (w : World) (hs : s.size ≤ 65536) (h : s.size % 2 = 1) :
    (Calls Try.prog 19 #[.string s] w fun e w' => e = .returned (.string ⟨#[]⟩) ∧ Below w.heap.size w w') ∧ (Calls Try.prog 20 #[.string s] w fun e w' => e = .returned (.string ⟨#[]⟩) ∧ Below w.heap.size w w') := by
  have ht : decide (65536 < (s.size : Int)) = false := by simp; omega
  have ht1 : ((s.size : Int) % 2 == 1) = true := by rw [beq_iff_eq]; omega
  have ht2 : ((s.size : Int) % 2 != 0) = true := by rw [bne_iff_ne]; omega
  constructor
  · go_enter Try.func19, Try.ntmps19
    go_wp2_with fail
    go_ret
    exact ⟨rfl, Below.refl _ _⟩
  · go_enter Try.func20, Try.ntmps20
    go_wp2_with (go_at_call 21; refine (tooLong_any _ _).mono ?_; rintro e u1 ⟨rfl, hw1⟩; subst hw1)
    go_ret
    exact ⟨rfl, Below.refl _ _⟩
end Go.Proofs.Ytnjilcmahooabal
