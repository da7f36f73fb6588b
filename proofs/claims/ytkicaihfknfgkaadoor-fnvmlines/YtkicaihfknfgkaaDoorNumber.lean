import Derived.Test.YtkicaihfknfgkaaDoorDec
namespace Go.Proofs.YtkicaihfknfgkaaDoor
open Go.ChangeShapes Go.WideShapes Go.ChangeAt Go.RowKit

/-- A text's digits from the left, k of them; none: another byte, or too great. -/
def numF (t : ByteArray) (neg : Bool) : Nat → Option Int
  | 0 => some 0
  | k + 1 => match numF t neg k with
    | none => none
    | some n => if (k == 0 && neg) = true then some n else if bt t k < 48 ∨ 57 < bt t k ∨ 1099511627776 < n then none else some (n * 10 + (bt t k - 48))
theorem numF_b (t : ByteArray) (neg : Bool) : ∀ k n, numF t neg k = some n → 0 ≤ n ∧ n ≤ 10995116277769
  | 0, n, h => by simp [numF] at h; omega
  | k + 1, n, h => by
    simp only [numF] at h
    cases h2 : numF t neg k with
    | none => rw [h2] at h; simp at h
    | some m =>
      rw [h2] at h
      have := numF_b t neg k m h2
      have b := bt_b t k
      simp only [] at h
      split at h
      · simp at h; omega
      · split at h
        · simp at h
        · simp at h; omega
def numV (t : ByteArray) : Int × Bool := match numF t (beg t ⟨#[45]⟩) t.size with
  | none => (0, false)
  | some n => let m := if beg t ⟨#[45]⟩ = true then -n else n; (m, (decB m).toList == t.toList)
theorem numF_none (t : ByteArray) (neg : Bool) (k : Nat) (h : numF t neg k = none) : ∀ j, numF t neg (k + j) = none
  | 0 => h
  | j + 1 => by rw [← Nat.add_assoc, numF, numF_none t neg k h j]
theorem numF_stop (t : ByteArray) (neg : Bool) (k : Nat) (n : Int) (hk : k < t.size) (h : numF t neg k = some n) (h0 : (k == 0 && neg) = false) (hb : bt t k < 48 ∨ 57 < bt t k ∨ 1099511627776 < n) : numF t neg t.size = none := by
  have := numF_none t neg (k + 1) (by rw [numF, h]; simp only [h0]; rw [if_neg (by decide), if_pos hb]) (t.size - (k + 1))
  rwa [show k + 1 + (t.size - (k + 1)) = t.size from by omega] at this
theorem numF_step (t : ByteArray) (neg : Bool) (k : Nat) (n : Int) (h : numF t neg k = some n) (h0 : (k == 0 && neg) = false) (hb : ¬ (bt t k < 48 ∨ 57 < bt t k ∨ 1099511627776 < n)) : numF t neg (k + 1) = some (n * 10 + (bt t k - 48)) := by
  rw [numF, h]; simp only [h0]; rw [if_neg (by decide), if_neg hb]
theorem numF_skip (t : ByteArray) : numF t true (0 + 1) = some 0 := rfl

set_option maxHeartbeats 1000000 in
theorem l02Number_any (t : ByteArray) (w : World) (hs : t.size ≤ 1048576) :
    Calls Tryd.prog 25 #[.string t] w fun e w' => e = .returned (.tuple #[.int .i64 (numV t).1, .bool (numV t).2]) ∧ Below w.heap.size w w' := by
  obtain ⟨V, hV⟩ : ∃ V, numV t = V := ⟨_, rfl⟩
  rw [hV]
  have HV : Hid (numV t = V) := hV
  clear hV
  cases hneg : beg t ⟨#[45]⟩
  · go_enter Tryd.func25, Tryd.ntmps25
    go_wp2_with (go_at_call 24; refine (l01Begins_any _ _ _).mono ?_; rintro e u1 ⟨rfl, hw1⟩; rw [hneg, hw1]; clear hw1 u1)
    go_loopw [4, 6] (fun x i wr => ∃ (k : Nat) (n : Int), k ≤ t.size ∧ i = .int .i64 k ∧ x = .int .i64 n ∧ wr = w ∧ numF t false k = some n) (fun _ i _ => t.size - (intOf i).toNat)
    case atStart => exact ⟨0, 0, Nat.zero_le _, rfl, rfl, rfl, rfl⟩
    case round =>
      obtain ⟨k, n, hk, rfl, rfl, rfl, hn⟩ := hrel
      obtain ⟨n0, n1⟩ := numF_b _ _ _ _ hn
      have HN : Hid (numF t false k = some n) := hn
      clear hn
      by_cases hlt : k < t.size
      · obtain ⟨b0, b1⟩ := bt_b t k
        by_cases hk0 : k = 0
        · subst hk0
          have ix := fun w => idx_str t 0 hlt w 0 rfl
          by_cases hb : bt t 0 < 48 ∨ 57 < bt t 0 ∨ 1099511627776 < n
          · have HE : Hid (V = (0, false)) := (show V = (0, false) from by rw [← HV.out]; unfold numV; rw [hneg, numF_stop t false 0 n hlt HN.out (by simp) hb])
            clear HN
            by_cases hb1 : bt t 0 < 48
            · go_wp2_with fail
              exact bodyPost_ret (v := .tuple #[.int .i64 0, .bool false]) (by simp [results, Tryd.results25, go_sem]) rfl ⟨by rw [HE.out], Below.refl _ _⟩
            by_cases hb2 : 57 < bt t 0
            · go_wp2_with fail
              exact bodyPost_ret (v := .tuple #[.int .i64 0, .bool false]) (by simp [results, Tryd.results25, go_sem]) rfl ⟨by rw [HE.out], Below.refl _ _⟩
            have hb3 : 1099511627776 < n := by omega
            go_wp2_with fail
            exact bodyPost_ret (v := .tuple #[.int .i64 0, .bool false]) (by simp [results, Tryd.results25, go_sem]) rfl ⟨by rw [HE.out], Below.refl _ _⟩
          · have HE : Hid (numF t false (0 + 1) = some (n * 10 + (bt t 0 - 48))) := numF_step t false 0 n HN.out (by simp) hb
            have q0 : 48 ≤ bt t 0 := by omega
            have q1 : bt t 0 ≤ 57 := by omega
            have q2 : n ≤ 1099511627776 := by omega
            clear HN hb
            go_wp2_with fail
            go_roundw
            case rel => exact ⟨0 + 1, _, by omega, by go_num, rfl, trivial, HE.out⟩
            case measure => simp [intOf]; omega
        · have hkne : ((k : Int) == 0) = false := by simp; omega
          have hkp : (0 : Int) < (k : Int) := by omega
          have ix := fun w => idx_str t k hlt w k rfl
          by_cases hb : bt t k < 48 ∨ 57 < bt t k ∨ 1099511627776 < n
          · have HE : Hid (V = (0, false)) := (show V = (0, false) from by rw [← HV.out]; unfold numV; rw [hneg, numF_stop t false k n hlt HN.out (by simp) hb])
            clear HN
            by_cases hb1 : bt t k < 48
            · go_wp2_with fail
              exact bodyPost_ret (v := .tuple #[.int .i64 0, .bool false]) (by simp [results, Tryd.results25, go_sem]) rfl ⟨by rw [HE.out], Below.refl _ _⟩
            by_cases hb2 : 57 < bt t k
            · go_wp2_with fail
              exact bodyPost_ret (v := .tuple #[.int .i64 0, .bool false]) (by simp [results, Tryd.results25, go_sem]) rfl ⟨by rw [HE.out], Below.refl _ _⟩
            have hb3 : 1099511627776 < n := by omega
            go_wp2_with fail
            exact bodyPost_ret (v := .tuple #[.int .i64 0, .bool false]) (by simp [results, Tryd.results25, go_sem]) rfl ⟨by rw [HE.out], Below.refl _ _⟩
          · have HE : Hid (numF t false (k + 1) = some (n * 10 + (bt t k - 48))) := numF_step t false k n HN.out (by simp) hb
            have q0 : 48 ≤ bt t k := by omega
            have q1 : bt t k ≤ 57 := by omega
            have q2 : n ≤ 1099511627776 := by omega
            clear HN hb
            go_wp2_with fail
            go_roundw
            case rel => exact ⟨k + 1, _, by omega, by go_num, rfl, trivial, HE.out⟩
            case measure => simp [intOf]; omega
      · obtain rfl : k = t.size := by omega
        have HE : Hid (V = (n, (decB n).toList == t.toList)) := (show V = (n, (decB n).toList == t.toList) from by rw [← HV.out]; unfold numV; rw [hneg, HN.out]; rfl)
        clear HN
        go_wp2_with (go_at_call 23; refine (l01Dec_any _ _ (by omega) (by omega)).mono ?_; rintro e u2 ⟨rfl, hw2⟩)
        exact bodyPost_ret (v := .tuple #[.int .i64 n, .bool ((decB n).toList == t.toList)]) (by simp [results, Tryd.results25, go_sem]) rfl ⟨by rw [HE.out], hw2⟩
  · go_enter Tryd.func25, Tryd.ntmps25
    go_wp2_with (go_at_call 24; refine (l01Begins_any _ _ _).mono ?_; rintro e u1 ⟨rfl, hw1⟩; rw [hneg, hw1]; clear hw1 u1)
    go_loopw [4, 6] (fun x i wr => ∃ (k : Nat) (n : Int), k ≤ t.size ∧ i = .int .i64 k ∧ x = .int .i64 n ∧ wr = w ∧ numF t true k = some n) (fun _ i _ => t.size - (intOf i).toNat)
    case atStart => exact ⟨0, 0, Nat.zero_le _, rfl, rfl, rfl, rfl⟩
    case round =>
      obtain ⟨k, n, hk, rfl, rfl, rfl, hn⟩ := hrel
      obtain ⟨n0, n1⟩ := numF_b _ _ _ _ hn
      have HN : Hid (numF t true k = some n) := hn
      clear hn
      by_cases hlt : k < t.size
      · obtain ⟨b0, b1⟩ := bt_b t k
        by_cases hk0 : k = 0
        · subst hk0
          have HE : Hid (numF t true (0 + 1) = some n) := HN.out
          clear HN
          go_wp2_with fail
          go_roundw
          case rel => exact ⟨0 + 1, n, by omega, by go_num, rfl, trivial, HE.out⟩
          case measure => simp [intOf]; omega
        · have hkne : ((k : Int) == 0) = false := by simp; omega
          have hkp : (0 : Int) < (k : Int) := by omega
          have ix := fun w => idx_str t k hlt w k rfl
          by_cases hb : bt t k < 48 ∨ 57 < bt t k ∨ 1099511627776 < n
          · have HE : Hid (V = (0, false)) := (show V = (0, false) from by rw [← HV.out]; unfold numV; rw [hneg, numF_stop t true k n hlt HN.out (by simp; omega) hb])
            clear HN
            by_cases hb1 : bt t k < 48
            · go_wp2_with fail
              exact bodyPost_ret (v := .tuple #[.int .i64 0, .bool false]) (by simp [results, Tryd.results25, go_sem]) rfl ⟨by rw [HE.out], Below.refl _ _⟩
            by_cases hb2 : 57 < bt t k
            · go_wp2_with fail
              exact bodyPost_ret (v := .tuple #[.int .i64 0, .bool false]) (by simp [results, Tryd.results25, go_sem]) rfl ⟨by rw [HE.out], Below.refl _ _⟩
            have hb3 : 1099511627776 < n := by omega
            go_wp2_with fail
            exact bodyPost_ret (v := .tuple #[.int .i64 0, .bool false]) (by simp [results, Tryd.results25, go_sem]) rfl ⟨by rw [HE.out], Below.refl _ _⟩
          · have HE : Hid (numF t true (k + 1) = some (n * 10 + (bt t k - 48))) := numF_step t true k n HN.out (by simp; omega) hb
            have q0 : 48 ≤ bt t k := by omega
            have q1 : bt t k ≤ 57 := by omega
            have q2 : n ≤ 1099511627776 := by omega
            clear HN hb
            go_wp2_with fail
            go_roundw
            case rel => exact ⟨k + 1, _, by omega, by go_num, rfl, trivial, HE.out⟩
            case measure => simp [intOf]; omega
      · obtain rfl : k = t.size := by omega
        have HE : Hid (V = ((-n), (decB (-n)).toList == t.toList)) := (show V = ((-n), (decB (-n)).toList == t.toList) from by rw [← HV.out]; unfold numV; rw [hneg, HN.out]; rfl)
        clear HN
        go_wp2_with (go_at_call 23; refine (l01Dec_any _ _ (by omega) (by omega)).mono ?_; rintro e u2 ⟨rfl, hw2⟩)
        exact bodyPost_ret (v := .tuple #[.int .i64 (-n), .bool ((decB (-n)).toList == t.toList)]) (by simp [results, Tryd.results25, go_sem]) rfl ⟨by rw [HE.out], hw2⟩
end Go.Proofs.YtkicaihfknfgkaaDoor
