import Derived.Test.YtmbdclbddbbdpaaPutBitL
import Derived.Test.YtmbdclbddbbdpaaConv
import Derived.Test.YtmbdclbddbbdpaaShelf
namespace Go.Proofs.Ytmbdclbddbbdpaa
open Go.ChangeShapes Go.WideShapes Go.ChangeAt Go.RowKit

theorem joined2 (u : World) (a b : ByteArray) (hsz : a.size + b.size ≤ 1099511627776) :
    Calls Try.prog 29 #[.slice (some ⟨u.heap.size, 0, none⟩) 2 2] (u.alloc (.cells #[.string a, .string b] 9)) fun e w' => e = .returned (.string ⟨(catB [a, b]).toArray⟩) ∧ Below u.heap.size u w' := by
  refine (joined_any u.heap.size 2 2 [a, b] _ rfl (by simp) ?_ (by omega) ?_).mono ?_
  · intro i hi
    match i, hi with
    | 0, _ => simp
    | 1, _ => simp
  · simp [catB]
    omega
  · rintro e w' ⟨rfl, hb⟩
    exact ⟨rfl, ((Below.refl u.heap.size u).alloc (Nat.le_refl _) _).trans (hb.mono (by simp))⟩
theorem rep_zer : ∀ M : Nat, Lib.repeatL [0] M = zer M
  | 0 => rfl
  | M + 1 => by
    rw [Lib.repeatL, rep_zer M]
    rfl
theorem zsize (M : Nat) : (⟨(zer M).toArray⟩ : ByteArray).size = M := by
  show (zer M).toArray.size = M
  rw [List.size_toArray]
  exact List.length_replicate
theorem catz (s : ByteArray) (k : Nat) : catB [s, ⟨(zer (k + 1 - s.size)).toArray⟩] = bl s k := by
  simp [catB, bl]
theorem repeat_any (M : Nat) (w : World) (hM : M ≤ 65536) :
    Calls Try.prog 50 #[.string { data := #[0] }, .int .i64 M] w fun e w' => e = .returned (.string ⟨(zer M).toArray⟩) ∧ Below w.heap.size w w' := by
  have h := Try.strings_Repeat { data := #[0] } M w (by omega) (by show 1 * M ≤ _; omega)
  rw [show (({ data := #[0] } : ByteArray).data.toList) = [0] from rfl, rep_zer] at h
  exact h

set_option maxRecDepth 100000 in
set_option maxHeartbeats 1000000 in
theorem implPutBit_in (s : ByteArray) (m : Nat) (on : Bool) (w : World) (hs : s.size ≤ 65536) (hm : m < 524288) :
    Calls Try.prog 52 #[.string s, .int .i64 m, .bool on] w fun e w' => e = .returned (.string ⟨(pb s m on).toArray⟩) ∧ Below w.heap.size w w' := by
  have ht : decide (65536 < (s.size : Int)) = false := by simp; omega
  have HX : Hid (max ((m : Int) / 8 + 1 - (s.size : Int)) 0 = ((m / 8 + 1 - s.size : Nat) : Int)) := (show max ((m : Int) / 8 + 1 - (s.size : Int)) 0 = ((m / 8 + 1 - s.size : Nat) : Int) by omega)
  have hM : m / 8 + 1 - s.size ≤ 65536 := by omega
  have hsz : s.size + (⟨(zer (m / 8 + 1 - s.size)).toArray⟩ : ByteArray).size ≤ 1099511627776 := by rw [zsize]; omega
  have HZ : Hid (s.size + (⟨(zer (m / 8 + 1 - s.size)).toArray⟩ : ByteArray).size ≤ 1099511627776) := hsz
  clear hsz
  go_enter Try.func52, Try.ntmps52
  go_wp2_with (go_at_call 57; refine (tooLong_any _ _).mono ?_; rintro e u1 ⟨rfl, hw1⟩; subst hw1)
  rw [HX.out]
  refine (repeat_any _ _ hM).mono ?_
  rintro e u2 ⟨rfl, hb2⟩
  go_wp2_with fail
  refine (joined2 _ _ _ HZ.out).mono ?_
  rintro e u3 ⟨rfl, hb3⟩
  rw [catz]
  have hb : Below u1.heap.size u1 u3 := hb2.trans (hb3.mono hb2.size)
  have hlen : (⟨(bl s (m / 8)).toArray⟩ : ByteArray).size = s.size + (m / 8 + 1 - s.size) := bl_len s (m / 8)
  have hL : (⟨(bl s (m / 8)).toArray⟩ : ByteArray).data.toList = bl s (m / 8) := rfl
  generalize (⟨(bl s (m / 8)).toArray⟩ : ByteArray) = S at *
  have hk : m / 8 < S.size := by omega
  have hkI : (m : Int) / 8 < (S.size : Int) := by omega
  have hx : bt S (m / 8) = bt s (m / 8) := by
    have h1 := bt_list S (m / 8) hk
    have h2 := bl_at s (m / 8) (m / 8)
    have ⟨h3, h4⟩ := bt_b s (m / 8)
    rw [hL] at h1
    omega
  have hcv := bw_conv u3 S
  have hc := bw_cell u3 S (m / 8) hk
  rw [hx] at hc
  have hf := bw_frozen u3 S (m / 8) hk
  have hbw := hb.trans ((bw_below u3 S).mono hb.size)
  have HB : Hid (Sem.run Try.prog (convert 61 9 (.slice (some ⟨u3.heap.size, 0, none⟩) S.size (grownCap u3 S.size 0 5))) ((Lib.bytesWorld u3 5 S).setCell ⟨u3.heap.size, m / 8, none⟩ (.int .u8 (nb (bt s (m / 8)) (m % 8) on).toNat)) =
      .ok (.string ⟨(pb s m on).toArray⟩) ((Lib.bytesWorld u3 5 S).setCell ⟨u3.heap.size, m / 8, none⟩ (.int .u8 (nb (bt s (m / 8)) (m % 8) on).toNat))) := (by
    have h := bw_back u3 S (m / 8) (grownCap u3 S.size 0 5) (nb (bt s (m / 8)) (m % 8) on) hk
    rw [hL] at h
    exact h)
  clear hlen hL hx hk HX HZ hM
  obtain ⟨b0, b1⟩ := bt_b s (m / 8)
  have hb1 := HB.out
  clear HB
  cases on
  · have ev := bits_off (bt s (m / 8)) (m % 8) b0 b1 (by omega)
    go_wp2
    go_ret
    exact ⟨rfl, hbw.setCell hb.size _⟩
  · have ev := bits_on (bt s (m / 8)) (m % 8) b0 b1 (by omega)
    go_wp2
    go_ret
    exact ⟨rfl, hbw.setCell hb.size _⟩

theorem implPutBit_out (s : ByteArray) (n : Int) (on : Bool) (w : World) (hs : s.size ≤ 1048576) (h : ¬ (s.size ≤ 65536 ∧ 0 ≤ n ∧ n < 524288)) :
    Calls Try.prog 52 #[.string s, .int .i64 n, .bool on] w fun e w' => e = .returned (.string ⟨#[]⟩) ∧ Below w.heap.size w w' := by
  by_cases h1 : s.size ≤ 65536
  · have ht : decide (65536 < (s.size : Int)) = false := by simp; omega
    by_cases h2 : n < 0
    · go_enter Try.func52, Try.ntmps52
      go_wp2_with (go_at_call 57; refine (tooLong_any _ _).mono ?_; rintro e u1 ⟨rfl, hw1⟩; subst hw1)
      go_ret
      exact ⟨rfl, Below.refl _ _⟩
    · have h3 : 524288 ≤ n := by omega
      go_enter Try.func52, Try.ntmps52
      go_wp2_with (go_at_call 57; refine (tooLong_any _ _).mono ?_; rintro e u1 ⟨rfl, hw1⟩; subst hw1)
      go_ret
      exact ⟨rfl, Below.refl _ _⟩
  · have ht : decide (65536 < (s.size : Int)) = true := by simp; omega
    go_enter Try.func52, Try.ntmps52
    go_wp2_with (go_at_call 57; refine (tooLong_any _ _).mono ?_; rintro e u1 ⟨rfl, hw1⟩; subst hw1)
    go_ret
    exact ⟨rfl, Below.refl _ _⟩
end Go.Proofs.Ytmbdclbddbbdpaa
