import Derived.Test.YtnjilcmahooabaaPutBitS
import Derived.Test.YtnjilcmahooabaaPutBitI
import Derived.Test.YtnjilcmahooabaaCountBitsI
import Derived.Test.YtnjilcmahooabaaNextBitI
import Derived.Test.YtnjilcmahooabaaSrc3
import Derived.Test.YtnjilcmahooabaaCode
namespace Go.Proofs.Ytnjilcmahooabaa
open Go.ChangeShapes Go.WideShapes Go.ChangeAt Go.RowKit

theorem T_size (s : ByteArray) (m : Nat) (on : Bool) : (⟨(pb s m on).toArray⟩ : ByteArray).size = s.size + (m / 8 + 1 - s.size) := by
  show (pb s m on).toArray.size = _
  rw [List.size_toArray]
  unfold pb
  rw [List.length_set, bl_len]
theorem T_bt (s : ByteArray) (m : Nat) (on : Bool) (j : Nat) : bt ⟨(pb s m on).toArray⟩ j = if j = m / 8 then ((nb (bt s (m / 8)) (m % 8) on).toNat : Int) else bt s j := by
  have hsz := T_size s m on
  by_cases hj : j < s.size + (m / 8 + 1 - s.size)
  · have hj' : j < (⟨(pb s m on).toArray⟩ : ByteArray).size := by rw [hsz]; exact hj
    rw [← bt_list _ j hj']
    show (((pb s m on).getD j 0).toNat : Int) = _
    unfold pb
    by_cases e : j = m / 8
    · subst e
      rw [if_pos rfl, List.getD_eq_getElem?_getD, List.getElem?_set_self (by rw [bl_len]; exact hj)]
      rfl
    · rw [if_neg e, List.getD_eq_getElem?_getD, List.getElem?_set_ne (fun h => e h.symm), ← List.getD_eq_getElem?_getD]
      have h1 := bl_at s (m / 8) j
      have ⟨h2, _⟩ := bt_b s j
      omega
  · have h1 : bt ⟨(pb s m on).toArray⟩ j = 0 := by unfold bt; rw [dif_neg (by rw [hsz]; exact hj)]
    have h2 : bt s j = 0 := by unfold bt; rw [dif_neg (by omega)]
    rw [h1, h2, if_neg (by omega)]
theorem cast_bit (X k : Nat) : ((X : Int) / 2 ^ k % 2 == 1) = decide (X / 2 ^ k % 2 = 1) := by
  rw [Bool.eq_iff_iff]
  simp
  have : ((X : Int) / 2 ^ k % 2) = ((X / 2 ^ k % 2 : Nat) : Int) := by simp
  rw [this]
  omega
theorem T_hb (s : ByteArray) (m : Nat) (on : Bool) (hs : s.size ≤ 100) (hm : m ≤ 800) (i : Nat) : hb ⟨(pb s m on).toArray⟩ i = if i = m then on else hb s i := by
  have hsz := T_size s m on
  rw [hb_bit _ i (by rw [hsz]; omega), hb_bit s i (by omega), T_bt]
  have ⟨b0, b1⟩ := bt_b s (m / 8)
  by_cases e : i / 8 = m / 8
  · rw [if_pos e, nb_nat _ _ _ b0 b1 (by omega), e]
    obtain ⟨X, hX⟩ := Int.eq_ofNat_of_zero_le b0
    rw [hX, Int.toNat_natCast, cast_bit, cast_bit]
    have f1 := fin_bit ⟨X, by omega⟩ ⟨m % 8, by omega⟩ ⟨i % 8, by omega⟩
    have f2 := fin_bit0 ⟨X, by omega⟩ ⟨m % 8, by omega⟩ ⟨i % 8, by omega⟩
    simp only [Fin.mk.injEq] at f1 f2
    unfold nbN
    by_cases e2 : i = m
    · subst e2
      rw [if_pos rfl]
      cases on
      · simp only [if_true] at f2
        simp [f2]
      · simp only [if_true] at f1
        simp [f1]
    · have e3 : ¬ i % 8 = m % 8 := by omega
      rw [if_neg e2]
      cases on
      · simp only [e3, if_false] at f2
        simp [f2]
      · simp only [e3, if_false] at f1
        simp [f1]
  · rw [if_neg e, if_neg (by intro h; exact e (by rw [h]))]
theorem cnt_stop (T : ByteArray) : ∀ d, cnt T (8 * T.size + d) = cnt T (8 * T.size)
  | 0 => rfl
  | d + 1 => by
    rw [← Nat.add_assoc]
    simp only [cnt]
    rw [cnt_stop T d, hb_out T ((8 * T.size + d : Nat) : Int) (by omega)]
    simp
theorem nxt_here (T : ByteArray) (m : Nat) (on : Bool) (hs : T.size ≤ 65536) (hm : m < 8 * T.size) (h : hb T m = on) : nxt T m on = m := by
  unfold nxt
  rw [if_neg (by omega)]
  have e : (imax 0 (m : Int)).toNat = m := by unfold imax; split <;> omega
  rw [e]
  exact (scan_hit T on m 0 (by omega) rfl (by simpa using h)).trans (by simp)

set_option maxHeartbeats 1000000 in
theorem drawPutBit_any (a : Option Addr) (len cap : Nat) (w : World) (hcode : CodeAt w w.heap.size a len) (hl : len ≤ 1048576) :
    Calls Try.prog 12 #[.slice a len cap] w fun e w' => ∃ (s : ByteArray) (n : Int) (o : Bool), e = .returned (.tuple #[.string s, .int .i64 n, .bool o]) ∧ s.size ≤ 65540 ∧ -2 ≤ n ∧ n ≤ 524288 ∧ Below w.heap.size w w' := by
  go_enter Try.func12, Try.ntmps12
  go_wp2_with fail
  refine (l01Source_any a len cap w hcode hl).mono ?_
  rintro e w1 ⟨rfl, hs1, hb1⟩
  clear hcode
  go_wp2_with fail
  refine (src_n w.heap.size a len cap 70 w1 hs1 (by omega)).mono ?_
  rintro e w2 ⟨r2, rfl, p2, q2, hs2, hg2⟩
  have hr2 : r2 < 70 := by omega
  clear q2
  go_wp2_with fail
  refine (src_one w.heap.size a len cap 30 w2 hs2 (by omega)).mono ?_
  rintro e w3 ⟨o3, rfl, hs3, hg3⟩
  have G3 : Hid (w1.grownBy w3 (some w.heap.size)) := Lib.grownBy_trans hg2 hg3
  clear hg2 hg3 hs1 hs2
  cases o3
  · go_wp2_with fail
    refine (src_set w.heap.size a len cap w3 hs3).mono ?_
    rintro e w4 ⟨s, rfl, hs, hs4, hg4⟩
    go_wp2_with fail
    refine (src_one w.heap.size a len cap 2 w4 hs4 (by omega)).mono ?_
    rintro e w5 ⟨o5, rfl, hs5, hg5⟩
    go_wp2
    go_ret3
    exact ⟨_, _, _, rfl, hs, by omega, by omega, hb1.grown (Lib.grownBy_trans (Lib.grownBy_trans G3.out hg4) hg5) hb1.size (fun k hk => by cases hk; exact Nat.le_refl _)⟩
  · go_wp2_with fail
    refine (src_n w.heap.size a len cap 3 w3 hs3 (by omega)).mono ?_
    rintro e w6 ⟨r6, rfl, p6, q6, hs6, hg6⟩
    have hr6 : r6 < 3 := by omega
    clear q6
    go_wp2_with fail
    refine (src_set w.heap.size a len cap w6 hs6).mono ?_
    rintro e w4 ⟨s, rfl, hs, hs4, hg4⟩
    go_wp2_with fail
    refine (src_one w.heap.size a len cap 2 w4 hs4 (by omega)).mono ?_
    rintro e w5 ⟨o5, rfl, hs5, hg5⟩
    go_wp2
    go_ret3
    exact ⟨_, _, _, rfl, hs, by omega, by omega, hb1.grown (Lib.grownBy_trans (Lib.grownBy_trans (Lib.grownBy_trans G3.out hg6) hg4) hg5) hb1.size (fun k hk => by cases hk; exact Nat.le_refl _)⟩
end Go.Proofs.Ytnjilcmahooabaa
