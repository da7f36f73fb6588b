import Derived.Test.YtnjilcmahooabalHex
namespace Go.Proofs.Ytnjilcmahooabal
open Go.ChangeShapes Go.WideShapes Go.ChangeAt Go.RowKit

theorem and15 (x : Int) (h0 : 0 ≤ x) (h1 : x ≤ 255) : bits .and .u8 x 15 = x % 16 := by
  rw [u8_and x 15 h0 (by omega) (by omega) (by omega)]
  obtain ⟨X, rfl⟩ := Int.eq_ofNat_of_zero_le h0
  rw [Int.toNat_natCast, show (15 : Int).toNat = 15 from rfl, nat_mask4]
  omega
def zer (n : Nat) : List UInt8 := List.replicate n 0
theorem made_zer (n : Nat) : (madeCells #[Value.int .u8 0] n).toList = cells8 (zer n) := by
  rw [toList_madeCells_one]
  simp [cells8, zer]
theorem at_zer0 (A : List UInt8) (n k : Nat) (hA : A.length = k) : (cells8 (A ++ zer (n + 2)))[k]? = some (.int .u8 0) := by
  subst hA
  have e : zer (n + 2) = 0 :: 0 :: zer n := rfl
  rw [e]
  simp [cells8]
theorem at_zer1 (A : List UInt8) (n k : Nat) (hA : A.length = k) : (cells8 (A ++ zer (n + 2)))[k + 1]? = some (.int .u8 0) := by
  subst hA
  have e : zer (n + 2) = 0 :: 0 :: zer n := rfl
  rw [e]
  simp [cells8]
theorem set2 (A : List UInt8) (n : Nat) (x y : UInt8) (k : Nat) (hA : A.length = k) : ((cells8 (A ++ zer (n + 2))).set k (.int .u8 x.toNat)).set (k + 1) (.int .u8 y.toNat) = cells8 ((A ++ [x, y]) ++ zer n) := by
  subst hA
  have e : zer (n + 2) = 0 :: 0 :: zer n := rfl
  rw [e]
  simp [cells8, List.set_append_right]

set_option maxHeartbeats 1000000 in
theorem implHex_in (s : ByteArray) (w : World) (hs : 2 * s.size ≤ 65536) :
    Calls Try.prog 18 #[.string s] w fun e w' => e = .returned (.string ⟨(hexL s s.size).toArray⟩) ∧ Below w.heap.size w w' := by
  obtain ⟨i0, hi, hz0, hz1, hz2⟩ := info_parts Try.info5
  go_enter Try.func18, Try.ntmps18
  go_wp2_with (at_make; refine wpList_make_full _ rfl _ _ 32 rfl w.heap.size 5 i0 (.int .u8 0) 1 Try.underlying32 hi hz0 hz1 _ _ _ _ (2 * s.size) rfl rfl (by omega) (by omega) ?b2 ?b3 (Nat.le_refl _) ?_)
  case b2 => rw [hz2]; omega
  case b3 => unfold maxLen; omega
  intro w1 hown1 hgrow1
  go_wp2
  have hbl1 : Below w.heap.size w w1 := (Below.refl _ _).grown hgrow1 (Nat.le_refl _) (fun j hj => by cases hj)
  have hown2 : w1.ownsRow w.heap.size 5 1 (.slice (some ⟨w.heap.size, 0, none⟩) (2 * s.size) (2 * s.size)) (2 * s.size) (cells8 (hexL s 0 ++ zer (2 * (s.size - 0)))) := own_cast hown1 rfl ((made_zer (2 * s.size)).trans rfl)
  clear hown1 hgrow1
  go_loopw [15] (fun i wr => ∃ k : Nat, k ≤ s.size ∧ i = .int .i64 k ∧ wr.ownsRow w.heap.size 5 1 (.slice (some ⟨w.heap.size, 0, none⟩) (2 * s.size) (2 * s.size)) (2 * s.size) (cells8 (hexL s k ++ zer (2 * (s.size - k)))) ∧ Below w.heap.size w wr) (fun i _ => s.size - (intOf i).toNat)
  case atStart => exact ⟨0, Nat.zero_le _, rfl, hown2, hbl1⟩
  case round =>
    obtain ⟨k, hk, rfl, hown, hbl⟩ := hrel
    clear hown2 hbl1
    by_cases hlt : k < s.size
    · have ix := fun w => idx_str s k hlt w k rfl
      obtain ⟨b0, b1⟩ := bt_b s k
      have d1 := idx_dig (bt s k / 16) (by omega) (by omega)
      have d2 := idx_dig (bt s k % 16) (by omega) (by omega)
      have e1 := and15 (bt s k) b0 b1
      have hl := hexL_len s k
      rw [show 2 * (s.size - k) = 2 * (s.size - (k + 1)) + 2 from by omega] at hown
      have hc0 : wr.cell? ⟨w.heap.size, 2 * k, none⟩ = some (.int .u8 0) := (hown.cellAt (2 * k) (by omega)).trans (at_zer0 _ _ _ hl)
      have hc1 : wr.cell? ⟨w.heap.size, 2 * k + 1, none⟩ = some (.int .u8 0) := (hown.cellAt (2 * k + 1) (by omega)).trans (at_zer1 _ _ _ hl)
      have hf0 := hown.frozenAt (2 * k)
      have hf1 := hown.frozenAt (2 * k + 1)
      have st1 := hown.stored (2 * k) (.int .u8 (hxu (bt s k / 16)).toNat)
      have st2 := st1.1.stored (2 * k + 1) (.int .u8 (hxu (bt s k % 16)).toNat)
      have ST : Hid (((wr.setCell ⟨w.heap.size, 2 * k, none⟩ (.int .u8 (hxu (bt s k / 16)).toNat)).setCell ⟨w.heap.size, 2 * k + 1, none⟩ (.int .u8 (hxu (bt s k % 16)).toNat)).ownsRow w.heap.size 5 1 (.slice (some ⟨w.heap.size, 0, none⟩) (2 * s.size) (2 * s.size)) (2 * s.size) (cells8 (hexL s (k + 1) ++ zer (2 * (s.size - (k + 1)))))) := own_cast st2.1 rfl (set2 _ _ _ _ _ hl)
      clear st1 st2 hl
      go_wp2
      exact ⟨⟨k + 1, by omega, by go_num, ST.out, (hbl.setCell (Nat.le_refl _) _).setCell (Nat.le_refl _) _⟩, by simp [intOf]; omega⟩
    · obtain rfl : k = s.size := by omega
      rw [show 2 * (s.size - s.size) = 0 from by omega, show hexL s s.size ++ zer 0 = hexL s s.size from by simp [zer]] at hown
      have hcv := conv_own wr _ _ _ _ hown
      go_wp2
      go_ret
      exact ⟨rfl, hbl⟩
end Go.Proofs.Ytnjilcmahooabal
