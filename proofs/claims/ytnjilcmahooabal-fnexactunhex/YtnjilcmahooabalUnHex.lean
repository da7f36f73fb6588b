import Derived.Test.YtnjilcmahooabalHex2
import Derived.Laws.Externs
namespace Go.Proofs.Ytnjilcmahooabal
open Go.ChangeShapes Go.WideShapes Go.ChangeAt Go.RowKit

def dg (c : Int) : Int := firstIdx DIG c.toNat.toUInt8

theorem dig_at (c : Int) (h0 : 0 ≤ c) (h1 : c ≤ 255) (i : Nat) (hi : i < 16) : (DIG[i]! == c.toNat.toUInt8) = decide (bt DIG i = c) := by
  have hs : i < DIG.size := hi
  rw [getElem!_pos DIG i hs, ← bt_eq DIG i hs]
  have e : c.toNat.toUInt8.toNat = c.toNat := by
    show (UInt8.ofNat c.toNat).toNat = _
    rw [UInt8.toNat_ofNat']; omega
  rw [Bool.eq_iff_iff]
  simp only [beq_iff_eq, decide_eq_true_eq]
  rw [← UInt8.toNat_inj, e]
  omega
theorem dg_hit (c : Int) (h0 : 0 ≤ c) (h1 : c ≤ 255) (j : Nat) (hj : j < 16) (ha : ∀ i, i < j → bt DIG i ≠ c) (hb : bt DIG j = c) : dg c = j := by
  unfold dg firstIdx
  have : (List.range DIG.size).find? (fun i => DIG[i]! == c.toNat.toUInt8) = some j := by
    rw [List.find?_range_eq_some]
    refine ⟨by rw [dig_at c h0 h1 j hj]; simpa using hb, List.mem_range.2 hj, fun i hi => ?_⟩
    rw [dig_at c h0 h1 i (by omega)]
    simpa using ha i hi
  rw [this]
theorem dg_none (c : Int) (h0 : 0 ≤ c) (h1 : c ≤ 255) (ha : ∀ i, i < 16 → bt DIG i ≠ c) : dg c = -1 := by
  unfold dg firstIdx
  have : (List.range DIG.size).find? (fun i => DIG[i]! == c.toNat.toUInt8) = none := by
    rw [List.find?_range_eq_none]
    intro i hi
    rw [dig_at c h0 h1 i hi]
    simpa using ha i hi
  rw [this]
theorem dg_b (c : Int) : -1 ≤ dg c ∧ dg c ≤ 15 := by
  unfold dg firstIdx
  split
  · rename_i i h
    have := List.mem_of_find?_eq_some h
    have hs : DIG.size = 16 := rfl
    rw [List.mem_range, hs] at this
    omega
  · omega

theorem ext_idx (s : ByteArray) (c : Int) (w : World) : (callFunc 29 #[.string s, .int .u8 c]).run Try.prog w = .ok (.value (.int .i64 (firstIdx s c.toNat.toUInt8))) w := by
  rw [run_callFunc_extern Try.func29 (by kernel_rfl) (by kernel_rfl) (by kernel_rfl) (e := Extern.BytealgIndexByte.indexByte) (by kernel_rfl), run_indexByte_string]
  rfl

theorem indexByte_any (c : Int) (w : World) :
    Calls Try.prog 27 #[.string { data := #[48, 49, 50, 51, 52, 53, 54, 55, 56, 57, 97, 98, 99, 100, 101, 102] }, .int .u8 c] w fun e w' => e = .returned (.int .i64 (dg c)) ∧ w' = w := by
  have hx : ∀ w, Sem.run Try.prog (callFunc 29 #[.string { data := #[48, 49, 50, 51, 52, 53, 54, 55, 56, 57, 97, 98, 99, 100, 101, 102] }, .int .u8 c]) w = .ok (.value (.int .i64 (dg c))) w := fun w => ext_idx DIG c w
  go_enter Try.func27, Try.ntmps27
  go_wp2
  go_ret
  exact ⟨rfl, rfl⟩

theorem l01Digit_any (c : Int) (w : World) (h0 : 0 ≤ c) (h1 : c ≤ 255) :
    Calls Try.prog 26 #[.int .u8 c] w fun e w' => e = .returned (.int .i64 (dg c)) ∧ w' = w := by
  go_enter Try.func26, Try.ntmps26
  go_wp2
  go_loop [3] (fun i => ∃ k : Nat, k ≤ 16 ∧ i = .int .i64 k ∧ ∀ j, j < k → bt DIG j ≠ c) (fun i => 16 - (intOf i).toNat)
  case atStart => exact ⟨0, by omega, rfl, fun j hj => by omega⟩
  case round =>
    obtain ⟨k, hk, rfl, hall⟩ := hrel
    have HA : Hid (∀ j, j < k → bt DIG j ≠ c) := hall
    clear hall
    by_cases hlt : k < 16
    · have ix : ∀ w, Sem.run Try.prog (Instr.index 9 (.string { data := #[48, 49, 50, 51, 52, 53, 54, 55, 56, 57, 97, 98, 99, 100, 101, 102] }) (.int .i64 (k : Int))) w = .ok (.int .u8 (bt DIG k)) w := fun w => idx_str DIG k hlt w k rfl
      cases hbv : (bt DIG k == c)
      · have HN : Hid (∀ j, j < k + 1 → bt DIG j ≠ c) := (show ∀ j, j < k + 1 → bt DIG j ≠ c from fun j hj => by
          rcases Nat.lt_or_ge j k with h | h
          · exact HA.out j h
          · obtain rfl : j = k := by omega
            simpa using hbv)
        go_wp2
        exact ⟨⟨k + 1, by omega, by go_num, HN.out⟩, by simp [intOf]; omega⟩
      · have HN : Hid (dg c = k) := dg_hit c h0 h1 k hlt HA.out (by simpa using hbv)
        go_wp2
        go_ret
        exact ⟨ret_int HN.out.symm, rfl⟩
    · obtain rfl : k = 16 := by omega
      go_wp2
      go_ret
      exact ⟨ret_int (dg_none c h0 h1 HA.out).symm, rfl⟩
def hv (s : ByteArray) (k : Nat) : Int := dg (bt s (2 * k))
def lv (s : ByteArray) (k : Nat) : Int := dg (bt s (2 * k + 1))
def gd (s : ByteArray) (k : Nat) : Prop := 0 ≤ hv s k ∧ 0 ≤ lv s k
def ub (s : ByteArray) (k : Nat) : UInt8 := UInt8.ofNat (16 * hv s k + lv s k).toNat
def unL (s : ByteArray) : Nat → List UInt8
  | 0 => []
  | k + 1 => unL s k ++ [ub s k]
theorem unL_len (s : ByteArray) : ∀ k, (unL s k).length = k
  | 0 => rfl
  | k + 1 => by simp [unL, unL_len s k]
theorem ub_nat (s : ByteArray) (k : Nat) (h : gd s k) : ((ub s k).toNat : Int) = 16 * hv s k + lv s k := by
  have h1 := dg_b (bt s (2 * k))
  have h2 := dg_b (bt s (2 * k + 1))
  unfold gd hv lv at h
  unfold ub hv lv
  rw [UInt8.toNat_ofNat']
  omega
theorem hl_b (s : ByteArray) (k : Nat) : -1 ≤ hv s k ∧ hv s k ≤ 15 ∧ -1 ≤ lv s k ∧ lv s k ≤ 15 := by
  have h1 := dg_b (bt s (2 * k))
  have h2 := dg_b (bt s (2 * k + 1))
  exact ⟨h1.1, h1.2, h2.1, h2.2⟩

/-- The value of a text of digits: the empty text where a pair is none. -/
def IsUn (s : ByteArray) (r : ByteArray) : Prop := ((∀ j, j < s.size / 2 → gd s j) ∧ r = ⟨(unL s (s.size / 2)).toArray⟩) ∨ ((∃ j, j < s.size / 2 ∧ ¬ gd s j) ∧ r = ⟨#[]⟩)
theorem IsUn.one {s r t : ByteArray} (h1 : IsUn s r) (h2 : IsUn s t) : r = t := by
  rcases h1 with ⟨a, rfl⟩ | ⟨⟨j, hj, b⟩, rfl⟩ <;> rcases h2 with ⟨c, rfl⟩ | ⟨⟨i, hi, d⟩, rfl⟩
  · rfl
  · exact absurd (a i hi) d
  · exact absurd (c j hj) b
  · rfl

set_option maxHeartbeats 1000000 in
theorem specUnHex_in (s : ByteArray) (w : World) (hs : s.size ≤ 65536) (he : s.size % 2 = 0) :
    Calls Try.prog 19 #[.string s] w fun e w' => (∃ r, e = .returned (.string r) ∧ IsUn s r) ∧ Below w.heap.size w w' := by
  obtain ⟨i0, hi, hz0, hz1, hz2⟩ := info_parts Try.info5
  have ht : decide (65536 < (s.size : Int)) = false := by simp; omega
  have ht2 : ((s.size : Int) % 2 == 1) = false := by rw [beq_eq_false_iff_ne]; omega
  go_enter Try.func19, Try.ntmps19
  go_wp2
  go_loopw [3, 4] (fun v i wr => ∃ k : Nat, k ≤ s.size / 2 ∧ i = .int .i64 (2 * (k : Int)) ∧ wr.ownsRow w.heap.size 5 1 v k (cells8 (unL s k)) ∧ Below w.heap.size w wr ∧ (∀ j, j < k → gd s j)) (fun _ i _ => s.size - (intOf i).toNat)
  case atStart => exact ⟨0, Nat.zero_le _, rfl, World.ownsRow_lit w #[] 0 (Nat.le_refl _) (by decide) rfl, (Below.refl _ _).alloc (Nat.le_refl _) _, fun j hj => by omega⟩
  case round =>
    obtain ⟨k, hk, rfl, hown, hbl, hall⟩ := hrel
    have HA : Hid (∀ j, j < k → gd s j) := hall
    clear hall
    by_cases hlt : k < s.size / 2
    · have ix0 := fun w => idx_str s (2 * k) (by omega) w (2 * (k : Int)) (by omega)
      have ix1 := fun w => idx_str s (2 * k + 1) (by omega) w (2 * (k : Int) + 1) (by omega)
      obtain ⟨b0, b1⟩ := bt_b s (2 * k)
      obtain ⟨b2, b3⟩ := bt_b s (2 * k + 1)
      obtain ⟨d0, d1⟩ := dg_b (bt s (2 * k))
      obtain ⟨d2, d3⟩ := dg_b (bt s (2 * k + 1))
      by_cases hg : gd s k
      · have g0 : 0 ≤ dg (bt s (2 * k)) := hg.1
        have g1 : 0 ≤ dg (bt s (2 * k + 1)) := hg.2
        go_wp2_with (first | (go_at_call 26; refine (l01Digit_any _ _ (by omega) (by omega)).mono ?_; rintro e u1 ⟨rfl, hw1⟩; subst hw1) | (at_builtin; refine wpList_append_own _ rfl _ _ 32 rfl w.heap.size 5 i0 (.int .u8 0) 1 1 Try.underlying32 hi hz0 hz1 hz2 rfl (by decide) _ _ _ rfl (hown.alloc _) ⟨u1.heap.size, 0, none⟩ 1 1 [.int .u8 (16 * dg (bt s (2 * k)) + dg (bt s (2 * k + 1)))] rfl rfl ?c1 ?c2 ?c3 ?c4 ?c5 ?_))
        case c1 => exact World.news_of_block (cs := #[.int .u8 (16 * dg (bt s (2 * k)) + dg (bt s (2 * k + 1)))]) (heap_alloc_new u1 _)
        case c2 => intro u hu; simp at hu; subst hu; rfl
        case c3 => unfold maxLen; omega
        case c4 => omega
        case c5 => have := hbl.size; simp; omega
        intro v' w2 hown2 hgrow _
        have HN : Hid (∀ j, j < k + 1 → gd s j) := (show ∀ j, j < k + 1 → gd s j from fun j hj => by
          rcases Nat.lt_or_ge j k with h | h
          · exact HA.out j h
          · obtain rfl : j = k := by omega
            exact hg)
        have hu : Hid (((ub s k).toNat : Int) = 16 * dg (bt s (2 * k)) + dg (bt s (2 * k + 1))) := ub_nat s k hg
        go_wp2
        go_roundw
        case rel =>
          refine ⟨k + 1, by omega, by go_num, own_cast hown2 rfl ?_, ?_, HN.out⟩
          · rw [unL, cells8_app, ← hu.out]; rfl
          · exact Below.grown (hbl.alloc hbl.size _) hgrow (by have := hbl.size; simp; omega) (fun j hj => (hown.lt j hj).1)
        case measure => simp [intOf]; omega
      · have hbad : Hid (IsUn s ⟨#[]⟩) := (show IsUn s ⟨#[]⟩ from .inr ⟨⟨k, hlt, hg⟩, rfl⟩)
        by_cases h1 : 0 ≤ dg (bt s (2 * k))
        · have h2 : dg (bt s (2 * k + 1)) < 0 := by
            rcases Int.lt_or_le (dg (bt s (2 * k + 1))) 0 with h | h
            · exact h
            · exact absurd ⟨h1, h⟩ hg
          go_wp2_with (go_at_call 26; refine (l01Digit_any _ _ (by omega) (by omega)).mono ?_; rintro e u1 ⟨rfl, hw1⟩; subst hw1)
          go_ret
          exact ⟨⟨_, rfl, hbad.out⟩, hbl⟩
        · have h2 : dg (bt s (2 * k)) < 0 := by omega
          go_wp2_with (go_at_call 26; refine (l01Digit_any _ _ (by omega) (by omega)).mono ?_; rintro e u1 ⟨rfl, hw1⟩; subst hw1)
          go_ret
          exact ⟨⟨_, rfl, hbad.out⟩, hbl⟩
    · obtain rfl : k = s.size / 2 := by omega
      have hcv := conv_own wr _ _ _ _ hown
      go_wp2
      go_ret
      exact ⟨⟨_, rfl, .inl ⟨HA.out, rfl⟩⟩, hbl⟩
end Go.Proofs.Ytnjilcmahooabal
