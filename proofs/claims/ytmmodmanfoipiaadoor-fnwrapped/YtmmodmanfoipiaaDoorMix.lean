import Derived.Test.YtmmodmanfoipiaaDoorBytes
import Derived.Test.YtmmodmanfoipiaaDoorMod
namespace Go.Proofs.YtmmodmanfoipiaaDoor
open Go.ChangeShapes Go.WideShapes Go.ChangeAt Go.RowKit

/-- A sum that goes on through the first k bytes of a text. -/
def mixR (x : Int) (s : ByteArray) : Nat → Int
  | 0 => x
  | k + 1 => (mixR x s k * 65599 + bt s k + 1) % 2147483629
theorem mixR_b {x : Int} (s : ByteArray) (h0 : 0 ≤ x) (h1 : x ≤ 2147483629) : ∀ k, 0 ≤ mixR x s k ∧ mixR x s k ≤ 2147483629
  | 0 => ⟨h0, h1⟩
  | k + 1 => by simp only [mixR]; omega
def mixS (sd : Int) : Int := sd % 2147483629 + 1
theorem mixS_b (sd : Int) : 0 ≤ mixS sd ∧ mixS sd ≤ 2147483629 := by unfold mixS; omega
def mixE (x : Int) : Int := (x * 40503 + 77) % 2147483629
theorem mixE_b (x : Int) : 0 ≤ mixE x ∧ mixE x ≤ 2147483628 := by unfold mixE; omega
def mixv (s : ByteArray) (sd : Int) : Int := if 65536 < s.size then 0 else mixE (mixR (mixS sd) s s.size)
theorem mixv_b (s : ByteArray) (sd : Int) : 0 ≤ mixv s sd ∧ mixv s sd ≤ 2147483628 := by
  unfold mixv
  split
  · omega
  · exact mixE_b _
theorem bt_app_l {a b : ByteArray} {k : Nat} (h : k < a.size) : bt (a ++ b) k = bt a k := by
  unfold bt
  rw [dif_pos (by rw [ByteArray.size_append]; omega), dif_pos h, ByteArray.getElem_append_left h]
theorem bt_app_r {a b : ByteArray} {k : Nat} : bt (a ++ b) (a.size + k) = bt b k := by
  unfold bt
  by_cases h : k < b.size
  · rw [dif_pos (by rw [ByteArray.size_append]; omega), dif_pos h, ByteArray.getElem_append_right (by omega)]
    simp
  · rw [dif_neg (by rw [ByteArray.size_append]; omega), dif_neg h]
theorem mixR_l (x : Int) (a b : ByteArray) : ∀ k, k ≤ a.size → mixR x (a ++ b) k = mixR x a k
  | 0, _ => rfl
  | k + 1, h => by simp only [mixR]; rw [mixR_l x a b k (by omega), bt_app_l (by omega)]
theorem mixR_r (x : Int) (a b : ByteArray) : ∀ k, mixR x (a ++ b) (a.size + k) = mixR (mixR x a a.size) b k
  | 0 => mixR_l x a b a.size (Nat.le_refl _)
  | k + 1 => by
    rw [← Nat.add_assoc]
    simp only [mixR]
    rw [mixR_r x a b k, bt_app_r]
theorem mixR_app (x : Int) (a b : ByteArray) : mixR x (a ++ b) (a ++ b).size = mixR (mixR x a a.size) b b.size := by
  rw [ByteArray.size_append, mixR_r]

theorem specMix_any (s : ByteArray) (sd : Int) (w : World) (hs : s.size ≤ 1048576) :
    Calls Tryd.prog 24 #[.string s, .int .i64 sd] w fun e w' => e = .returned (.int .i64 (mixv s sd)) ∧ w' = w := by
  by_cases hl : 65536 < s.size
  · have E : Hid (mixv s sd = 0) := if_pos hl
    go_enter Tryd.func24, Tryd.ntmps24
    go_wp2_with fail
    go_ret
    exact ⟨ret_int E.out.symm, rfl⟩
  · have E : Hid (mixv s sd = (mixR (mixS sd) s s.size * 40503 + 77) % 2147483629) := if_neg hl
    go_enter Tryd.func24, Tryd.ntmps24
    go_wp2_with (go_at_call 42; refine (l01Mod_any _ _ _ (by omega) (by omega)).mono ?_; rintro e u1 ⟨rfl, hw1⟩; subst hw1)
    go_loop [5, 6] (fun n i => ∃ k : Nat, k ≤ s.size ∧ i = .int .i64 k ∧ n = .int .i64 (mixR (mixS sd) s k)) (fun _ i => s.size - (intOf i).toNat)
    case atStart => exact ⟨0, by omega, rfl, rfl⟩
    case round =>
      obtain ⟨k, hk, rfl, rfl⟩ := hrel
      obtain ⟨b0, b1⟩ := mixR_b s (mixS_b sd).1 (mixS_b sd).2 k
      by_cases hlt : k < s.size
      · have i0 := fun w => idx_str s k hlt w k rfl
        obtain ⟨c0, c1⟩ := bt_b s k
        go_wp2
        refine ⟨⟨k + 1, by omega, by go_num, rfl⟩, by simp [intOf]; omega⟩
      · obtain rfl : k = s.size := by omega
        go_wp2
        go_ret
        exact ⟨ret_int E.out.symm, rfl⟩

theorem mix_seed (sd : Int) : (sd.tmod 2147483629 + 2147483629) % 2147483629 = sd % 2147483629 := by
  have h1 := Int.tmod_eq_emod (a := sd) (b := 2147483629)
  split at h1 <;> omega
theorem tmod_bd (sd : Int) : -2147483629 < sd.tmod 2147483629 ∧ sd.tmod 2147483629 < 2147483629 := by
  have h1 := Int.tmod_eq_emod (a := sd) (b := 2147483629)
  split at h1 <;> omega

theorem mixStart_any (sd : Int) (w : World) :
    Calls Tryd.prog 40 #[.int .i64 sd] w fun e w' => e = .returned (.int .i64 (mixS sd)) ∧ w' = w := by
  obtain ⟨t0, t1⟩ := tmod_bd sd
  have hm := mix_seed sd
  go_enter Tryd.func40, Tryd.ntmps40
  go_wp2
  go_ret
  exact ⟨rfl, rfl⟩
theorem mixEnd_any (x : Int) (w : World) (h0 : 0 ≤ x) (h1 : x ≤ 2147483629) :
    Calls Tryd.prog 38 #[.int .i64 x] w fun e w' => e = .returned (.int .i64 (mixE x)) ∧ w' = w := by
  go_enter Tryd.func38, Tryd.ntmps38
  go_wp2
  go_ret
  exact ⟨rfl, rfl⟩
theorem mixOn_any (x : Int) (s : ByteArray) (w : World) (h0 : 0 ≤ x) (h1 : x ≤ 2147483629) (hs : s.size ≤ 1048576) :
    Calls Tryd.prog 39 #[.int .i64 x, .string s] w fun e w' => e = .returned (.int .i64 (mixR x s s.size)) ∧ w' = w := by
  go_enter Tryd.func39, Tryd.ntmps39
  go_wp2
  go_loop [0, 8] (fun n i => ∃ k : Nat, k ≤ s.size ∧ i = .int .i64 k ∧ n = .int .i64 (mixR x s k)) (fun _ i => s.size - (intOf i).toNat)
  case atStart => exact ⟨0, by omega, rfl, rfl⟩
  case round =>
    obtain ⟨k, hk, rfl, rfl⟩ := hrel
    obtain ⟨b0, b1⟩ := mixR_b s h0 h1 k
    by_cases hlt : k < s.size
    · have i0 := fun w => idx_str s k hlt w k rfl
      obtain ⟨c0, c1⟩ := bt_b s k
      go_wp2
      refine ⟨⟨k + 1, by omega, by go_num, rfl⟩, by simp [intOf]; omega⟩
    · obtain rfl : k = s.size := by omega
      go_wp2
      go_ret
      exact ⟨rfl, rfl⟩
theorem implMix_any (s : ByteArray) (sd : Int) (w : World) (hs : s.size ≤ 1048576) :
    Calls Tryd.prog 19 #[.string s, .int .i64 sd] w fun e w' => e = .returned (.int .i64 (mixv s sd)) ∧ w' = w := by
  by_cases hl : 65536 < s.size
  · have hd : decide (65536 < (s.size : Int)) = true := by simp; omega
    have E : Hid (mixv s sd = 0) := if_pos hl
    go_enter Tryd.func19, Tryd.ntmps19
    go_wp2_with (go_at_call 37; refine (tooLong_any _ _).mono ?_; rintro e u1 ⟨rfl, hw1⟩; subst hw1)
    go_ret
    exact ⟨ret_int E.out.symm, rfl⟩
  · have hd : decide (65536 < (s.size : Int)) = false := by simp; omega
    have E : Hid (mixv s sd = mixE (mixR (mixS sd) s s.size)) := if_neg hl
    obtain ⟨t0, t1⟩ := mixS_b sd
    obtain ⟨r0, r1⟩ := mixR_b s t0 t1 s.size
    go_enter Tryd.func19, Tryd.ntmps19
    go_wp2_with first | (go_at_call 37; refine (tooLong_any _ _).mono ?_; rintro e u1 ⟨rfl, hw1⟩; subst hw1) | (go_at_call 40; refine (mixStart_any _ _).mono ?_; rintro e u1 ⟨rfl, hw1⟩; subst hw1) | (go_at_call 39; refine (mixOn_any _ _ _ t0 t1 hs).mono ?_; rintro e u1 ⟨rfl, hw1⟩; subst hw1) | (go_at_call 38; refine (mixEnd_any _ _ r0 r1).mono ?_; rintro e u1 ⟨rfl, hw1⟩; subst hw1)
    go_ret
    exact ⟨ret_int E.out.symm, rfl⟩
end Go.Proofs.YtmmodmanfoipiaaDoor
