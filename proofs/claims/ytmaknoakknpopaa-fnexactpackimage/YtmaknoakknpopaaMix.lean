import Derived.Test.YtmaknoakknpopaaBytes
import Derived.Test.YtmaknoakknpopaaMod
namespace Go.Proofs.Ytmaknoakknpopaa
open Go.ChangeShapes Go.WideShapes Go.ChangeAt Go.RowKit

def mixTo (s : ByteArray) (sd : Int) : Nat → Int
  | 0 => sd % 2147483629 + 1
  | k + 1 => (mixTo s sd k * 65599 + bt s k + 1) % 2147483629
theorem mix_b (s : ByteArray) (sd : Int) : ∀ k, 0 ≤ mixTo s sd k ∧ mixTo s sd k ≤ 2147483629
  | 0 => by simp only [mixTo]; omega
  | k + 1 => by simp only [mixTo]; omega
def mixv (s : ByteArray) (sd : Int) : Int := if 65536 < s.size then 0 else (mixTo s sd s.size * 40503 + 77) % 2147483629

theorem specMix_any (s : ByteArray) (sd : Int) (w : World) (hs : s.size ≤ 1048576) :
    Calls Try.prog 49 #[.string s, .int .i64 sd] w fun e w' => e = .returned (.int .i64 (mixv s sd)) ∧ w' = w := by
  by_cases hl : 65536 < s.size
  · have E : Hid (mixv s sd = 0) := if_pos hl
    go_enter Try.func49, Try.ntmps49
    go_wp2_with fail
    go_ret
    exact ⟨ret_int E.out.symm, rfl⟩
  · have E : Hid (mixv s sd = (mixTo s sd s.size * 40503 + 77) % 2147483629) := if_neg hl
    go_enter Try.func49, Try.ntmps49
    go_wp2_with (go_at_call 71; refine (l01Mod_any _ _ _ (by omega) (by omega)).mono ?_; rintro e u1 ⟨rfl, hw1⟩; subst hw1)
    go_loop [5, 6] (fun n i => ∃ k : Nat, k ≤ s.size ∧ i = .int .i64 k ∧ n = .int .i64 (mixTo s sd k)) (fun _ i => s.size - (intOf i).toNat)
    case atStart => exact ⟨0, by omega, rfl, rfl⟩
    case round =>
      obtain ⟨k, hk, rfl, rfl⟩ := hrel
      obtain ⟨b0, b1⟩ := mix_b s sd k
      by_cases hlt : k < s.size
      · have i0 := fun w => idx_str s k hlt w k rfl
        obtain ⟨c0, c1⟩ := bt_b s k
        go_wp2
        refine ⟨⟨k + 1, by omega, by go_num, rfl⟩, by simp [intOf]; omega⟩
      · obtain rfl : k = s.size := by omega
        go_wp2
        go_ret
        exact ⟨ret_int E.out.symm, rfl⟩

theorem mix_seed (sd : Int) : (sd.tmod 2147483629 + 2147483629) % 2147483629 = sd % 2147483629 := by
  have h1 := Int.tmod_eq_emod (a := sd) (b := 2147483629)
  split at h1 <;> omega
theorem tmod_bd (sd : Int) : -2147483629 < sd.tmod 2147483629 ∧ sd.tmod 2147483629 < 2147483629 := by
  have h1 := Int.tmod_eq_emod (a := sd) (b := 2147483629)
  split at h1 <;> omega

theorem implMix_any (s : ByteArray) (sd : Int) (w : World) (hs : s.size ≤ 1048576) :
    Calls Try.prog 54 #[.string s, .int .i64 sd] w fun e w' => e = .returned (.int .i64 (mixv s sd)) ∧ w' = w := by
  by_cases hl : 65536 < s.size
  · have hd : decide (65536 < (s.size : Int)) = true := by simp; omega
    have E : Hid (mixv s sd = 0) := if_pos hl
    go_enter Try.func54, Try.ntmps54
    go_wp2_with (go_at_call 68; refine (tooLong_any _ _).mono ?_; rintro e u1 ⟨rfl, hw1⟩; subst hw1)
    go_ret
    exact ⟨ret_int E.out.symm, rfl⟩
  · have hd : decide (65536 < (s.size : Int)) = false := by simp; omega
    have E : Hid (mixv s sd = (mixTo s sd s.size * 40503 + 77) % 2147483629) := if_neg hl
    obtain ⟨t0, t1⟩ := tmod_bd sd
    have hm := mix_seed sd
    go_enter Try.func54, Try.ntmps54
    go_wp2_with (go_at_call 68; refine (tooLong_any _ _).mono ?_; rintro e u1 ⟨rfl, hw1⟩; subst hw1)
    go_loop [5, 16] (fun n i => ∃ k : Nat, k ≤ s.size ∧ i = .int .i64 k ∧ n = .int .i64 (mixTo s sd k)) (fun _ i => s.size - (intOf i).toNat)
    case atStart => exact ⟨0, by omega, rfl, rfl⟩
    case round =>
      obtain ⟨k, hk, rfl, rfl⟩ := hrel
      obtain ⟨b0, b1⟩ := mix_b s sd k
      clear hm t0 t1
      by_cases hlt : k < s.size
      · have i0 := fun w => idx_str s k hlt w k rfl
        obtain ⟨c0, c1⟩ := bt_b s k
        go_wp2
        refine ⟨⟨k + 1, by omega, by go_num, rfl⟩, by simp [intOf]; omega⟩
      · obtain rfl : k = s.size := by omega
        go_wp2
        go_ret
        exact ⟨ret_int E.out.symm, rfl⟩
end Go.Proofs.Ytmaknoakknpopaa
