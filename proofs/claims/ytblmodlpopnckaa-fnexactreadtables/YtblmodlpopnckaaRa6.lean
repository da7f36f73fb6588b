import Derived.Test.YtblmodlpopnckaaRa5
namespace Go.Proofs.Ytblmodlpopnckaa
open Go.ChangeShapes Go.WideShapes Go.ChangeAt Go.RowKit

theorem wvB (s : ByteArray) (k : Nat) : 0 ≤ wv s k ∧ wv s k < 4294967296 := by
  have := bt_b s k
  have := bt_b s (k + 1)
  have := bt_b s (k + 2)
  have := bt_b s (k + 3)
  unfold wv
  omega
/-- The sum of a text's words. -/
def wsT (P : ByteArray) : Nat → Int
  | 0 => 0
  | k + 1 => wsT P k + wv P (4 * k)
theorem wsT_b (P : ByteArray) : ∀ k : Nat, 0 ≤ wsT P k ∧ wsT P k ≤ 4294967296 * k
  | 0 => by simp [wsT]
  | k + 1 => by
    have h1 := wsT_b P k
    have h2 := wvB P (4 * k)
    simp only [wsT]
    omega
set_option maxRecDepth 100000 in
set_option maxHeartbeats 8000000 in
theorem l21WordsT_any {P : ByteArray} {n : Nat} (hsz : P.size = 4 * n) (ht : n ≤ 100) (w : World) : Calls Try.prog 19 #[.string P] w fun e w' => e = .returned (.int .i64 (wsT P n)) ∧ Below w.heap.size w w' := by
  have HW : Hid (∀ (k : Nat) (i : Int) u, k < n → i = ((4 * k : Nat) : Int) → Calls Try.prog 17 #[.string P, .int .i64 i] u fun e w' => e = .returned (.int .i64 (wv P (4 * k))) ∧ Below u.heap.size u w') := (fun k i u hk hi => by
    rw [hi]
    have h9 := l01Word_any P (4 * k) u (by omega) (by omega)
    refine h9.mono ?_
    rintro e w' ⟨rfl, q, rfl⟩
    exact ⟨rfl, bdn (Below.refl _ _) q⟩)
  go_enter Try.func19, Try.ntmps19
  go_wp2
  go_loopw [3, 4] (fun sm i wr => ∃ k : Nat, k ≤ n ∧ sm = .int .i64 (wsT P k) ∧ i = .int .i64 ((4 * k : Nat) : Int) ∧ Below w.heap.size w wr) (fun _ i _ => 1000 - (intOf i).toNat)
  case atStart => exact ⟨0, Nat.zero_le _, rfl, rfl, Below.refl _ _⟩
  case round =>
    obtain ⟨k, hk, rfl, rfl, hb⟩ := hrel
    have HB : Hid (Below w.heap.size w wr) := hb
    clear hb
    have hwb := wsT_b P k
    by_cases hlt : k < n
    · have hle : ((4 * k : Nat) : Int) + 4 ≤ (P.size : Int) := by omega
      have HWK : Hid (∀ (i : Int) u, i = ((4 * k : Nat) : Int) → Calls Try.prog 17 #[.string P, .int .i64 i] u fun e w' => e = .returned (.int .i64 (wv P (4 * k))) ∧ Below u.heap.size u w') := fun i u hi => HW.out k i u hlt hi
      have HN : Hid (wsT P (k + 1) = wsT P k + wv P (4 * k)) := rfl
      obtain ⟨y, hy⟩ : ∃ y, wv P (4 * k) = y := ⟨_, rfl⟩
      have hwB := wvB P (4 * k)
      rw [hy] at hwB
      have hy0 : 0 ≤ y := by omega
      have hy1 : y < 4294967296 := by omega
      clear hwB
      rw [hy] at HWK HN
      have hs1 : wsT P k ≤ 429496729600 := by omega
      obtain ⟨hs0, _⟩ := hwb
      generalize wsT P k = sm at *
      obtain ⟨j, hj⟩ : ∃ j : Nat, 4 * k = j := ⟨_, rfl⟩
      have HJ : Hid (4 * k = j) := hj
      rw [hj] at hle HWK
      rw [hj]
      have hjb : j ≤ 400 := by omega
      clear hj hy
      go_wp2_with fail
      refine Calls.mono (HWK.out _ _ (by omega)) ?_
      rintro e u1 ⟨rfl, hb⟩
      have HB1 : Hid (Below w.heap.size w u1) := HB.out.trans (hb.mono HB.out.size)
      clear hb
      go_wp2
      exact ⟨⟨k + 1, hlt, (by rw [HN.out]), (by have := HJ.out; refine congrArg (Value.int .i64) ?_; omega), HB1.out⟩, (by simp [intOf]; omega)⟩
    · have hke : k = n := by omega
      have hnle : ¬ (((4 * k : Nat) : Int) + 4 ≤ (P.size : Int)) := by omega
      have E : Hid (wsT P k = wsT P n) := (show _ = _ by rw [hke])
      obtain ⟨j, hj⟩ : ∃ j : Nat, 4 * k = j := ⟨_, rfl⟩
      rw [hj] at hnle
      rw [hj]
      have hjb : j ≤ 400 := by omega
      clear hj hke hlt
      go_wp2
      go_ret
      exact ⟨ret_int E.out, HB.out⟩
end Go.Proofs.Ytblmodlpopnckaa
