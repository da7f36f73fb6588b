import Derived.Test.YtappocopgckhkaaPt7
namespace Go.Proofs.Ytappocopgckhkaa
open Go.ChangeShapes Go.WideShapes Go.ChangeAt Go.RowKit

theorem wv_app_l {a b : ByteArray} {k : Nat} (h : k + 4 ≤ a.size) : wv (a ++ b) k = wv a k := by
  unfold wv
  rw [bt_app_l (by omega), bt_app_l (by omega), bt_app_l (by omega), bt_app_l (by omega)]
theorem wv_app_r {a b : ByteArray} {k : Nat} : wv (a ++ b) (a.size + k) = wv b k := by
  unfold wv
  rw [show a.size + k + 1 = a.size + (k + 1) by omega, show a.size + k + 2 = a.size + (k + 2) by omega, show a.size + k + 3 = a.size + (k + 3) by omega, bt_app_r, bt_app_r, bt_app_r, bt_app_r]
theorem pwT_cons (e : Int) (t : List Int) : pwT (e :: t) = pw e ++ pwT t := by
  apply ByteArray.ext
  apply Array.ext'
  simp [pwT, pwL, catB]
theorem bt_nums (l : List Int) (k : Nat) (h : k < l.length) (h0 : 0 ≤ l[k]) (h1 : l[k] < 256) : bt (strOfNums l) k = l[k] := by
  have hs : k < (strOfNums l).size := by rw [strOfNums_size]; exact h
  unfold bt
  rw [dif_pos hs]
  have e : (strOfNums l)[k] = UInt8.ofNat l[k].toNat := by
    show (strOfNums l).data[k]'_ = _
    simp [strOfNums]
  rw [e]
  exact u8_of _ h0 h1
theorem wv_pw (n : Int) : wv (pw n) 0 = n % 4294967296 := by
  unfold wv pw
  rw [bt_nums _ 0 (by simp) (by simp; omega) (by simp; omega), bt_nums _ 1 (by simp) (by simp; omega) (by simp; omega), bt_nums _ 2 (by simp) (by simp; omega) (by simp; omega), bt_nums _ 3 (by simp) (by simp; omega) (by simp; omega)]
  simp
  omega
theorem wv_pwT : ∀ (t : List Int) (j : Nat) (hj : j < t.length), wv (pwT t) (4 * j) = t[j] % 4294967296
  | [], j, hj => by simp at hj
  | e :: t, 0, _ => by
    rw [pwT_cons, wv_app_l (by rw [pw_sz]; omega)]
    exact wv_pw e
  | e :: t, j + 1, hj => by
    have hj2 : j < t.length := by simpa using hj
    have h9 := wv_pwT t j hj2
    rw [pwT_cons, show 4 * (j + 1) = (pw e).size + 4 * j by rw [pw_sz]; omega, wv_app_r, h9]
    simp
def wsum (t : List Int) : Nat → Int
  | 0 => 0
  | k + 1 => wsum t k + t.getD k 0 % 4294967296
theorem wsum_b (t : List Int) : ∀ k, 0 ≤ wsum t k ∧ wsum t k ≤ 4294967296 * k
  | 0 => by simp [wsum]
  | k + 1 => by
    have := wsum_b t k
    simp only [wsum]
    omega
theorem wsum_ps (t : List Int) : ∀ k, wsum t k % 4294967296 = psum t k % 4294967296
  | 0 => rfl
  | k + 1 => by
    have := wsum_ps t k
    simp only [wsum, psum]
    omega
set_option maxRecDepth 100000 in
set_option maxHeartbeats 4000000 in
theorem l21Words_any (t : List Int) (ht : t.length ≤ 100) (w : World) : Calls Try.prog 35 #[.string (pwT t)] w fun e w' => e = .returned (.int .i64 (wsum t t.length)) ∧ Below w.heap.size w w' := by
  have hsz := pwT_sz t
  have HW : Hid (∀ (k : Nat) (i : Int) u, k < t.length → i = ((4 * k : Nat) : Int) → Calls Try.prog 45 #[.string (pwT t), .int .i64 i] u fun e w' => e = .returned (.int .i64 (t.getD k 0 % 4294967296)) ∧ Below u.heap.size u w') := (fun k i u hk hi => by
    rw [hi]
    have h9 := l01Word_any (pwT t) (4 * k) u (by omega) (by omega)
    rw [wv_pwT t k hk] at h9
    refine h9.mono ?_
    rintro e w' ⟨rfl, q, rfl⟩
    exact ⟨by rw [List.getD_eq_getElem?_getD, List.getElem?_eq_getElem hk]; rfl, bdn (Below.refl _ _) q⟩)
  generalize pwT t = P at *
  go_enter Try.func35, Try.ntmps35
  go_wp2
  go_loopw [3, 4] (fun sm i wr => ∃ k : Nat, k ≤ t.length ∧ sm = .int .i64 (wsum t k) ∧ i = .int .i64 ((4 * k : Nat) : Int) ∧ Below w.heap.size w wr) (fun _ i _ => 1000 - (intOf i).toNat)
  case atStart => exact ⟨0, Nat.zero_le _, rfl, rfl, Below.refl _ _⟩
  case round =>
    obtain ⟨k, hk, rfl, rfl, hb⟩ := hrel
    have HB : Hid (Below w.heap.size w wr) := hb
    clear hb
    have hwb := wsum_b t k
    by_cases hlt : k < t.length
    · have hle : ((4 * k : Nat) : Int) + 4 ≤ (P.size : Int) := by omega
      have HWK : Hid (∀ (i : Int) u, i = ((4 * k : Nat) : Int) → Calls Try.prog 45 #[.string P, .int .i64 i] u fun e w' => e = .returned (.int .i64 (t.getD k 0 % 4294967296)) ∧ Below u.heap.size u w') := fun i u hi => HW.out k i u hlt hi
      have HN : Hid (wsum t (k + 1) = wsum t k + t.getD k 0 % 4294967296) := rfl
      obtain ⟨y, hy⟩ : ∃ y, t.getD k 0 % 4294967296 = y := ⟨_, rfl⟩
      have hy0 : 0 ≤ y := by omega
      have hy1 : y < 4294967296 := by omega
      rw [hy] at HWK HN
      have hs1 : wsum t k ≤ 429496729600 := by omega
      obtain ⟨hs0, _⟩ := hwb
      generalize wsum t k = sm at *
      obtain ⟨j, hj⟩ : ∃ j : Nat, 4 * k = j := ⟨_, rfl⟩
      have HJ : Hid (4 * k = j) := hj
      rw [hj] at hle HWK
      rw [hj]
      have hjb : j ≤ 400 := by omega
      clear hj hy
      go_wp2_with fail
      refine Calls.mono (HWK.out _ _ (by omega)) ?_
      rintro e u1 ⟨rfl, hb⟩
      have HB1 : Hid (Below w.heap.size w u1) := HB.out.trans (hb.mono HB.out.size)
      clear hb
      go_wp2
      exact ⟨⟨k + 1, hlt, (by rw [HN.out]), (by have := HJ.out; refine congrArg (Value.int .i64) ?_; omega), HB1.out⟩, (by simp [intOf]; omega)⟩
    · have hke : k = t.length := by omega
      have hnle : ¬ (((4 * k : Nat) : Int) + 4 ≤ (P.size : Int)) := by omega
      have E : Hid (wsum t k = wsum t t.length) := (show _ = _ by rw [hke])
      obtain ⟨j, hj⟩ : ∃ j : Nat, 4 * k = j := ⟨_, rfl⟩
      rw [hj] at hnle
      rw [hj]
      have hjb : j ≤ 400 := by omega
      clear hj hke hlt
      go_wp2
      go_ret
      exact ⟨ret_int E.out, HB.out⟩
end Go.Proofs.Ytappocopgckhkaa
