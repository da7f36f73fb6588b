import Derived.Test.YtdlodflinibaoaaPWk6
namespace Go.Proofs.Ytdlodflinibaoaa
open Go.ChangeShapes Go.WideShapes Go.ChangeAt Go.RowKit

theorem own_weak1 {w : World} {B B' : Nat} {e : TypeId} {v : Value} {n : Nat} {xs : List Value} (h : w.ownsRow B e 1 v n xs) (hb : B' ≤ B) : w.ownsRow B' e 1 v n xs := by
  obtain ⟨hl, h | ⟨g, cap, cur, hv, hg, h1, h2, h3, h4, h5⟩⟩ := h
  · exact ⟨hl, .inl h⟩
  · exact ⟨hl, .inr ⟨g, cap, cur, hv, Nat.le_trans hb hg, h1, h2, h3, h4, h5⟩⟩
theorem setv_size (s : ByteArray) (k : Nat) (n : Int) (h : k + 4 ≤ s.size) : (setv s k n).size = s.size := by
  unfold setv
  rw [ByteArray.size_append', ByteArray.size_append', ByteArray.size_extract, ByteArray.size_extract, pw_size]
  omega
theorem finV_size (s : ByteArray) (zs : List Int) (k : Nat) (lg : Bool) (va acc : Int) (user : Bool) (h : k + 4 ≤ s.size) : (finV s zs k lg va acc user).mem.size = s.size := by
  unfold finV
  split
  · split
    · exact setv_size s k _ h
    · rfl
  · rfl
theorem feV_in (s : ByteArray) (root va : Nat) (hv : va ≤ 262143) (h0 : (feV s root va).1 = 0) : (feV s root va).2.2.1 + 4 ≤ s.size := by
  revert h0
  have hb := wv_b s (root * 256 + 4 * (va / 8192))
  unfold feV
  split
  · split
    · split
      · intro _
        show (wv s (root * 256 + 4 * (va / 8192)) / 256).toNat * 256 + 4 * (va / 256 % 32) + 4 ≤ s.size
        omega
      · intro h
        cases h
    · intro _
      show root * 256 + 4 * (va / 8192) + 4 ≤ s.size
      omega
  · intro h
    cases h
theorem walkV_size (s : ByteArray) (root va : Nat) (acc : Int) (user : Bool) (hv : va ≤ 262143) : (walkV s root va acc user).mem.size = s.size := by
  rw [walk_fe]
  split
  · rename_i h
    exact finV_size _ _ _ _ _ _ _ (feV_in s root va hv h)
  · rfl
theorem walkV_bad (s : ByteArray) (root va : Nat) (acc : Int) (user : Bool) (h : (walkV s root va acc user).fault ≠ 0) : walkV s root va acc user = ⟨(walkV s root va acc user).fault, 0, 0, false, (walkV s root va acc user).reads, (walkV s root va acc user).mem⟩ := by
  revert h
  rw [walk_fe]
  split
  · unfold finV
    split
    · split
      · intro h
        exact absurd rfl h
      · intro _
        rfl
    · intro _
      rfl
  · intro _
    rfl
theorem walkV_f (s : ByteArray) (root va : Nat) (acc : Int) (user : Bool) : (walkV s root va acc user).fault = 0 ∨ (walkV s root va acc user).fault = 1 ∨ (walkV s root va acc user).fault = 2 := by
  rw [walk_fe]
  split
  · unfold finV
    split <;> (try split) <;> simp
  · simp
end Go.Proofs.Ytdlodflinibaoaa
