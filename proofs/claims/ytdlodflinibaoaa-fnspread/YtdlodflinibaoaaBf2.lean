import Derived.Test.YtdlodflinibaoaaSp3
namespace Go.Proofs.Ytdlodflinibaoaa
open Go.ChangeShapes Go.WideShapes Go.ChangeAt Go.RowKit

theorem bt_lst9 (s : ByteArray) (k : Nat) : bt s k = ((s.data.toList[k]?).map (fun b => ((b.toNat : Nat) : Int))).getD 0 := by
  unfold bt
  by_cases h : k < s.size
  · rw [dif_pos h]
    have h2 : k < s.data.toList.length := h
    rw [List.getElem?_eq_getElem h2]
    rfl
  · rw [dif_neg h, List.getElem?_eq_none (by simpa using Nat.le_of_not_lt h)]
    rfl
theorem put_lst9 {m x : ByteArray} {p : Nat} : (put m p x).data.toList = m.data.toList.take p ++ x.data.toList ++ m.data.toList.drop (p + x.size) := by
  unfold put
  have e : m.size = m.data.toList.length := rfl
  simp only [ByteArray.data_append, ByteArray.data_extract, Array.toList_append, Array.toList_extract, List.extract_eq_take_drop]
  congr 1
  rw [e, List.take_of_length_le]
  simp
theorem put_at {m x : ByteArray} {p i : Nat} (h : p + x.size ≤ m.size) (hi : i < p ∨ p + x.size ≤ i) : bt (put m p x) i = bt m i := by
  rw [bt_lst9, bt_lst9, put_lst9]
  have ex : x.data.toList.length = x.size := rfl
  have em : m.data.toList.length = m.size := rfl
  have et : (m.data.toList.take p).length = p := by rw [List.length_take]; omega
  congr 2
  rcases hi with hi | hi
  · rw [List.getElem?_append_left (by rw [List.length_append]; omega), List.getElem?_append_left (by omega), List.getElem?_take, if_pos hi]
  · rw [List.getElem?_append_right (by rw [List.length_append]; omega), List.length_append, et, ex, List.getElem?_drop]
    congr 1
    omega
/-- A place is in a buffer that may be written to. -/
def inZ (i : Nat) (z : BU) : Bool := z.write && (decide (z.pos ≤ (i : Int)) && decide ((i : Int) < z.pos + z.len))
theorem spS_at {x : ByteArray × ByteArray} {z : BU} {n i : Nat} (h : x.1.size = n) (hz : inW n z.pos z.len = true) (hi : inZ i z = false) : bt (spS x z).1 i = bt x.1 i := by
  unfold spS
  split
  · rename_i hw
    have h1 := mn_le z x.2
    have h2 := mn_le2 z x.2
    rw [inW_iff] at hz
    unfold inZ at hi
    rw [hw, Bool.true_and, Bool.and_eq_false_iff, decide_eq_false_iff_not, decide_eq_false_iff_not] at hi
    have e1 : (x.2.extract 0 (mn z x.2)).size = mn z x.2 := by rw [ex_size _ _ _ h1]; omega
    show bt (put _ _ _) i = bt x.1 i
    refine put_at (by rw [e1]; omega) ?_
    rw [e1]
    omega
  · rfl
theorem spK_at {m d : ByteArray} {zs : List BU} {n i : Nat} (h : m.size = n) (hz : ∀ j (hj : j < zs.length), inW n zs[j].pos zs[j].len = true) (hi : zs.any (inZ i) = false) : ∀ k, k ≤ zs.length → bt (spK m d zs k).1 i = bt m i
  | 0, _ => rfl
  | k + 1, hk => by
    rw [spK_next m d zs k (by omega), spS_at (spK_size m d zs n h hz k (by omega)).1 (hz k (by omega)) ?_, spK_at h hz hi k (by omega)]
    rw [List.any_eq_false] at hi
    simpa using hi zs[k] (List.getElem_mem _)
/-- What SpreadBufs leaves. -/
theorem spV_law {s d : ByteArray} {zs : List BU} (h : (spV s zs d).size ≠ 0) : (spV s zs d).size = s.size ∧ ∀ i, zs.any (inZ i) = false → bt (spV s zs d) i = bt s i := by
  unfold spV at h ⊢
  split at h
  · exact absurd rfl h
  · rename_i h1
    split at h
    · rename_i h2
      rw [if_neg h1, if_pos h2]
      have hz : ∀ j (hj : j < zs.length), inW s.size zs[j].pos zs[j].len = true := fun j hj => by
        simp only [bsB, Bool.and_eq_true, List.all_eq_true] at h2
        exact h2.2 zs[j] (List.getElem_mem _)
      exact ⟨(spK_size s d zs s.size rfl hz zs.length (Nat.le_refl _)).1, fun i hi => spK_at rfl hz hi zs.length (Nat.le_refl _)⟩
    · exact absurd rfl h
end Go.Proofs.Ytdlodflinibaoaa
