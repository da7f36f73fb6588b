import Derived.Test.YtdlodflinibaoaaPWk4
namespace Go.Proofs.Ytdlodflinibaoaa
open Go.ChangeShapes Go.WideShapes Go.ChangeAt Go.RowKit

theorem bt_at (s : ByteArray) (k : Nat) (h : k < s.size) : UInt8.ofNat (bt s k).toNat = s[k] := by
  rw [← bt_eq s k h]
  simp
theorem setv_same (s : ByteArray) (k : Nat) (h : k + 4 ≤ s.size) : setv s k (wv s k) = s := by
  have b0 := bt_b s k
  have b1 := bt_b s (k + 1)
  have b2 := bt_b s (k + 2)
  have b3 := bt_b s (k + 3)
  have e0 : wv s k % 256 = bt s k := by unfold wv; omega
  have e1 : wv s k / 256 % 256 = bt s (k + 1) := by unfold wv; omega
  have e2 : wv s k / 65536 % 256 = bt s (k + 2) := by unfold wv; omega
  have e3 : wv s k / 16777216 % 256 = bt s (k + 3) := by unfold wv; omega
  have hl := bsize s
  have ep : (pw (wv s k)).data.toList = (s.data.toList.drop k).take 4 := by
    unfold pw strOfNums
    rw [e0, e1, e2, e3]
    simp only [List.map_cons, List.map_nil, bt_at s k (by omega), bt_at s (k + 1) (by omega), bt_at s (k + 2) (by omega), bt_at s (k + 3) (by omega)]
    apply List.ext_getElem
    · simp only [List.length_cons, List.length_nil, List.length_take, List.length_drop, hl]
      omega
    · intro i h1 h2
      simp only [List.length_cons, List.length_nil] at h1
      obtain rfl | rfl | rfl | rfl : i = 0 ∨ i = 1 ∨ i = 2 ∨ i = 3 := by omega
      all_goals
        simp [ByteArray.getElem_eq_getElem_data]
  apply ByteArray.ext
  apply Array.ext'
  unfold setv
  have e5 : (s.data.toList.drop (k + 4)).take (s.size - (k + 4)) = s.data.toList.drop (k + 4) := by
    apply List.take_of_length_le
    rw [List.length_drop, hl]
    exact Nat.le_refl _
  simp only [ByteArray.data_append, Array.toList_append, ByteArray.data_extract, Array.toList_extract, List.extract_eq_take_drop, e5, ep]
  have e6 : (s.data.toList.drop k).take 4 ++ s.data.toList.drop (k + 4) = s.data.toList.drop k := by
    have := List.take_append_drop 4 (s.data.toList.drop k)
    rw [List.drop_drop] at this
    exact this
  rw [List.append_assoc, e6]
  simp
theorem putA_b (e acc : Int) (h0 : 0 ≤ e) (h1 : e ≤ 4294967295) : 0 ≤ putA e acc ∧ putA e acc ≤ 4294967295 := by
  unfold putA
  have h32 := or32 e h0 (by omega)
  have i0 : 0 ≤ bits .or .i64 e 32 ∧ bits .or .i64 e 32 ≤ 4294967295 := by
    rw [h32]
    split <;> omega
  split
  · have h64 := or64 (bits .or .i64 e 32) i0.1 (by omega)
    rw [h64]
    split <;> omega
  · exact i0

set_option maxRecDepth 100000 in
set_option maxHeartbeats 4000000 in
theorem putFlagsM {w0 wr : World} {b B n : Nat} {s : ByteArray} {rv : Value} {zs : List Int} {x : WS} (h : WSt w0 b B n s wr rv zs x) (hn : s.size = n * 256) (hs : s.size ≤ 65536) (k : Nat) (hk : x.at_ = k) (hk4 : k + 4 ≤ s.size) (h4 : k % 4 = 0) (he : x.e = wv s k) :
    Calls Try.prog 114 #[.pointer (some ⟨B, 0, none⟩)] wr fun e u => e = .returned (.int .i64 0) ∧ WSt w0 b B n (setv s k (putA x.e x.acc)) u rv zs { x with e := putA x.e x.acc } := by
  obtain ⟨va, acc, user, at_, e, lg, pa⟩ := x
  simp only at hk he
  subst hk
  obtain ⟨c0, c1, c2, c3, c4, c5, c6, c7, c8, cf⟩ := h.box.cells
  obtain ⟨pt, c9⟩ := h.box.cell9
  simp only at *
  unfold mv at c0
  have m1 := mPutM b n
  obtain ⟨z, hz⟩ : ∃ z, putA e acc = z := ⟨_, rfl⟩
  have HZ : Hid _ := hz
  rw [hz]
  by_cases hsame : z = e
  · have HH : Hid (WSt w0 b B n s wr rv zs _) := h
    have ES : Hid (setv s k z = s) := by
      show setv s k z = s
      rw [hsame, he]
      exact setv_same s k hk4
    rw [ES.out]
    clear he h
    by_cases ha : acc = 2
    · subst ha
      have hp : bits .or .i64 (bits .or .i64 e 32) 64 = e := by
        have h2 : putA e 2 = bits .or .i64 (bits .or .i64 e 32) 64 := rfl
        rw [← h2, hz]
        exact hsame
      clear hz
      subst hsame
      go_enter Try.func114, Try.ntmps114
      go_wp2
      go_ret
      exact ⟨rfl, HH.out⟩
    · have ha2 : (acc == 2) = false := by simpa using ha
      have hp : bits .or .i64 e 32 = e := by
        have h2 : putA e acc = bits .or .i64 e 32 := if_neg ha
        rw [← h2, hz]
        exact hsame
      clear hz
      subst hsame
      go_enter Try.func114, Try.ntmps114
      go_wp2
      go_ret
      exact ⟨rfl, HH.out⟩
  · have hne : (z == e) = false := by simpa using hsame
    have H5 : Hid (WSt w0 b B n s ((wr.setCell ⟨B, 5, none⟩ (.int .i64 z)).setCell ⟨B, 9, none⟩ (.bool true)) rv zs { va := va, acc := acc, user := user, at_ := (k : Int), e := z, lg := lg, pa := pa }) := (h.put5 z).put9 true
    have HP : Hid _ := fun v (hv : Below ((wr.setCell ⟨B, 5, none⟩ (.int .i64 z)).setCell ⟨B, 9, none⟩ (.bool true)).heap.size ((wr.setCell ⟨B, 5, none⟩ (.int .i64 z)).setCell ⟨B, 9, none⟩ (.bool true)) v) => putEntryM b n s k z v (H5.out.below hv).mem hn hs hk4 h4
    have HV5 : Hid _ := fun v (hv : Below ((wr.setCell ⟨B, 5, none⟩ (.int .i64 z)).setCell ⟨B, 9, none⟩ (.bool true)).heap.size ((wr.setCell ⟨B, 5, none⟩ (.int .i64 z)).setCell ⟨B, 9, none⟩ (.bool true)) v) => H5.out.below hv
    unfold mv at HP
    clear he h hn hs hk4 h4 hsame
    by_cases ha : acc = 2
    · subst ha
      have hp : bits .or .i64 (bits .or .i64 e 32) 64 = z := hz
      clear hz
      go_enter Try.func114, Try.ntmps114
      go_wp2
      go_region_with (go_at_call 168; refine Calls.mono (HP.out _ (by exact ⟨rfl, rfl, rfl, Nat.le_refl _, fun _ _ => rfl⟩)) ?_; rintro e u ⟨rfl, hm, hg⟩; have HF : Hid _ := (HV5.out _ (by exact ⟨rfl, rfl, rfl, Nat.le_refl _, fun _ _ => rfl⟩)).memput hg hm; clear hm hg)
      all_goals
        go_wp2
        go_ret
        exact ⟨rfl, HF.out⟩
    · have ha2 : (acc == 2) = false := by simpa using ha
      have hp : bits .or .i64 e 32 = z := by
        have h2 : putA e acc = bits .or .i64 e 32 := if_neg ha
        rw [← h2]
        exact hz
      clear hz
      go_enter Try.func114, Try.ntmps114
      go_wp2
      go_region_with (go_at_call 168; refine Calls.mono (HP.out _ (by exact ⟨rfl, rfl, rfl, Nat.le_refl _, fun _ _ => rfl⟩)) ?_; rintro e u ⟨rfl, hm, hg⟩; have HF : Hid _ := (HV5.out _ (by exact ⟨rfl, rfl, rfl, Nat.le_refl _, fun _ _ => rfl⟩)).memput hg hm; clear hm hg)
      all_goals
        go_wp2
        go_ret
        exact ⟨rfl, HF.out⟩
end Go.Proofs.Ytdlodflinibaoaa
