import Derived.Test.YtmmodmanfoipiaaDoorTr1
namespace Go.Proofs.YtmmodmanfoipiaaDoor
open Go.ChangeShapes Go.WideShapes Go.ChangeAt Go.RowKit

set_option maxRecDepth 100000 in
set_option maxHeartbeats 4000000 in
theorem number_no {w : World} {b a n : Nat} {s : ByteArray} (h : TR w w b s a) (hs : s.size ≤ 1048576) (hn : n ≤ 6) (hb : s.size < a + n) : Calls Tryd.prog 53 #[.pointer (some ⟨b, 0, none⟩), .int .i64 (n : Int)] w fun e w' => ∃ q, e = .returned (.tuple #[.int .i64 0, sTop q]) ∧ TR w w' b s a ∧ EX w' q 3 := by
  have HB : Hid _ := bytes_no (z := (n : Int)) h hs (by omega) (by omega) (by omega)
  clear h hb
  unfold sTop at HB ⊢
  go_enter Tryd.func53, Tryd.ntmps53
  go_wp2_with (go_at_call 45; refine Calls.mono HB.out ?_; rintro e u1 ⟨q, rfl, ht, he⟩; have HT : Hid _ := ht; have HE : Hid _ := he; clear ht he)
  go_ret2
  exact ⟨_, rfl, HT.out, HE.out⟩
set_option maxRecDepth 100000 in
set_option maxHeartbeats 8000000 in
theorem number_yes {w : World} {b a n : Nat} {s : ByteArray} (h : TR w w b s a) (hs : s.size ≤ 1048576) (hn : n ≤ 6) (hb : a + n ≤ s.size) : Calls Tryd.prog 53 #[.pointer (some ⟨b, 0, none⟩), .int .i64 (n : Int)] w fun e w' => e = .returned (.tuple #[.int .i64 (pn (s.extract a (a + n)) n), .nilIface]) ∧ TR w w' b s (a + n) := by
  have HB : Hid _ := bytes_yes h hs hb
  have hz : (s.extract a (a + n)).size = n := by rw [ByteArray.size_extract]; omega
  clear h hb
  generalize s.extract a (a + n) = t at *
  subst hz
  have hb := fun j => bt_b t j
  have b0 := hb 0
  have b1 := hb 1
  have b2 := hb 2
  have b3 := hb 3
  have b4 := hb 4
  have b5 := hb 5
  clear hb
  go_enter Tryd.func53, Tryd.ntmps53
  go_wp2_with (go_at_call 45; refine Calls.mono HB.out ?_; rintro e u1 ⟨rfl, ht⟩; have HT : Hid _ := ht; clear ht HB)
  go_loopw [8, 21] (fun num i wr => ∃ j : Nat, j ≤ t.size ∧ i = .int .i64 j ∧ num = .int .i64 (pn t j) ∧ TR w wr b s (a + t.size)) (fun _ i _ => t.size - (intOf i).toNat)
  case atStart => exact ⟨0, Nat.zero_le _, rfl, rfl, HT.out⟩
  case round =>
    obtain ⟨j, hj, rfl, rfl, ht⟩ := hrel
    have HB : Hid (TR w wr b s (a + t.size)) := ht
    clear ht HT
    by_cases hlt : j < t.size
    · have hj6 : j = 0 ∨ j = 1 ∨ j = 2 ∨ j = 3 ∨ j = 4 ∨ j = 5 := by omega
      have ij := idx_str t j hlt
      have hj1 : (j : Int) < (t.size : Int) := by omega
      rcases hj6 with rfl | rfl | rfl | rfl | rfl | rfl
      · go_wp2
        refine ⟨⟨1, by omega, rfl, ?_, HB.out⟩, by simp [intOf]; omega⟩
        have e := or_join6 0 1 (by simp) (by omega) 0 (bt t 0) (by omega) (by omega) (by omega) (by omega)
        rw [Int.mul_one, Int.zero_add] at e
        exact congrArg _ e
      · go_wp2
        refine ⟨⟨2, by omega, rfl, ?_, HB.out⟩, by simp [intOf]; omega⟩
        exact congrArg _ (or_join6 8 256 (by simp) (by omega) (pn t 1) (bt t 1) (by simp only [pn]; omega) (by simp only [pn]; omega) (by omega) (by omega))
      · go_wp2
        refine ⟨⟨3, by omega, rfl, ?_, HB.out⟩, by simp [intOf]; omega⟩
        exact congrArg _ (or_join6 16 65536 (by simp) (by omega) (pn t 2) (bt t 2) (by simp only [pn]; omega) (by simp only [pn]; omega) (by omega) (by omega))
      · go_wp2
        refine ⟨⟨4, by omega, rfl, ?_, HB.out⟩, by simp [intOf]; omega⟩
        exact congrArg _ (or_join6 24 16777216 (by simp) (by omega) (pn t 3) (bt t 3) (by simp only [pn]; omega) (by simp only [pn]; omega) (by omega) (by omega))
      · go_wp2
        refine ⟨⟨5, by omega, rfl, ?_, HB.out⟩, by simp [intOf]; omega⟩
        exact congrArg _ (or_join6 32 4294967296 (by simp) (by omega) (pn t 4) (bt t 4) (by simp only [pn]; omega) (by simp only [pn]; omega) (by omega) (by omega))
      · go_wp2
        refine ⟨⟨6, by omega, rfl, ?_, HB.out⟩, by simp [intOf]; omega⟩
        exact congrArg _ (or_join6 40 1099511627776 (by simp) (by omega) (pn t 5) (bt t 5) (by simp only [pn]; omega) (by simp only [pn]; omega) (by omega) (by omega))
    · obtain rfl : j = t.size := by omega
      have hnl : ¬ ((t.size : Nat) : Int) < (t.size : Int) := by omega
      go_wp2
      go_ret2
      exact ⟨rfl, HB.out⟩
end Go.Proofs.YtmmodmanfoipiaaDoor
