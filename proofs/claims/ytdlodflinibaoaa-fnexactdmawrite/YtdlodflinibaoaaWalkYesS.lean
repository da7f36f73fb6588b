import Derived.Test.YtdlodflinibaoaaSWalkB
import Derived.Test.YtdlodflinibaoaaSWalkC
import Derived.Test.YtdlodflinibaoaaPWk7M
namespace Go.Proofs.Ytdlodflinibaoaa
open Go.ChangeShapes Go.WideShapes Go.ChangeAt Go.RowKit

theorem finV_reads (s : ByteArray) (zs : List Int) (k : Nat) (lg : Bool) (va acc : Int) (user : Bool) : (finV s zs k lg va acc user).reads = zs := by
  unfold finV
  split <;> (try split) <;> rfl
set_option maxRecDepth 100000 in
theorem specWalk_yes (s : ByteArray) (root va : Nat) (acc : Int) (user : Bool) (w : World) (hm : memOk s = true) (r1 : root ≤ 255) (v1 : va ≤ 262143) (a1 : 1 ≤ acc) (a2 : acc ≤ 3) :
    Calls Try.prog 82 #[.string s, .int .i64 root, .int .i64 va, .int .i64 acc, .bool user] w fun e w' => ∃ v, e = .returned (wkA (walkV s root va acc user) v) ∧ w'.ownsRow w.heap.size 2 1 v (walkV s root va acc user).reads.length ((walkV s root va acc user).reads.map (Value.int .i64)) ∧ Below w.heap.size w w' := by
  have e1 : at1 root va = root * 256 + 4 * (va / 8192) := by unfold at1; omega
  have hb := wv_b s (root * 256 + 4 * (va / 8192))
  by_cases hr : (root + 1) * 256 ≤ s.size
  · by_cases h16 : wv s (root * 256 + 4 * (va / 8192)) % 16 = 1
    · by_cases ht : (wv s (root * 256 + 4 * (va / 8192)) / 256 + 1) * 256 ≤ (s.size : Int)
      · obtain ⟨T, hT⟩ := Int.eq_ofNat_of_zero_le (show 0 ≤ wv s (root * 256 + 4 * (va / 8192)) / 256 by omega)
        have E : walkV s root va acc user = finV s [(root : Int), (T : Int)] (T * 256 + 4 * (va / 256 % 32)) false va acc user := by
          unfold walkV
          rw [e1, if_pos (by omega), if_pos h16, if_pos ht]
          have e2 : at2 (wv s (root * 256 + 4 * (va / 8192))) va = T * 256 + 4 * (va / 256 % 32) := by
            unfold at2
            omega
          rw [e2, hT]
        rw [E, finV_reads]
        exact specWalk_B2 s root va acc user w hm r1 v1 a1 a2 hr h16 T hT (by omega)
      · have E : walkV s root va acc user = ⟨2, 0, 0, false, [(root : Int)], s⟩ := by
          unfold walkV
          rw [e1, if_pos (by omega), if_pos h16, if_neg ht]
        rw [E]
        exact specWalk_B1 s root va acc user w hm r1 v1 a1 a2 hr h16 (by omega)
    · have E : walkV s root va acc user = finV s [(root : Int)] (root * 256 + 4 * (va / 8192)) true va acc user := by
        unfold walkV
        rw [e1, if_pos (by omega), if_neg h16]
      rw [E, finV_reads]
      exact specWalk_C s root va acc user w hm r1 v1 a1 a2 hr h16
  · have E : walkV s root va acc user = ⟨2, 0, 0, false, [], s⟩ := by
      unfold walkV
      rw [if_neg (by omega)]
    rw [E]
    exact specWalk_A s root va acc user w hm r1 v1 a1 a2 (by omega)
theorem walkV_len (s : ByteArray) (root va acc : Int) (user : Bool) : (walkV s root va acc user).reads.length ≤ 2 := by
  unfold walkV
  split <;> (try split) <;> (try split) <;> simp [finV_reads]
end Go.Proofs.Ytdlodflinibaoaa
