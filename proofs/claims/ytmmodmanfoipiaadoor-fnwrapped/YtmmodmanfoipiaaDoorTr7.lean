import Derived.Test.YtmmodmanfoipiaaDoorTr6
import Derived.Test.YtmmodmanfoipiaaDoorCc1
namespace Go.Proofs.YtmmodmanfoipiaaDoor
open Go.ChangeShapes Go.WideShapes Go.ChangeAt Go.RowKit

/-- What a text that is cut is left at, behind n bytes; what they are. -/
def cT (s : ByteArray) (st : Nat × Bool) (n : Nat) : Nat × Bool := if st.2 = true ∨ s.size < st.1 + n then (st.1, true) else (st.1 + n, false)
def cX (s : ByteArray) (st : Nat × Bool) (n : Nat) : ByteArray := if st.2 = true ∨ s.size < st.1 + n then ⟨#[]⟩ else s.extract st.1 (st.1 + n)
theorem cT_le {s : ByteArray} {st : Nat × Bool} (h : st.1 ≤ s.size) (n : Nat) : (cT s st n).1 ≤ s.size := by
  unfold cT
  split
  · exact h
  · show st.1 + n ≤ s.size
    omega
theorem cX_size (s : ByteArray) (st : Nat × Bool) (n : Nat) : (cX s st n).size ≤ n := by
  unfold cX
  split
  · exact Nat.zero_le _
  · rw [ByteArray.size_extract]; omega
theorem take_any {w : World} {b : Nat} {s : ByteArray} {st : Nat × Bool} (h : CX w w b s st.1 st.2) (ha : st.1 ≤ s.size) (hs : s.size ≤ 1048576) (n : Nat) : Calls Tryd.prog 27 #[.pointer (some ⟨b, 0, none⟩), .int .i64 (n : Int)] w fun e w' => e = .returned (.string (cX s st n)) ∧ CX w w' b s (cT s st n).1 (cT s st n).2 := by
  by_cases hc : st.2 = true ∨ s.size < st.1 + n
  · have e1 : cX s st n = ⟨#[]⟩ := if_pos hc
    have e2 : cT s st n = (st.1, true) := if_pos hc
    rw [e1, e2]
    exact take_no h ha hs hc
  · have e1 : cX s st n = s.extract st.1 (st.1 + n) := if_neg hc
    have e2 : cT s st n = (st.1 + n, false) := if_neg hc
    rw [e1, e2]
    have h2 : st.2 = false := by
      cases h9 : st.2 with
      | false => rfl
      | true => exact absurd (Or.inl h9) hc
    rw [h2] at h
    exact take_yes h hs (by omega)
theorem hvn_step (t : ByteArray) (k : Nat) : hvn t t.size (k + 1) = hvn t t.size k * 256 + bt t (t.size - 1 - k) := rfl
set_option maxRecDepth 100000 in
set_option maxHeartbeats 8000000 in
theorem num_any (t : ByteArray) (w : World) (hz : t.size ≤ 6) : Calls Tryd.prog 28 #[.string t] w fun e w' => e = .returned (.int .i64 (pn t t.size)) ∧ w' = w := by
  have E : Hid (hvn t t.size t.size = pn t t.size) := hvn_all t t.size hz
  go_enter Tryd.func28, Tryd.ntmps28
  go_wp2_with fail
  go_loop [3, 4] (fun n i => ∃ k : Nat, k ≤ t.size ∧ i = .int .i64 ((t.size : Int) - 1 - k) ∧ n = .int .i64 (hvn t t.size k)) (fun _ i => (intOf i + 1).toNat)
  case atStart => exact ⟨0, by omega, by go_num, rfl⟩
  case round =>
    obtain ⟨k, hk, rfl, rfl⟩ := hrel
    obtain ⟨b0, b1⟩ := hvn_b t t.size k (by omega)
    by_cases hlt : k < t.size
    · have i0 := fun w => idx_str t (t.size - 1 - k) (by omega) w ((t.size : Int) - 1 - k) (by omega)
      obtain ⟨c0, c1⟩ := bt_b t (t.size - 1 - k)
      have hst := hvn_step t k
      go_wp2
      refine ⟨⟨k + 1, by omega, by go_num, by go_num⟩, by simp [intOf]; omega⟩
    · obtain rfl : k = t.size := by omega
      go_wp2
      go_ret
      exact ⟨ret_int E.out, rfl⟩
end Go.Proofs.YtmmodmanfoipiaaDoor
