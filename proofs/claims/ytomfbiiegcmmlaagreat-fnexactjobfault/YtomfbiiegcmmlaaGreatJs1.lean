import Derived.Test.YtomfbiiegcmmlaaGreatJpZ
namespace Go.Proofs.YtomfbiiegcmmlaaGreat
open Go.ChangeShapes Go.WideShapes Go.ChangeAt Go.RowKit

set_option maxRecDepth 100000
set_option maxHeartbeats 4000000 in
theorem behind_any {w : World} {v : Value} {gs : List IG} {ms : List IM} (h : IGrow w v gs) (hi : IGin w gs ms) (hl : ms.length ≤ 1048576) (n : ByteArray) : Calls Tryz.prog 28 #[v, .string n] w fun e w' => e = .returned (.int .i64 (frL ms n : Nat)) ∧ w' = w := by
  obtain ⟨ao, cap, rfl⟩ := h.sl
  have hlq := hi.len
  rw [hlq] at h ⊢
  have HR : Hid (IGrow w (.slice ao ms.length cap) gs) := h
  have HI : Hid (IGin w gs ms) := hi
  clear h hi hlq
  go_enter Tryz.func28, Tryz.ntmps28
  go_wp2
  go_loopw [5, 6] (fun x i wr => ∃ k : Nat, k ≤ ms.length ∧ i = .int .i64 k ∧ x = .int .i64 (frL (ms.take k) n : Nat) ∧ wr = w) (fun _ i _ => ms.length - (intOf i).toNat)
  case atStart => exact ⟨0, Nat.zero_le _, rfl, rfl, rfl⟩
  case round =>
    obtain ⟨k, hk, rfl, rfl, rfl⟩ := hrel
    by_cases hkl : k < ms.length
    · obtain ⟨g, o, cap2, a, hv, hp⟩ := HR.out.elt HI.out hkl
      injection hv with hv1 hv2 hv3
      subst hv1 hv3
      have z1 := hp.c1
      have hgl := hp.lt
      have hk0 : (0 : Int) ≤ (k : Int) := by omega
      have hk1 : (k : Int) < (ms.length : Int) := by omega
      have HE : Hid _ := frL_succ ms n k hkl
      have hfl := frL_le (ms.take k) n
      have hfl2 : frL (ms.take k) n ≤ 1048576 := by rw [List.length_take] at hfl; omega
      generalize frL (ms.take k) n = F at *
      clear hp hv2 hfl
      generalize ms[k] = m at *
      cases hq : (m.b.toList == n.toList)
      · have HE2 : Hid (frL (ms.take (k + 1)) n = F) := (show _ = F by rw [HE.out]; unfold bq; rw [hq]; rfl)
        go_wp2
        exact ⟨⟨k + 1, hkl, by simp, by rw [HE2.out], trivial⟩, by simp [intOf]; omega⟩
      · have HE2 : Hid (frL (ms.take (k + 1)) n = F + 1) := (show _ = F + 1 by rw [HE.out]; unfold bq; rw [hq]; rfl)
        go_wp2
        exact ⟨⟨k + 1, hkl, by simp, by rw [HE2.out]; simp, trivial⟩, by simp [intOf]; omega⟩
    · obtain rfl : k = ms.length := by omega
      rw [List.take_length]
      go_wp2
      go_ret
      exact ⟨rfl, rfl⟩
end Go.Proofs.YtomfbiiegcmmlaaGreat
