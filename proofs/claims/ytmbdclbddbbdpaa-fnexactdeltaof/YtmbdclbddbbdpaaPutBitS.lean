import Derived.Test.YtmbdclbddbbdpaaPutBitL
import Derived.Test.YtmbdclbddbbdpaaHasBitS
import Derived.Test.YtmbdclbddbbdpaaRow8
import Derived.Deep.LoopGhost
namespace Go.Proofs.Ytmbdclbddbbdpaa
open Go.ChangeShapes Go.WideShapes Go.ChangeAt Go.RowKit

theorem zer_succ (n : Nat) : zer (n + 1) = zer n ++ [0] := by
  unfold zer
  exact List.replicate_succ'
theorem hb_bit (s : ByteArray) (m : Nat) (hs : s.size ≤ 65536) : hb s m = (bt s (m / 8) / 2 ^ (m % 8) % 2 == 1) := by
  unfold hb
  by_cases h : m < 8 * s.size
  · rw [Int.toNat_natCast, show decide (s.size ≤ 65536 ∧ 0 ≤ (m : Int) ∧ (m : Int) < 8 * (s.size : Int)) = true from by simp; omega, Bool.true_and]
    rfl
  · rw [show decide (s.size ≤ 65536 ∧ 0 ≤ (m : Int) ∧ (m : Int) < 8 * (s.size : Int)) = false from by simp; omega, Bool.false_and]
    have hb : bt s (m / 8) = 0 := by unfold bt; rw [dif_neg (by omega)]
    rw [hb, Int.zero_ediv]
    rfl
theorem pb_same (s : ByteArray) (m : Nat) (on : Bool) (hs : s.size ≤ 65536) (h : (hb s m == on) = true) : pb s m on = bl s (m / 8) := by
  have ⟨b0, b1⟩ := bt_b s (m / 8)
  rw [hb_bit s m hs] at h
  have e := bits_same (bt s (m / 8)) (m % 8) on b0 b1 (by omega) h
  have hlen := bl_len s (m / 8)
  have hk : m / 8 < (bl s (m / 8)).length := by omega
  have ha := bl_at s (m / 8) (m / 8)
  have : nb (bt s (m / 8)) (m % 8) on = (bl s (m / 8))[m / 8] := by
    apply UInt8.toNat_inj.1
    rw [List.getD_eq_getElem?_getD, List.getElem?_eq_getElem hk] at ha
    simp only [Option.getD_some] at ha
    omega
  unfold pb
  rw [this, List.set_getElem_self]

set_option maxRecDepth 100000 in
set_option maxHeartbeats 1000000 in
theorem specPutBit_in (s : ByteArray) (m : Nat) (on : Bool) (w : World) (hs : s.size ≤ 65536) (hm : m < 524288) :
    Calls Try.prog 42 #[.string s, .int .i64 m, .bool on] w fun e w' => e = .returned (.string ⟨(pb s m on).toArray⟩) ∧ Below w.heap.size w w' := by
  have ht : decide (65536 < (s.size : Int)) = false := by simp; omega
  have ht2 : decide ((m : Int) < 0) = false := by simp
  have ht3 : decide (524288 ≤ (m : Int)) = false := by simp; omega
  have hcv := bw_conv w s
  go_enter Try.func42, Try.ntmps42
  go_wp2
  go_loopg [7] (m / 8 + 1 - s.size) (fun k v wr => ∃ j, k = m / 8 + 1 - s.size - j ∧ j ≤ m / 8 + 1 - s.size ∧ Row8 w.heap.size wr v (s.data.toList ++ zer j) ∧ Below w.heap.size w wr)
  case atStart => exact ⟨0, rfl, Nat.zero_le _, by rw [show s.data.toList ++ zer 0 = s.data.toList from by simp [zer]]; exact row8_conv w s (by omega), bw_below w s⟩
  case round =>
    obtain ⟨j, hk, hj, hrow, hbl⟩ := hrel
    have hlen : (s.data.toList ++ zer j).length = s.size + j := by simp [zer]
    obtain ⟨g, cap, rfl, hg, hcap, hmax, hcells, hthere⟩ := id hrow
    rw [hlen]
    clear hcv
    by_cases hlt : j < m / 8 + 1 - s.size
    · have HR : Hid (Row8 w.heap.size wr (.slice (some ⟨g, 0, none⟩) (s.data.toList ++ zer j).length cap) (s.data.toList ++ zer j)) := hrow
      clear hrow hcells hthere hcap
      have hle : (s.size : Int) + (j : Int) ≤ (m : Int) / 8 := by omega
      go_wp2_with (at_builtin; refine wpList_append_row8 rfl _ _ rfl w.heap.size _ (s.data.toList ++ zer j) rfl (by rw [← hlen]; exact HR.out.alloc _) (by have := hbl.size; simp; omega) (by omega) ⟨wr.heap.size, 0, none⟩ rfl 0 (by simp) rfl ?_)
      intro v' w2 hrow2 hb2
      go_wp2
      go_roundg (m / 8 + 1 - s.size - (j + 1))
      case measure => omega
      case rel => exact ⟨j + 1, rfl, by omega, by rw [zer_succ]; exact hrow2, (hbl.alloc hbl.size _).trans hb2⟩
    · obtain rfl : j = m / 8 + 1 - s.size := by omega
      have hk8 : m / 8 < s.size + (m / 8 + 1 - s.size) := by omega
      have hge : ¬ ((s.size : Int) + ((m / 8 + 1 - s.size : Nat) : Int) ≤ (m : Int) / 8) := by omega
      have hkI : (m : Int) / 8 < (s.size : Int) + ((m / 8 + 1 - s.size : Nat) : Int) := by omega
      have hbk := row8_back hrow
      rw [hlen] at hbk
      cases hbv : (hb s m == on)
      · obtain ⟨b0, b1⟩ := bt_b s (m / 8)
        have hbv2 := hbv
        rw [hb_bit s m hs] at hbv2
        have ev := bits_flip (bt s (m / 8)) (m % 8) on b0 b1 (by omega) hbv2
        have hc : wr.cell? ⟨g, m / 8, none⟩ = some (.int .u8 (bt s (m / 8))) := by
          have ha := bl_at s (m / 8) (m / 8)
          have hkl : m / 8 < (bl s (m / 8)).length := by rw [bl_len]; exact hk8
          refine hcells (m / 8) _ ?_
          show (cells8 (bl s (m / 8)))[m / 8]? = _
          rw [List.getD_eq_getElem?_getD, List.getElem?_eq_getElem hkl] at ha
          simp only [Option.getD_some] at ha
          simp only [cells8, List.getElem?_map, List.getElem?_eq_getElem hkl, Option.map_some]
          rw [ha]
          congr 2
          omega
        have hf := (hthere (m / 8) (by omega)).2
        have hset := row8_back (Row8.set hrow (m / 8) (by rw [hlen]; exact hk8) (nb (bt s (m / 8)) (m % 8) on))
        rw [hlen] at hset
        have hset2 : Sem.run Try.prog (convert 61 9 (.slice (some ⟨g, 0, none⟩) (s.size + (m / 8 + 1 - s.size)) cap)) (wr.setCell ⟨g, m / 8, none⟩ (.int .u8 (nb (bt s (m / 8)) (m % 8) on).toNat)) = .ok (.string ⟨(pb s m on).toArray⟩) (wr.setCell ⟨g, m / 8, none⟩ (.int .u8 (nb (bt s (m / 8)) (m % 8) on).toNat)) := hset
        clear hbk hset hcells hthere hrow hbv2 hlen hk8 hcap hmax hk hlt
        go_wp2_with (go_at_call 62; refine (specHasBit_any _ _ _ (by omega) (by omega)).mono ?_; rintro e u1 ⟨rfl, hw1⟩; subst hw1)
        go_ret
        exact ⟨rfl, hbl.setCell hg _⟩
      · have HP : Hid (pb s m on = bl s (m / 8)) := pb_same s m on hs hbv
        clear hcells hthere hrow hlen hk8 hcap hmax hk hlt hkI
        go_wp2_with (go_at_call 62; refine (specHasBit_any _ _ _ (by omega) (by omega)).mono ?_; rintro e u1 ⟨rfl, hw1⟩; subst hw1)
        go_ret
        exact ⟨by rw [HP.out]; rfl, hbl⟩

theorem specPutBit_out (s : ByteArray) (n : Int) (on : Bool) (w : World) (hs : s.size ≤ 1048576) (h : ¬ (s.size ≤ 65536 ∧ 0 ≤ n ∧ n < 524288)) :
    Calls Try.prog 42 #[.string s, .int .i64 n, .bool on] w fun e w' => e = .returned (.string ⟨#[]⟩) ∧ Below w.heap.size w w' := by
  by_cases h1 : s.size ≤ 65536
  · have ht : decide (65536 < (s.size : Int)) = false := by simp; omega
    by_cases h2 : n < 0
    · go_enter Try.func42, Try.ntmps42
      go_wp2_with fail
      go_ret
      exact ⟨rfl, Below.refl _ _⟩
    · have h3 : 524288 ≤ n := by omega
      go_enter Try.func42, Try.ntmps42
      go_wp2_with fail
      go_ret
      exact ⟨rfl, Below.refl _ _⟩
  · have ht : decide (65536 < (s.size : Int)) = true := by simp; omega
    go_enter Try.func42, Try.ntmps42
    go_wp2_with fail
    go_ret
    exact ⟨rfl, Below.refl _ _⟩
end Go.Proofs.Ytmbdclbddbbdpaa
