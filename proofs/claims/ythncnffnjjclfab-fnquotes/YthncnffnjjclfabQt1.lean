import Derived.Test.YthncnffnjjclfabSg1
import Derived.Test.YthncnffnjjclfabPw1
import Derived.Test.YthncnffnjjclfabTB
namespace Go.Proofs.Ythncnffnjjclfab
open Go.ChangeShapes Go.WideShapes Go.ChangeAt Go.RowKit

/-- A number and the first k registers as words. -/
def qtK (f : Int) (zs : List Int) : Nat → ByteArray
  | 0 => pw f
  | k + 1 => qtK f zs k ++ pw (zs.getD k 0)
theorem qtK_size (f : Int) (zs : List Int) : ∀ k, (qtK f zs k).size = 4 + 4 * k
  | 0 => pw_size f
  | k + 1 => by rw [qtK, ByteArray.size_append, qtK_size f zs k, pw_size]; omega
def allT (f : Int) (zs : List Int) (nn : ByteArray) : ByteArray := qtK f zs zs.length ++ nn
theorem allT_size (f : Int) (zs : List Int) (nn : ByteArray) (h : zs.length ≤ 8) (h2 : nn.size ≤ 4096) : (allT f zs nn).size ≤ 60000 := by
  unfold allT
  rw [ByteArray.size_append, qtK_size]
  omega
set_option maxRecDepth 100000 in
set_option maxHeartbeats 4000000 in
theorem quoteSum_any {w : World} {v : Value} {zs : List Int} (h : Irow w v zs) (hl : zs.length ≤ 8) (f : Int) (nn : ByteArray) (sd : Int) (hn : nn.size ≤ 4096) :
    Calls Try.prog 70 #[.int .i64 f, v, .string nn, .int .i64 sd] w fun e w' => e = .returned (.int .i64 (mixv (allT f zs nn) sd)) ∧ Below w.heap.size w w' := by
  obtain ⟨ao, cap, rfl⟩ := h.sl
  have HR : Hid (Irow w (.slice ao zs.length cap) zs) := h
  have hsz := allT_size f zs nn hl hn
  have HA : Hid (qtK f zs zs.length ++ nn = allT f zs nn) := rfl
  generalize allT f zs nn = T at *
  clear h
  go_enter Try.func70, Try.ntmps70
  go_wp2_with (go_at_call 62; refine (implPutWord_any _ _).mono ?_; rintro e u1 ⟨rfl, hb1⟩; have HB1 : Hid _ := hb1; clear hb1; have hcv := bwk_conv u1 (pw f))
  have HK0 : Hid (KY (Lib.bytesWorld u1 5 (pw f)) (.slice (some ⟨u1.heap.size, 0, none⟩) (pw f).size (grownCap u1 (pw f).size 0 5)) (pw f)) := ky_conv u1 (pw f)
  have HB0 : Hid (Below w.heap.size w (Lib.bytesWorld u1 5 (pw f))) := HB1.out.trans ((bw_below u1 (pw f)).mono HB1.out.size)
  generalize Lib.bytesWorld u1 5 (pw f) = w1 at *
  generalize grownCap u1 (pw f).size 0 5 = c0 at *
  clear hcv HB1
  go_loopw [9, 17] (fun y i wr => ∃ k : Nat, k ≤ zs.length ∧ i = .int .i64 k ∧ KY wr y (qtK f zs k) ∧ Below w.heap.size w wr) (fun _ i _ => zs.length - (intOf i).toNat)
  case atStart => exact ⟨0, Nat.zero_le _, rfl, HK0.out, HB0.out⟩
  case round =>
    obtain ⟨k, hk, rfl, hky, hb⟩ := hrel
    clear HK0 HB0
    obtain ⟨g1, c1, rfl, _⟩ := hky.sl
    have HB : Hid (Below w.heap.size w wr) := hb
    have HK : Hid (KY wr (.slice (some ⟨g1, 0, none⟩) (qtK f zs k).size c1) (qtK f zs k)) := hky
    clear hky
    have hs1 := qtK_size f zs k
    by_cases hlt : k < zs.length
    · obtain ⟨g, o, cap2, hv, _, hg, hc⟩ := HR.out.resolve_left (fun h => by rw [h.1] at hlt; simp at hlt)
      injection hv with hv1 hv2 hv3
      subst hv1 hv3
      have d0 := hc.below hb hg k hlt
      have hgw : g < wr.heap.size := Nat.lt_of_lt_of_le hg hb.size
      have HN : Hid (qtK f zs (k + 1) = qtK f zs k ++ pw zs[k]) := (show qtK f zs (k + 1) = qtK f zs k ++ pw zs[k] by simp [qtK, List.getD, List.getElem?_eq_getElem hlt])
      generalize zs[k] = z at *
      have hk0 : (0 : Int) ≤ (k : Int) := by omega
      have hk1 : (k : Int) < (zs.length : Int) := by omega
      have HP : Hid ((qtK f zs k).size + (pw z).size ≤ 1048576) := (show (qtK f zs k).size + (pw z).size ≤ 1048576 by rw [pw_size]; omega)
      clear hc hb hs1
      generalize qtK f zs k = S at *
      go_wp2_with fail
      refine (implPutWord_any _ _).mono ?_
      rintro e u2 ⟨rfl, hb2⟩
      have HB2 : Hid _ := hb2
      clear hb2
      go_wp2_with fail
      refine (with_one (HK.out.below HB2.out) _ HP.out).mono ?_
      rw [← HN.out]
      rintro e u3 ⟨r, rfl, hk3, hb3⟩
      have HB3 : Hid (Below w.heap.size w u3) := HB.out.trans ((HB2.out.trans (hb3.mono HB2.out.size)).mono HB.out.size)
      have HK3 : Hid _ := hk3
      obtain ⟨g3, c3, rfl, _⟩ := hk3.sl
      clear hk3 hb3
      go_wp2
      exact ⟨⟨k + 1, hlt, by go_num, HK3.out, HB3.out⟩, by simp [intOf]; omega⟩
    · obtain rfl : k = zs.length := by omega
      clear hb
      have HP : Hid ((qtK f zs zs.length).size + nn.size ≤ 1048576) := (show (qtK f zs zs.length).size + nn.size ≤ 1048576 by omega)
      clear hs1
      generalize qtK f zs zs.length = S at *
      go_wp2_with fail
      refine (with_one HK.out _ HP.out).mono ?_
      rw [HA.out]
      rintro e u3 ⟨r, rfl, hk3, hb3⟩
      have HB3 : Hid (Below w.heap.size w u3) := HB.out.trans (hb3.mono HB.out.size)
      have hcv := ky_back hk3
      obtain ⟨g3, c3, rfl, _⟩ := hk3.sl
      clear hk3 hb3
      go_wp2_with (go_at_call 60; refine (implMix_any _ _ _ (by omega)).mono ?_; rintro e u4 ⟨rfl, hw4⟩; rw [hw4]; clear hw4)
      go_ret
      exact ⟨rfl, HB3.out⟩
set_option maxRecDepth 100000 in
set_option maxHeartbeats 4000000 in
theorem l15All_any {w : World} {v : Value} {zs : List Int} (h : Irow w v zs) (hl : zs.length ≤ 8) (f : Int) (nn : ByteArray) (hn : nn.size ≤ 4096) :
    Calls Try.prog 73 #[.int .i64 f, v, .string nn] w fun e w' => e = .returned (.string (allT f zs nn)) ∧ Below w.heap.size w w' := by
  obtain ⟨ao, cap, rfl⟩ := h.sl
  have HR : Hid (Irow w (.slice ao zs.length cap) zs) := h
  have HA : Hid (qtK f zs zs.length ++ nn = allT f zs nn) := rfl
  generalize allT f zs nn = T at *
  clear h
  go_enter Try.func73, Try.ntmps73
  go_wp2_with (go_at_call 53; refine (specPutWord_any _ _).mono ?_; rintro e u1 ⟨rfl, hb1⟩; have HB1 : Hid _ := hb1; clear hb1)
  go_loopw [7, 8] (fun y i wr => ∃ k : Nat, k ≤ zs.length ∧ i = .int .i64 k ∧ y = .string (qtK f zs k) ∧ Below w.heap.size w wr) (fun _ i _ => zs.length - (intOf i).toNat)
  case atStart => exact ⟨0, Nat.zero_le _, rfl, rfl, HB1.out⟩
  case round =>
    obtain ⟨k, hk, rfl, rfl, hb⟩ := hrel
    have HB : Hid (Below w.heap.size w wr) := hb
    have hs1 : (qtK f zs k).size ≤ 100 := by rw [qtK_size]; omega
    by_cases hlt : k < zs.length
    · obtain ⟨g, o, cap2, hv, _, hg, hc⟩ := HR.out.resolve_left (fun h => by rw [h.1] at hlt; simp at hlt)
      injection hv with hv1 hv2 hv3
      subst hv1 hv3
      have d0 := hc.below hb hg k hlt
      have hgw : g < wr.heap.size := Nat.lt_of_lt_of_le hg hb.size
      have HN : Hid (qtK f zs (k + 1) = qtK f zs k ++ pw zs[k]) := (show qtK f zs (k + 1) = qtK f zs k ++ pw zs[k] by simp [qtK, List.getD, List.getElem?_eq_getElem hlt])
      generalize zs[k] = z at *
      have hk0 : (0 : Int) ≤ (k : Int) := by omega
      have hk1 : (k : Int) < (zs.length : Int) := by omega
      have p2 : (pw z).size ≤ 4 := Nat.le_of_eq (pw_size _)
      clear hc hb
      generalize qtK f zs k = S at *
      go_wp2_with fail
      refine (specPutWord_any _ _).mono ?_
      rintro e u2 ⟨rfl, hb2⟩
      have HB2 : Hid (Below w.heap.size w u2) := HB.out.trans (hb2.mono HB.out.size)
      clear hb2
      go_wp2
      exact ⟨⟨k + 1, hlt, by go_num, by rw [HN.out], HB2.out⟩, by simp [intOf]; omega⟩
    · obtain rfl : k = zs.length := by omega
      clear hb
      generalize qtK f zs zs.length = S at *
      go_wp2
      go_ret
      exact ⟨by rw [← HA.out]; rfl, HB.out⟩
end Go.Proofs.Ythncnffnjjclfab
