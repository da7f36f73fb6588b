import Derived.Test.YtniaohflkopncaaSk3
namespace Go.Proofs.Ytniaohflkopncaa
open Go.ChangeShapes Go.WideShapes Go.ChangeAt Go.RowKit

def cryV (s : ByteArray) (tw : Int) (d : ByteArray) : ByteArray := if ovB s = true ∨ 65536 < d.size then ⟨#[]⟩ else crV s tw d
def tagV (s d : ByteArray) : ByteArray := pw (mixv (s ++ d) 21) ++ pw (mixv (d ++ s) 22)
def tgoV (s d : ByteArray) : ByteArray := if ovB s = true ∨ ovB d = true then ⟨#[]⟩ else tagV s d
theorem ovB_le {s : ByteArray} (h : ovB s = false) : s.size ≤ 4096 := by
  have := of_decide_eq_false h
  omega
theorem cat2_eq (a b : ByteArray) : (⟨(catB [a, b]).toArray⟩ : ByteArray) = a ++ b := by
  apply ByteArray.ext
  simp [catB]
theorem join2_any (u : World) (a b : ByteArray) (hsz : a.size + b.size ≤ 1099511627776) :
    Calls Try.prog 137 #[.slice (some ⟨u.heap.size, 0, none⟩) 2 2] (u.alloc (.cells #[.string a, .string b] 9)) fun e w' => e = .returned (.string (a ++ b)) ∧ Below u.heap.size u w' := by
  refine (joined_any u.heap.size 2 2 [a, b] _ rfl (by simp) ?_ (by omega) ?_).mono ?_
  · intro i hi
    match i, hi with
    | 0, _ => simp
    | 1, _ => simp
  · simp [catB]
    omega
  · rintro e w' ⟨rfl, hb⟩
    exact ⟨by rw [cat2_eq], ((Below.refl u.heap.size u).alloc (Nat.le_refl _) _).trans (hb.mono (by simp))⟩
set_option maxRecDepth 100000 in
set_option maxHeartbeats 4000000 in
theorem tag_any {w : World} {v : Value} {s : ByteArray} (h : KY w v s) (d : ByteArray) (hs : s.size ≤ 500000) (hd : d.size ≤ 500000) :
    Calls Try.prog 103 #[v, .string d] w fun e w' => e = .returned (.string (tagV s d)) ∧ Below w.heap.size w w' := by
  obtain ⟨g, cap, rfl, hc⟩ := h.sl
  have HK : Hid (KY w (.slice (some ⟨g, 0, none⟩) s.size cap) s) := h
  have HP1 : Hid (s.size + d.size ≤ 1048576) := (show s.size + d.size ≤ 1048576 by omega)
  have HP2 : Hid (d.size + s.size ≤ 1048576) := (show d.size + s.size ≤ 1048576 by omega)
  have hh1 : (s ++ d).size ≤ 1048576 := by rw [ByteArray.size_append]; omega
  have hh2 : (d ++ s).size ≤ 1048576 := by rw [ByteArray.size_append]; omega
  obtain ⟨S, hS⟩ : ∃ S, s ++ d = S := ⟨_, rfl⟩
  obtain ⟨T, hT⟩ : ∃ T, d ++ s = T := ⟨_, rfl⟩
  have HR : Hid (tagV s d = pw (mixv S 21) ++ pw (mixv T 22)) := (show tagV s d = _ by rw [← hS, ← hT]; rfl)
  have HS : Hid (s ++ d = S) := hS
  have HT : Hid (d ++ s = T) := hT
  have HJ : Hid ((pw (mixv S 21)).size + (pw (mixv T 22)).size ≤ 1099511627776) := (show (pw (mixv S 21)).size + (pw (mixv T 22)).size ≤ 1099511627776 by rw [pw_size, pw_size]; omega)
  rw [hS] at hh1
  rw [hT] at hh2
  clear h hS hT
  generalize tagV s d = R at *
  go_enter Try.func103, Try.ntmps103
  go_wp2_with fail
  refine (with_one HK.out _ HP1.out).mono ?_
  rw [HS.out]
  rintro e u1 ⟨r1, rfl, hk1, hb1⟩
  have HB1 : Hid (Below w.heap.size w u1) := hb1
  have HK1 : Hid _ := HK.out.below hb1
  have hcv := ky_back hk1
  obtain ⟨g1, c1, rfl, _⟩ := hk1.sl
  clear hk1 hb1 HK
  have hcv2 := bwk_conv u1 d
  have HY2 : Hid _ := ky_conv u1 d
  have HB2 : Hid (Below w.heap.size w (Lib.bytesWorld u1 5 d)) := HB1.out.trans ((bw_below u1 d).mono HB1.out.size)
  have HK2 : Hid _ := HK1.out.below (bw_below u1 d)
  generalize Lib.bytesWorld u1 5 d = u2 at *
  generalize grownCap u1 d.size 0 5 = c2 at *
  have hcv3 := ky_back HK2.out
  go_wp2_with (first | (go_at_call 136; refine (implMix_any _ _ _ hh1).mono ?_; clear hh1; rintro e u3 ⟨rfl, hw3⟩; rw [hw3]; clear hw3) | (go_at_call 133; refine (with_one HY2.out _ HP2.out).mono ?_; rw [HT.out]; rintro e u4 ⟨r4, rfl, hk4, hb4⟩; have HB4 : Hid _ := HB2.out.trans (hb4.mono HB2.out.size); have hcv4 := ky_back hk4; obtain ⟨g4, c4, rfl, _⟩ := hk4.sl; clear hk4 hb4) | (go_at_call 136; refine (implMix_any _ _ _ hh2).mono ?_; rintro e u5 ⟨rfl, hw5⟩; rw [hw5]; clear hw5))
  refine (implPutWord_any _ _).mono ?_
  rintro e u6 ⟨rfl, hb6⟩
  have HB6 : Hid _ := HB4.out.trans (hb6.mono HB4.out.size)
  clear hb6
  go_wp2_with fail
  refine (implPutWord_any _ _).mono ?_
  rintro e u7 ⟨rfl, hb7⟩
  have HB7 : Hid _ := HB6.out.trans (hb7.mono HB6.out.size)
  clear hb7
  go_wp2_with fail
  refine (join2_any _ _ _ HJ.out).mono ?_
  rintro e u8 ⟨rfl, hb8⟩
  have HB8 : Hid _ := HB7.out.trans (hb8.mono HB7.out.size)
  clear hb8
  rw [← HR.out]
  go_wp2
  go_ret
  exact ⟨rfl, HB8.out⟩
end Go.Proofs.Ytniaohflkopncaa
