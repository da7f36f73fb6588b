import Derived.Test.YthhbfghbpapklaaPo7
import Derived.Test.YthhbfghbpapklaaQu4
import Derived.Test.YthhbfghbpapklaaSb2
namespace Go.Proofs.Ythhbfghbpapklaa
open Go.ChangeShapes Go.WideShapes Go.ChangeAt Go.RowKit

set_option maxRecDepth 100000
/-- What PostChain answers. -/
def poV (s : ByteArray) (q : QV) (i : Int) (zs : List BU) : Value :=
  if 1000 < zs.length then gcA 2 ⟨#[]⟩ q0 false else if 65536 < s.size then gcA 2 ⟨#[]⟩ q0 false else if qOk s q = false then gcA 1 ⟨#[]⟩ q0 false else if hsB q.size i = false then gcA 1 ⟨#[]⟩ q0 false else if zs.length = 0 then gcA 1 ⟨#[]⟩ q0 false else if q.size < (zs.length : Int) then gcA 1 ⟨#[]⟩ q0 false else if zs.all okB = true then gcA 0 (pcF (pcM s q.size.toNat q.desc.toNat i.toNat (pdL q.size.toNat i.toNat zs) zs.length) q.size.toNat q.avail.toNat i.toNat) q false else gcA 1 ⟨#[]⟩ q0 false
theorem qnat {s : ByteArray} {q : QV} (h : qOk s q = true) : ∃ S D A U T G : Nat, q = ⟨S, D, A, U, T, G⟩ := by
  obtain ⟨_, hsz, ht, hg, hd, ha, hu⟩ := qOk_b h
  have hS : 1 ≤ q.size := by unfold szB at hsz; simp at hsz; omega
  obtain ⟨sz, d, a, us, tk, gv⟩ := q
  simp only at hS ht hg hd ha hu
  obtain ⟨S, rfl⟩ := Int.eq_ofNat_of_zero_le (show 0 ≤ sz by omega)
  obtain ⟨D, rfl⟩ := Int.eq_ofNat_of_zero_le hd.2.1
  obtain ⟨A, rfl⟩ := Int.eq_ofNat_of_zero_le ha.2.1
  obtain ⟨U, rfl⟩ := Int.eq_ofNat_of_zero_le hu.2.1
  obtain ⟨T, rfl⟩ := Int.eq_ofNat_of_zero_le ht.1
  obtain ⟨G, rfl⟩ := Int.eq_ofNat_of_zero_le hg.1
  exact ⟨S, D, A, U, T, G, rfl⟩
theorem hsB_nat {S : Nat} {i : Int} (h : hsB (S : Int) i = true) : ∃ F : Nat, i = F ∧ F < S := by
  unfold hsB at h
  simp at h
  obtain ⟨F, rfl⟩ := Int.eq_ofNat_of_zero_le h.1
  exact ⟨F, rfl, by omega⟩
theorem implPO_any {w : World} {v : Value} {zs : List BU} (s : ByteArray) (q : QV) (i : Int) (h : BUrow w v zs) (hs : s.size ≤ 1048576) : Calls Try.prog 11 #[.string s, qA q, .int .i64 i, v] w fun e w' => e = .returned (poV s q i zs) ∧ Below w.heap.size w w' := by
  unfold poV
  by_cases h1 : 1000 < zs.length
  · rw [if_pos h1]
    exact implPO_many s q i h h1
  rw [if_neg h1]
  by_cases h2 : 65536 < s.size
  · rw [if_pos h2]
    exact implPO_code s q i h h1 hs 2 (by unfold qkC; rw [if_pos h2]) (by decide)
  rw [if_neg h2]
  cases h3 : qOk s q
  · rw [if_pos rfl]
    exact implPO_code s q i h h1 hs 1 (by unfold qkC; rw [if_neg h2, qF_no h3]) (by decide)
  rw [if_neg (by simp)]
  have hc : qkC s q = 0 := by unfold qkC; rw [if_neg h2, qF_ok h3]
  cases h4 : hsB q.size i
  · rw [if_pos rfl]
    exact implPO_has s q i h h1 hs hc h4
  rw [if_neg (by simp)]
  by_cases h5 : zs.length = 0
  · rw [if_pos h5]
    exact implPO_none s q i h h1 hs hc h4 h5
  rw [if_neg h5]
  by_cases h6 : q.size < (zs.length : Int)
  · rw [if_pos h6]
    exact implPO_long s q i h h1 hs hc h4 h5 h6
  rw [if_neg h6]
  obtain ⟨S, D, A, U, T, G, rfl⟩ := qnat h3
  obtain ⟨F, rfl, hF⟩ := hsB_nat h4
  cases h7 : zs.all okB
  · rw [if_neg (by simp)]
    exact implPO_bad s S D A U T G F h h3 hF h5 (by simp only at h6; omega) h7
  · rw [if_pos rfl]
    exact implPO_good s S D A U T G F h h3 hF h5 (by simp only at h6; omega) h7
theorem specPO_any {w : World} {v : Value} {zs : List BU} (s : ByteArray) (q : QV) (i : Int) (h : BUrow w v zs) : Calls Try.prog 8 #[.string s, qA q, .int .i64 i, v] w fun e w' => e = .returned (poV s q i zs) ∧ Below w.heap.size w w' := by
  unfold poV
  by_cases h1 : 1000 < zs.length
  · rw [if_pos h1]
    exact specPO_many s q i h h1
  rw [if_neg h1]
  by_cases h2 : 65536 < s.size
  · rw [if_pos h2]
    exact specPO_big s q i h h1 h2
  rw [if_neg h2]
  cases h3 : qOk s q
  · rw [if_pos rfl]
    exact specPO_q s q i h h1 h2 h3
  rw [if_neg (by simp)]
  by_cases h41 : i < 0
  · rw [if_pos (show hsB q.size i = false by unfold hsB; simp; omega)]
    exact specPO_neg s q i h h1 h2 h3 h41
  by_cases h42 : q.size ≤ i
  · rw [if_pos (show hsB q.size i = false by unfold hsB; simp; omega)]
    exact specPO_ge s q i h h1 h2 h3 h41 h42
  have h4 : hsB q.size i = true := by unfold hsB; simp; omega
  rw [if_neg (by rw [h4]; simp)]
  by_cases h5 : zs.length = 0
  · rw [if_pos h5]
    exact specPO_none s q i h h1 h2 h3 h41 h42 h5
  rw [if_neg h5]
  by_cases h6 : q.size < (zs.length : Int)
  · rw [if_pos h6]
    exact specPO_long s q i h h1 h2 h3 h41 h42 h5 h6
  rw [if_neg h6]
  obtain ⟨S, D, A, U, T, G, rfl⟩ := qnat h3
  obtain ⟨F, rfl, hF⟩ := hsB_nat h4
  refine specPO_go s S D A U T G F h h3 hF h5 (by simp only at h6; omega) _ (fun h7 => ?_) (fun h7 => ?_)
  · rw [if_pos h7]
    rfl
  · rw [if_neg (by rw [h7]; simp)]
theorem poV_is (s : ByteArray) (q : QV) (i : Int) (zs : List BU) : ∃ c m p g, poV s q i zs = gcA c m p g := by
  unfold poV
  repeat' split
  all_goals exact ⟨_, _, _, _, rfl⟩
set_option maxRecDepth 100000 in
set_option maxHeartbeats 4000000 in
theorem eqQueue_ok (p : QV) (w : World) : Calls Try.prog 34 #[qA p, qA p] w fun e w' => e = .returned (.bool true) ∧ Below w.heap.size w w' := by
  obtain ⟨sz, d, a, us, tk, gv⟩ := p
  unfold qA
  go_enter Try.func34, Try.ntmps34
  go_wp2_with fail
  go_ret
  exact ⟨rfl, (bx1 _ _).alloc (by simp) _⟩
set_option maxRecDepth 100000 in
set_option maxHeartbeats 4000000 in
theorem eqGivenChain_ok (c : Int) (m : ByteArray) (p : QV) (sg : Bool) (w : World) : Calls Try.prog 12 #[gcA c m p sg, gcA c m p sg] w fun e w' => e = .returned (.bool true) ∧ Below w.heap.size w w' := by
  have HE : Hid _ := fun u => eqQueue_ok p u
  obtain ⟨sz, d, a, us, tk, gv⟩ := p
  unfold gcA
  unfold qA at HE
  simp only
  have hw : (sg != sg) = false := by cases sg <;> rfl
  have HB : Hid (∀ u, Below ((w.alloc (.cells #[.int .i64 c, .string m, .int .i64 sz, .int .i64 d, .int .i64 a, .int .i64 us, .int .i64 tk, .int .i64 gv, .bool sg] 28)).alloc (.cells #[.int .i64 c, .string m, .int .i64 sz, .int .i64 d, .int .i64 a, .int .i64 us, .int .i64 tk, .int .i64 gv, .bool sg] 28)).heap.size ((w.alloc (.cells #[.int .i64 c, .string m, .int .i64 sz, .int .i64 d, .int .i64 a, .int .i64 us, .int .i64 tk, .int .i64 gv, .bool sg] 28)).alloc (.cells #[.int .i64 c, .string m, .int .i64 sz, .int .i64 d, .int .i64 a, .int .i64 us, .int .i64 tk, .int .i64 gv, .bool sg] 28)) u → TwoBx w u #[.int .i64 c, .string m, .int .i64 sz, .int .i64 d, .int .i64 a, .int .i64 us, .int .i64 tk, .int .i64 gv, .bool sg] 28 #[.int .i64 c, .string m, .int .i64 sz, .int .i64 d, .int .i64 a, .int .i64 us, .int .i64 tk, .int .i64 gv, .bool sg] 28) := fun u h => TwoBx.of _ _ _ _ _ h
  go_enter Try.func12, Try.ntmps12
  go_wp2_with fail
  refine Calls.mono (HE.out _) ?_
  rintro e u1 ⟨rfl, hu1⟩
  have HX : Hid _ := HB.out u1 hu1
  clear hu1 HB
  have c8 := HX.out.c1 8 _ rfl
  have d8 := HX.out.c2 8 _ rfl
  go_wp2_with fail
  go_ret
  exact ⟨rfl, HX.out.bel⟩
set_option maxHeartbeats 4000000 in
theorem walkPO {w : World} {v : Value} {zs : List BU} (s : ByteArray) (z : QV) (i : Int) (h : BUrow w v zs) (hm : zs.length ≤ maxLen) : Calls Try.prog 3 #[.string s, qA z, .int .i64 i, v] w fun e w' => e = .returned (.bool true) ∧ Below w.heap.size w w' := by
  obtain ⟨a1, c1, rfl⟩ := h.sl
  have HR : Hid (BUrow w (.slice a1 zs.length c1) zs) := h
  have HSZ : Hid _ := fun u => szBUS_any a1 zs.length c1 1048576 u (by omega) (by omega) hm
  have HL0 : Hid (LBx w (w.alloc (.cells (qC z) 23)) w.heap.size (qC z) 23) := LBx.new w _ _
  obtain ⟨S, D, A, U, T, G⟩ := z
  clear h hm
  by_cases h0 : 1048576 < s.size
  · have hd0 : decide (1048576 < (s.size : Int)) = true := decide_eq_true (by omega)
    unfold qA
    unfold qC at HL0
    clear h0
    go_enter Try.func3, Try.ntmps3
    go_wp2_with fail
    go_ret
    exact ⟨rfl, HL0.out.bel⟩
  have hd0 : decide (1048576 < (s.size : Int)) = false := decide_eq_false (by omega)
  by_cases hl : 1048576 < zs.length
  · rw [if_pos (by omega)] at HSZ
    unfold qA
    unfold qC at HL0
    go_enter Try.func3, Try.ntmps3
    go_wp2_with (go_at_call 7; refine Calls.mono (HSZ.out _) ?_; rintro e u1 ⟨rfl, hu1⟩; rw [hu1]; clear hu1)
    go_ret
    exact ⟨rfl, HL0.out.bel⟩
  rw [if_neg (by omega)] at HSZ
  have hp : ¬ (1048576 - (zs.length : Int)) < 0 := by omega
  have HTO : Hid _ := fun u => toQueue_any ⟨S, D, A, U, T, G⟩ u
  have HSS : Hid (∀ (u : World) (x : Value), BUrow u x zs → Calls Try.prog 8 #[.string s, qA ⟨S, D, A, U, T, G⟩, .int .i64 i, x] u fun e w' => e = .returned (poV s ⟨S, D, A, U, T, G⟩ i zs) ∧ Below u.heap.size u w') := fun u x hx => specPO_any s _ i hx
  have HSI : Hid (∀ (u : World) (x : Value), BUrow u x zs → Calls Try.prog 11 #[.string s, qA ⟨S, D, A, U, T, G⟩, .int .i64 i, x] u fun e w' => e = .returned (poV s ⟨S, D, A, U, T, G⟩ i zs) ∧ Below u.heap.size u w') := fun u x hx => implPO_any s _ i hx (by omega)
  have HTB : Hid (∀ {u : World}, Below w.heap.size w u → Calls Try.prog 10 #[.slice a1 zs.length c1] u fun e w' => ∃ x, e = .returned x ∧ BUrow w' x zs ∧ Below u.heap.size u w') := fun hu => (toBUS_any (HR.out.below hu) (by omega)).mono (fun e w' ⟨x, hx, ho, hb⟩ => ⟨x, hx, BUrow.of ho, hb⟩)
  have HEB : Hid (∀ {u : World} {x y : Value}, BUrow u x zs → BUrow u y zs → Calls Try.prog 13 #[x, y] u fun e w' => e = .returned (.bool true) ∧ Below u.heap.size u w') := fun hx hy => eqBUS_ok hx hy (by omega)
  obtain ⟨c, m, q, g, hv⟩ := poV_is s ⟨S, D, A, U, T, G⟩ i zs
  rw [hv] at HSS HSI
  have HEQ : Hid _ := fun u => eqGivenChain_ok c m q g u
  obtain ⟨qs, qd, qa, qu, qt, qg⟩ := q
  unfold qA at HTO HSS HSI ⊢
  unfold qC at HL0
  unfold gcA at HSS HSI HEQ
  simp only at HTO HSS HSI HEQ HL0 ⊢
  clear h0 hv HR hl
  go_enter Try.func3, Try.ntmps3
  go_wp2_with fail
  generalize (w.alloc (.cells #[.int .i64 S, .int .i64 D, .int .i64 A, .int .i64 U, .int .i64 T, .int .i64 G] 23)) = u0 at *
  refine Calls.mono (HSZ.out _) ?_
  rintro e u0b ⟨rfl, hu⟩
  rw [hu]
  clear hu
  have cc0 := HL0.out.cel 0 _ rfl
  have cc1 := HL0.out.cel 1 _ rfl
  have cc2 := HL0.out.cel 2 _ rfl
  have cc3 := HL0.out.cel 3 _ rfl
  have cc4 := HL0.out.cel 4 _ rfl
  have cc5 := HL0.out.cel 5 _ rfl
  have lt := HL0.out.lt
  go_wp2_with fail
  refine Calls.mono (HTO.out _) ?_
  rintro e u1 ⟨rfl, hb⟩
  have HL1 : Hid _ := HL0.out.step hb
  clear hb HL0 cc0 cc1 cc2 cc3 cc4 cc5 lt
  go_wp2_with fail
  refine Calls.mono (HTB.out HL1.out.bel) ?_
  rintro e u2 ⟨x2, rfl, hx2, hb⟩
  have HL2 : Hid _ := HL1.out.step hb
  have HX2 : Hid (BUrow u2 x2 zs) := hx2
  clear hb hx2 HL1
  go_wp2_with fail
  refine Calls.mono (HSS.out _ _ HX2.out) ?_
  rintro e u3 ⟨rfl, hb⟩
  have HL3 : Hid _ := HL2.out.step hb
  clear hb HL2 HX2
  have HL3b : Hid _ := HL3.out.step (bx1 u3 (.cells #[.int .i64 c, .string m, .int .i64 qs, .int .i64 qd, .int .i64 qa, .int .i64 qu, .int .i64 qt, .int .i64 qg, .bool g] 28))
  have HW3 : Hid (LBx u3 _ _ _ _) := LBx.new u3 #[.int .i64 c, .string m, .int .i64 qs, .int .i64 qd, .int .i64 qa, .int .i64 qu, .int .i64 qt, .int .i64 qg, .bool g] 28
  go_wp2_with fail
  generalize (u3.alloc (.cells #[.int .i64 c, .string m, .int .i64 qs, .int .i64 qd, .int .i64 qa, .int .i64 qu, .int .i64 qt, .int .i64 qg, .bool g] 28)) = u3b at *
  generalize u3.heap.size = B3 at *
  refine Calls.mono (HTB.out HL3b.out.bel) ?_
  rintro e u4 ⟨x4, rfl, hx4, hb⟩
  have HL4 : Hid _ := HL3b.out.step hb
  have HW4 : Hid _ := HW3.out.step hb
  have HX4 : Hid (BUrow u4 x4 zs) := hx4
  clear hb hx4 HL3 HL3b HW3
  have cc0 := HL4.out.cel 0 _ rfl
  have cc1 := HL4.out.cel 1 _ rfl
  have cc2 := HL4.out.cel 2 _ rfl
  have cc3 := HL4.out.cel 3 _ rfl
  have cc4 := HL4.out.cel 4 _ rfl
  have cc5 := HL4.out.cel 5 _ rfl
  have lt := HL4.out.lt
  go_wp2_with fail
  refine Calls.mono (HTO.out _) ?_
  rintro e u5 ⟨rfl, hb⟩
  have HL5 : Hid _ := HL4.out.step hb
  have HW5 : Hid _ := HW4.out.step hb
  have HX5 : Hid (BUrow u5 x4 zs) := HX4.out.below hb
  clear hb HL4 HW4 HX4 cc0 cc1 cc2 cc3 cc4 cc5 lt
  go_wp2_with fail
  refine Calls.mono (HSI.out _ _ HX5.out) ?_
  rintro e u6 ⟨rfl, hb⟩
  have HL6 : Hid _ := HL5.out.step hb
  have HW6 : Hid _ := HW5.out.step hb
  have HX6 : Hid (BUrow (u6.alloc (.cells #[.int .i64 c, .string m, .int .i64 qs, .int .i64 qd, .int .i64 qa, .int .i64 qu, .int .i64 qt, .int .i64 qg, .bool g] 28)) x4 zs) := (HX5.out.below hb).below (bx1 u6 (.cells #[.int .i64 c, .string m, .int .i64 qs, .int .i64 qd, .int .i64 qa, .int .i64 qu, .int .i64 qt, .int .i64 qg, .bool g] 28))
  clear hb HL5 HW5 HX5
  have HB6 : Hid (Below w.heap.size w (u6.alloc (.cells #[.int .i64 c, .string m, .int .i64 qs, .int .i64 qd, .int .i64 qa, .int .i64 qu, .int .i64 qt, .int .i64 qg, .bool g] 28))) := HL6.out.bel.alloc HL6.out.bel.size _
  have cc0 := HW6.out.cel 0 _ rfl
  have cc1 := HW6.out.cel 1 _ rfl
  have cc2 := HW6.out.cel 2 _ rfl
  have cc3 := HW6.out.cel 3 _ rfl
  have cc4 := HW6.out.cel 4 _ rfl
  have cc5 := HW6.out.cel 5 _ rfl
  have cc6 := HW6.out.cel 6 _ rfl
  have cc7 := HW6.out.cel 7 _ rfl
  have cc8 := HW6.out.cel 8 _ rfl
  have lt := HW6.out.lt
  go_wp2_with fail
  refine Calls.mono (HEQ.out _) ?_
  generalize (u6.alloc (.cells #[.int .i64 c, .string m, .int .i64 qs, .int .i64 qd, .int .i64 qa, .int .i64 qu, .int .i64 qt, .int .i64 qg, .bool g] 28)) = u6b at *
  rintro e u7 ⟨rfl, hb⟩
  have HB7 : Hid (Below w.heap.size w u7) := HB6.out.trans (hb.mono HB6.out.size)
  have HX7 : Hid (BUrow u7 x4 zs) := HX6.out.below hb
  clear hb HB6 HX6 HL6 HW6 cc0 cc1 cc2 cc3 cc4 cc5 cc6 cc7 cc8 lt
  go_wp2_with fail
  refine Calls.mono (HTB.out HB7.out) ?_
  rintro e u8 ⟨x8, rfl, hx8, hb⟩
  have HB8 : Hid (Below w.heap.size w u8) := HB7.out.trans (hb.mono HB7.out.size)
  have HX8 : Hid (BUrow u8 x8 zs) := hx8
  have HX9 : Hid (BUrow u8 x4 zs) := HX7.out.below hb
  clear hb hx8 HB7 HX7
  go_wp2_with fail
  refine Calls.mono (HEB.out HX9.out HX8.out) ?_
  rintro e u9 ⟨rfl, hb⟩
  have HB9 : Hid (Below w.heap.size w u9) := HB8.out.trans (hb.mono HB8.out.size)
  clear hb HB8
  go_wp2_with fail
  go_ret
  exact ⟨rfl, HB9.out⟩
end Go.Proofs.Ythhbfghbpapklaa
