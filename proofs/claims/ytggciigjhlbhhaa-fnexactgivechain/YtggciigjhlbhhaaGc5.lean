import Derived.Test.YtggciigjhlbhhaaGc3
import Derived.Test.YtggciigjhlbhhaaGc4
import Derived.Test.YtggciigjhlbhhaaQu4
namespace Go.Proofs.Ytggciigjhlbhhaa
open Go.ChangeShapes Go.WideShapes Go.ChangeAt Go.RowKit

def gcV (s : ByteArray) (q : QV) (head size : Int) : Value := if 65536 < s.size then gcA 2 ⟨#[]⟩ q0 false else if (qOk s q && gcB q head size) = true then gcA 0 (gcM s q.size.toNat q.used.toNat q.given.toNat head size) ⟨q.size, q.desc, q.avail, q.used, q.taken, (((q.given.toNat + 1) % 65536 : Nat) : Int)⟩ (wv (gcM s q.size.toNat q.used.toNat q.given.toNat head size) q.avail.toNat % 2 == 0) else gcA 1 ⟨#[]⟩ q0 false
theorem gcV_2 {s : ByteArray} {p : QV} {i z : Int} (h : 65536 < s.size) : gcV s p i z = gcA 2 ⟨#[]⟩ q0 false := by unfold gcV; rw [if_pos h]
theorem gcV_1 {s : ByteArray} {p : QV} {i z : Int} (h : ¬ 65536 < s.size) (h1 : (qOk s p && gcB p i z) = false) : gcV s p i z = gcA 1 ⟨#[]⟩ q0 false := by unfold gcV; rw [if_neg h, h1]; rfl
theorem gcV_0 {s : ByteArray} {S D A U T G : Nat} {i z : Int} (h : ¬ 65536 < s.size) (h1 : (qOk s ⟨S, D, A, U, T, G⟩ && gcB ⟨S, D, A, U, T, G⟩ i z) = true) : gcV s ⟨S, D, A, U, T, G⟩ i z = gcA 0 (gcM s S U G i z) ⟨S, D, A, U, T, (((G + 1) % 65536 : Nat) : Int)⟩ (wv (gcM s S U G i z) A % 2 == 0) := by unfold gcV; rw [if_neg h, if_pos h1]; rfl
theorem q_nat {s : ByteArray} {q : QV} (h : qOk s q = true) : ∃ S D A U T G : Nat, q = ⟨S, D, A, U, T, G⟩ := by
  obtain ⟨_, hsz, ht, hg, hd, ha, hu⟩ := qOk_b h
  obtain ⟨b1, _⟩ := szB_b hsz
  obtain ⟨sz, d, a, us, tk, gv⟩ := q
  simp only at b1 ht hg hd ha hu
  obtain ⟨S, rfl⟩ := Int.eq_ofNat_of_zero_le (show 0 ≤ sz by omega)
  obtain ⟨D, rfl⟩ := Int.eq_ofNat_of_zero_le hd.2.1
  obtain ⟨A, rfl⟩ := Int.eq_ofNat_of_zero_le ha.2.1
  obtain ⟨U, rfl⟩ := Int.eq_ofNat_of_zero_le hu.2.1
  obtain ⟨T, rfl⟩ := Int.eq_ofNat_of_zero_le ht.1
  obtain ⟨G, rfl⟩ := Int.eq_ofNat_of_zero_le hg.1
  exact ⟨S, D, A, U, T, G, rfl⟩
theorem implGC_any (s : ByteArray) (q : QV) (head size : Int) (w : World) (hs : s.size ≤ 1048576) :
    Calls Try.prog 8 #[.string s, qA q, .int .i64 head, .int .i64 size] w fun e w' => e = .returned (gcV s q head size) ∧ Below w.heap.size w w' := by
  by_cases h : 65536 < s.size
  · rw [gcV_2 h]
    exact implGC_code s q head size 2 w hs (by unfold qkC; rw [if_pos h]) (by decide)
  cases hp : qOk s q
  · rw [gcV_1 h (by rw [hp]; rfl)]
    exact implGC_code s q head size 1 w hs (by unfold qkC; rw [if_neg h, qF_no hp]) (by decide)
  cases hn : gcB q head size
  · rw [gcV_1 h (by rw [hn, Bool.and_false])]
    exact implGC_form s q head size w hs (by unfold qkC; rw [if_neg h, qF_ok hp]) hn
  · obtain ⟨S, D, A, U, T, G, rfl⟩ := q_nat hp
    rw [gcV_0 h (by rw [hp, hn]; rfl)]
    exact implGC_good s S D A U T G head size w hp hn
theorem specGC_any (s : ByteArray) (q : QV) (head size : Int) (w : World) :
    Calls Try.prog 6 #[.string s, qA q, .int .i64 head, .int .i64 size] w fun e w' => e = .returned (gcV s q head size) ∧ Below w.heap.size w w' := by
  by_cases h : 65536 < s.size
  · rw [gcV_2 h]
    exact specGC_long s q head size w h
  cases hq : (qOk s q && gcB q head size)
  · rw [gcV_1 h hq]
    exact specGC_form s q head size w h hq
  · have hq2 := hq
    rw [Bool.and_eq_true] at hq2
    obtain ⟨hp, hn⟩ := hq2
    obtain ⟨S, D, A, U, T, G, rfl⟩ := q_nat hp
    rw [gcV_0 h hq]
    exact specGC_good s S D A U T G head size w hp hn
theorem gcV_is (s : ByteArray) (p : QV) (i z : Int) : ∃ c m q g, gcV s p i z = gcA c m q g := by
  unfold gcV
  split
  · exact ⟨_, _, _, _, rfl⟩
  · split <;> exact ⟨_, _, _, _, rfl⟩
set_option maxRecDepth 100000 in
set_option maxHeartbeats 4000000 in
theorem eqQueue_ok (p : QV) (w : World) : Calls Try.prog 29 #[qA p, qA p] w fun e w' => e = .returned (.bool true) ∧ Below w.heap.size w w' := by
  obtain ⟨sz, d, a, us, tk, gv⟩ := p
  unfold qA
  go_enter Try.func29, Try.ntmps29
  go_wp2_with fail
  go_ret
  exact ⟨rfl, (bx1 _ _).alloc (by simp) _⟩
set_option maxRecDepth 100000 in
set_option maxHeartbeats 4000000 in
theorem eqGivenChain_ok (c : Int) (m : ByteArray) (p : QV) (sg : Bool) (w : World) : Calls Try.prog 9 #[gcA c m p sg, gcA c m p sg] w fun e w' => e = .returned (.bool true) ∧ Below w.heap.size w w' := by
  have HE : Hid _ := fun u => eqQueue_ok p u
  obtain ⟨sz, d, a, us, tk, gv⟩ := p
  unfold gcA
  unfold qA at HE
  simp only
  have hw : (sg != sg) = false := by cases sg <;> rfl
  have HB : Hid (∀ u, Below ((w.alloc (.cells #[.int .i64 c, .string m, .int .i64 sz, .int .i64 d, .int .i64 a, .int .i64 us, .int .i64 tk, .int .i64 gv, .bool sg] 26)).alloc (.cells #[.int .i64 c, .string m, .int .i64 sz, .int .i64 d, .int .i64 a, .int .i64 us, .int .i64 tk, .int .i64 gv, .bool sg] 26)).heap.size ((w.alloc (.cells #[.int .i64 c, .string m, .int .i64 sz, .int .i64 d, .int .i64 a, .int .i64 us, .int .i64 tk, .int .i64 gv, .bool sg] 26)).alloc (.cells #[.int .i64 c, .string m, .int .i64 sz, .int .i64 d, .int .i64 a, .int .i64 us, .int .i64 tk, .int .i64 gv, .bool sg] 26)) u → TwoBx w u #[.int .i64 c, .string m, .int .i64 sz, .int .i64 d, .int .i64 a, .int .i64 us, .int .i64 tk, .int .i64 gv, .bool sg] 26 #[.int .i64 c, .string m, .int .i64 sz, .int .i64 d, .int .i64 a, .int .i64 us, .int .i64 tk, .int .i64 gv, .bool sg] 26) := fun u h => TwoBx.of _ _ _ _ _ h
  go_enter Try.func9, Try.ntmps9
  go_wp2_with fail
  refine Calls.mono (HE.out _) ?_
  rintro e u1 ⟨rfl, hu1⟩
  have HX : Hid _ := HB.out u1 hu1
  clear hu1 HB
  have c8 := HX.out.c1 8 _ rfl
  have d8 := HX.out.c2 8 _ rfl
  go_wp2_with fail
  go_ret
  exact ⟨rfl, HX.out.bel⟩
set_option maxRecDepth 100000 in
set_option maxHeartbeats 4000000 in
theorem walkGC (s : ByteArray) (z : QV) (hd sz : Int) (w : World) : Calls Try.prog 3 #[.string s, qA z, .int .i64 hd, .int .i64 sz] w fun e w' => e = .returned (.bool true) ∧ Below w.heap.size w w' := by
  have HL0 : Hid (LBx w (w.alloc (.cells (qC z) 23)) w.heap.size (qC z) 23) := LBx.new w _ _
  by_cases h1 : s.size ≤ 1048576
  · have hdc : decide (1048576 < (s.size : Int)) = false := by simp; omega
    have HTO : Hid _ := fun u => toQueue_any z u
    have HSS : Hid _ := fun u => specGC_any s z hd sz u
    have HSI : Hid _ := fun u => implGC_any s z hd sz u h1
    obtain ⟨c, m, q, g, hv⟩ := gcV_is s z hd sz
    rw [hv] at HSS HSI
    have HEQ : Hid _ := fun u => eqGivenChain_ok c m q g u
    obtain ⟨S, D, A, U, T, G⟩ := z
    obtain ⟨qs, qd, qa, qu, qt, qg⟩ := q
    unfold qA at HTO HSS HSI ⊢
    unfold qC at HL0
    unfold gcA at HSS HSI HEQ
    clear h1 hv
    go_enter Try.func3, Try.ntmps3
    go_wp2_with fail
    refine Calls.mono (HTO.out _) ?_
    generalize (w.alloc (.cells #[.int .i64 S, .int .i64 D, .int .i64 A, .int .i64 U, .int .i64 T, .int .i64 G] 23)) = u0 at *
    rintro e u1 ⟨rfl, hb⟩
    have HL1 : Hid _ := HL0.out.step hb
    clear hb HL0
    go_wp2_with fail
    refine Calls.mono (HSS.out _) ?_
    rintro e u2 ⟨rfl, hb⟩
    have HL2 : Hid _ := HL1.out.step hb
    clear hb HL1
    have HL2b : Hid _ := HL2.out.step (bx1 u2 (.cells #[.int .i64 c, .string m, .int .i64 qs, .int .i64 qd, .int .i64 qa, .int .i64 qu, .int .i64 qt, .int .i64 qg, .bool g] 26))
    have HW2 : Hid (LBx u2 _ _ _ _) := LBx.new u2 #[.int .i64 c, .string m, .int .i64 qs, .int .i64 qd, .int .i64 qa, .int .i64 qu, .int .i64 qt, .int .i64 qg, .bool g] 26
    have c0 := HL2.out.cel 0 _ rfl
    have c1 := HL2.out.cel 1 _ rfl
    have c2 := HL2.out.cel 2 _ rfl
    have c3 := HL2.out.cel 3 _ rfl
    have c4 := HL2.out.cel 4 _ rfl
    have c5 := HL2.out.cel 5 _ rfl
    have lt := HL2.out.lt
    go_wp2_with fail
    refine Calls.mono (HTO.out _) ?_
    generalize (u2.alloc (.cells #[.int .i64 c, .string m, .int .i64 qs, .int .i64 qd, .int .i64 qa, .int .i64 qu, .int .i64 qt, .int .i64 qg, .bool g] 26)) = u2b at *
    generalize u2.heap.size = B2 at *
    rintro e u3 ⟨rfl, hb⟩
    have HL3 : Hid _ := HL2b.out.step hb
    have HW3 : Hid _ := HW2.out.step hb
    clear hb HL2 HL2b HW2 c0 c1 c2 c3 c4 c5 lt
    go_wp2_with fail
    refine Calls.mono (HSI.out _) ?_
    rintro e u4 ⟨rfl, hb⟩
    have HL4 : Hid _ := HL3.out.step hb
    have HW4 : Hid _ := HW3.out.step hb
    clear hb HL3 HW3
    have c0 := HW4.out.cel 0 _ rfl
    have c1 := HW4.out.cel 1 _ rfl
    have c2 := HW4.out.cel 2 _ rfl
    have c3 := HW4.out.cel 3 _ rfl
    have c4 := HW4.out.cel 4 _ rfl
    have c5 := HW4.out.cel 5 _ rfl
    have c6 := HW4.out.cel 6 _ rfl
    have c7 := HW4.out.cel 7 _ rfl
    have c8 := HW4.out.cel 8 _ rfl
    have lt := HW4.out.lt
    have HB4 : Hid (Below w.heap.size w (u4.alloc (.cells #[.int .i64 c, .string m, .int .i64 qs, .int .i64 qd, .int .i64 qa, .int .i64 qu, .int .i64 qt, .int .i64 qg, .bool g] 26))) := HL4.out.bel.alloc HL4.out.bel.size _
    go_wp2_with fail
    refine Calls.mono (HEQ.out _) ?_
    rintro e u5 ⟨rfl, hb⟩
    have HB5 : Hid (Below w.heap.size w u5) := HB4.out.trans (hb.mono HB4.out.size)
    clear hb HB4
    go_wp2_with fail
    go_ret
    exact ⟨rfl, HB5.out⟩
  · have hdc : decide (1048576 < (s.size : Int)) = true := by simp; omega
    unfold qA
    unfold qC at HL0
    clear h1
    go_enter Try.func3, Try.ntmps3
    go_wp2_with fail
    go_ret
    exact ⟨rfl, HL0.out.bel⟩
end Go.Proofs.Ytggciigjhlbhhaa
