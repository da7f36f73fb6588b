import Derived.Test.YtfagohdmepnkkaaGp2
import Derived.Test.YtfagohdmepnkkaaGp3
import Derived.Test.YtfagohdmepnkkaaPk2
namespace Go.Proofs.Ytfagohdmepnkkaa
open Go.ChangeShapes Go.WideShapes Go.ChangeAt Go.RowKit

theorem implGive_any (s : ByteArray) (p : PV) (id size count : Int) (w : World) (hs : s.size ≤ 1048576) :
    Calls Try.prog 25 #[.string s, pA p, .int .i64 id, .int .i64 size, .int .i64 count] w fun e w' => e = .returned (gpV s p id size count) ∧ Below w.heap.size w w' := by
  by_cases h : 65536 < s.size
  · rw [gpV_2 h]
    exact implGive_code s p id size count 2 w hs (by unfold pkC; rw [if_pos h]) (by decide)
  cases hp : pOk s p
  · rw [gpV_1 h (by rw [hp]; rfl)]
    exact implGive_code s p id size count 1 w hs (by unfold pkC; rw [if_neg h, pF_no hp]) (by decide)
  cases hn : gpB p id size count
  · rw [gpV_1 h (by rw [hn, Bool.and_false])]
    exact implGive_form s p id size count w hs (by unfold pkC; rw [if_neg h, pF_ok hp]) hn
  · rw [gpV_0 h (by rw [hp, hn]; rfl)]
    obtain ⟨sz, rg, ps, wr⟩ := p
    obtain ⟨_, b1, _, b3, _, _, b6, _⟩ := pOk_b hp
    simp only at b1 b3 b6
    obtain ⟨S, rfl⟩ := Int.eq_ofNat_of_zero_le (show 0 ≤ sz by omega)
    obtain ⟨R, rfl⟩ := Int.eq_ofNat_of_zero_le b6
    obtain ⟨P, rfl⟩ := Int.eq_ofNat_of_zero_le b3
    have e : ((R : Int) + (P : Int) * 16).toNat = R + P * 16 := by omega
    simp only [e]
    exact implGive_good s S R P wr id size count w hp hn
theorem specGive_any (s : ByteArray) (p : PV) (id size count : Int) (w : World) :
    Calls Try.prog 23 #[.string s, pA p, .int .i64 id, .int .i64 size, .int .i64 count] w fun e w' => e = .returned (gpV s p id size count) ∧ Below w.heap.size w w' := by
  by_cases h : 65536 < s.size
  · rw [gpV_2 h]
    exact specGive_long s p id size count w h
  cases hq : (pOk s p && gpB p id size count)
  · rw [gpV_1 h hq]
    exact specGive_form s p id size count w h hq
  · rw [gpV_0 h hq]
    rw [Bool.and_eq_true] at hq
    obtain ⟨hp, hn⟩ := hq
    obtain ⟨sz, rg, ps, wr⟩ := p
    obtain ⟨_, b1, _, b3, _, _, b6, _⟩ := pOk_b hp
    simp only at b1 b3 b6
    obtain ⟨S, rfl⟩ := Int.eq_ofNat_of_zero_le (show 0 ≤ sz by omega)
    obtain ⟨R, rfl⟩ := Int.eq_ofNat_of_zero_le b6
    obtain ⟨P, rfl⟩ := Int.eq_ofNat_of_zero_le b3
    have e : ((R : Int) + (P : Int) * 16).toNat = R + P * 16 := by omega
    simp only [e]
    cases wr
    · exact specGive_goodF s S R P id size count w hp hn
    · exact specGive_goodT s S R P id size count w hp hn
theorem gpV_is (s : ByteArray) (p : PV) (id size count : Int) : ∃ c m q, gpV s p id size count = gpA c m q := by
  unfold gpV
  split
  · exact ⟨_, _, _, rfl⟩
  · split <;> exact ⟨_, _, _, rfl⟩
set_option maxRecDepth 100000 in
set_option maxHeartbeats 4000000 in
theorem eqPacked_ok (p : PV) (w : World) : Calls Try.prog 71 #[pA p, pA p] w fun e w' => e = .returned (.bool true) ∧ Below w.heap.size w w' := by
  obtain ⟨sz, rg, ps, wr⟩ := p
  unfold pA
  have hw : (wr != wr) = false := by cases wr <;> rfl
  go_enter Try.func71, Try.ntmps71
  go_wp2_with fail
  go_ret
  exact ⟨rfl, (bx1 _ _).alloc (by simp) _⟩
set_option maxRecDepth 100000 in
set_option maxHeartbeats 4000000 in
theorem eqGivenPacked_ok (c : Int) (m : ByteArray) (p : PV) (w : World) : Calls Try.prog 26 #[gpA c m p, gpA c m p] w fun e w' => e = .returned (.bool true) ∧ Below w.heap.size w w' := by
  have HE : Hid _ := fun u => eqPacked_ok p u
  obtain ⟨sz, rg, ps, wr⟩ := p
  unfold gpA
  unfold pA at HE
  have HB : Hid (Below w.heap.size w ((w.alloc (.cells #[.int .i64 c, .string m, .int .i64 sz, .int .i64 rg, .int .i64 ps, .bool wr] 47)).alloc (.cells #[.int .i64 c, .string m, .int .i64 sz, .int .i64 rg, .int .i64 ps, .bool wr] 47))) := (bx1 _ _).alloc (by simp) _
  go_enter Try.func26, Try.ntmps26
  go_wp2_with fail
  refine Calls.mono (HE.out _) ?_
  rintro e u1 ⟨rfl, hu1⟩
  have HB1 : Hid (Below w.heap.size w u1) := HB.out.trans (hu1.mono HB.out.size)
  clear hu1
  go_wp2_with fail
  go_ret
  exact ⟨rfl, HB1.out⟩
set_option maxRecDepth 100000 in
set_option maxHeartbeats 4000000 in
theorem walkGP (s : ByteArray) (z : PV) (i sz ct : Int) (w : World) : Calls Try.prog 5 #[.string s, pA z, .int .i64 i, .int .i64 sz, .int .i64 ct] w fun e w' => e = .returned (.bool true) ∧ Below w.heap.size w w' := by
  have HL0 : Hid (LBx w (w.alloc (.cells (pC z) 44)) w.heap.size (pC z) 44) := LBx.new w _ _
  by_cases h1 : s.size ≤ 1048576
  · have hd : decide (1048576 < (s.size : Int)) = false := by simp; omega
    have HTO : Hid _ := fun u => toPacked_any z u
    have HSS : Hid _ := fun u => specGive_any s z i sz ct u
    have HSI : Hid _ := fun u => implGive_any s z i sz ct u h1
    obtain ⟨c, m, q, hv⟩ := gpV_is s z i sz ct
    rw [hv] at HSS HSI
    have HEQ : Hid _ := fun u => eqGivenPacked_ok c m q u
    obtain ⟨S, R, P, W⟩ := z
    obtain ⟨qs, qr, qp, qw⟩ := q
    unfold pA at HTO HSS HSI ⊢
    unfold pC at HL0
    unfold gpA at HSS HSI HEQ
    clear h1 hv
    go_enter Try.func5, Try.ntmps5
    go_wp2_with fail
    refine Calls.mono (HTO.out _) ?_
    generalize (w.alloc (.cells #[.int .i64 S, .int .i64 R, .int .i64 P, .bool W] 44)) = u0 at *
    rintro e u1 ⟨rfl, hb⟩
    have HL1 : Hid _ := HL0.out.step hb
    clear hb HL0
    go_wp2_with fail
    refine Calls.mono (HSS.out _) ?_
    rintro e u2 ⟨rfl, hb⟩
    have HL2 : Hid _ := HL1.out.step hb
    clear hb HL1
    have HL2b : Hid _ := HL2.out.step (bx1 u2 (.cells #[.int .i64 c, .string m, .int .i64 qs, .int .i64 qr, .int .i64 qp, .bool qw] 47))
    have HW2 : Hid (LBx u2 _ _ _ _) := LBx.new u2 #[.int .i64 c, .string m, .int .i64 qs, .int .i64 qr, .int .i64 qp, .bool qw] 47
    have c0 := HL2.out.cel 0 _ rfl
    have c1 := HL2.out.cel 1 _ rfl
    have c2 := HL2.out.cel 2 _ rfl
    have c3 := HL2.out.cel 3 _ rfl
    have lt := HL2.out.lt
    go_wp2_with fail
    refine Calls.mono (HTO.out _) ?_
    generalize (u2.alloc (.cells #[.int .i64 c, .string m, .int .i64 qs, .int .i64 qr, .int .i64 qp, .bool qw] 47)) = u2b at *
    generalize u2.heap.size = B2 at *
    rintro e u3 ⟨rfl, hb⟩
    have HL3 : Hid _ := HL2b.out.step hb
    have HW3 : Hid _ := HW2.out.step hb
    clear hb HL2 HL2b HW2 c0 c1 c2 c3 lt
    go_wp2_with fail
    refine Calls.mono (HSI.out _) ?_
    rintro e u4 ⟨rfl, hb⟩
    have HL4 : Hid _ := HL3.out.step hb
    have HW4 : Hid _ := HW3.out.step hb
    clear hb HL3 HW3
    have c0 := HW4.out.cel 0 _ rfl
    have c1 := HW4.out.cel 1 _ rfl
    have c2 := HW4.out.cel 2 _ rfl
    have c3 := HW4.out.cel 3 _ rfl
    have c4 := HW4.out.cel 4 _ rfl
    have c5 := HW4.out.cel 5 _ rfl
    have lt := HW4.out.lt
    have HB4 : Hid (Below w.heap.size w (u4.alloc (.cells #[.int .i64 c, .string m, .int .i64 qs, .int .i64 qr, .int .i64 qp, .bool qw] 47))) := HL4.out.bel.alloc HL4.out.bel.size _
    go_wp2_with fail
    refine Calls.mono (HEQ.out _) ?_
    rintro e u5 ⟨rfl, hb⟩
    have HB5 : Hid (Below w.heap.size w u5) := HB4.out.trans (hb.mono HB4.out.size)
    clear hb HB4
    go_wp2_with fail
    go_ret
    exact ⟨rfl, HB5.out⟩
  · have hd : decide (1048576 < (s.size : Int)) = true := by simp; omega
    unfold pA
    unfold pC at HL0
    clear h1
    go_enter Try.func5, Try.ntmps5
    go_wp2_with fail
    go_ret
    exact ⟨rfl, HL0.out.bel⟩
end Go.Proofs.Ytfagohdmepnkkaa
