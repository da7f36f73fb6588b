import Derived.Test.YthhbfghbpapklabRv7
import Derived.Test.YthhbfghbpapklabQu4
namespace Go.Proofs.Ythhbfghbpapklab
open Go.ChangeShapes Go.WideShapes Go.ChangeAt Go.RowKit

set_option maxRecDepth 100000
theorem specRV_any (s f : ByteArray) (q : QV) (hs : s.size ≤ 1048576) : AnsV 9 s q f (rfT s q f) := by
  unfold rfT
  by_cases h2 : 65536 < f.size
  · have e : ∀ (a b : SvR), (if 65536 < s.size then svC 2 else if 65536 < f.size then a else b) = if 65536 < s.size then svC 2 else a := fun a b => by rw [if_pos h2]
    rw [e, ite_self]
    exact specRV_long1 s f q hs h2
  by_cases h1 : 65536 < s.size
  · rw [if_pos h1]
    exact specRV_long2 s f q hs h2 h1
  rw [if_neg h1, if_neg h2]
  cases hp : qOk s q
  · rw [if_neg (by simp)]
    exact specRV_form1 s f q hs h2 h1 hp
  rw [if_pos rfl]
  by_cases h3 : 1500 < f.size
  · rw [if_pos h3]
    exact specRV_form2 s f q hs h2 h1 hp h3
  rw [if_neg h3]
  obtain ⟨S, D, A, U, T, G, rfl⟩ := qn hp
  exact specRV_good s f S D A U T G hp (by omega)
set_option maxRecDepth 100000 in
set_option maxHeartbeats 4000000 in
theorem eqQueue_ok (p : QV) (w : World) : Calls Try.prog 50 #[qA p, qA p] w fun e w' => e = .returned (.bool true) ∧ Below w.heap.size w w' := by
  obtain ⟨sz, d, a, us, tk, gv⟩ := p
  unfold qA
  go_enter Try.func50, Try.ntmps50
  go_wp2_with fail
  go_ret
  exact ⟨rfl, (bx1 _ _).alloc (by simp) _⟩
set_option maxHeartbeats 4000000 in
theorem eqServed_ok (c : Int) (m : ByteArray) (p : QV) (cn : Int) (sg : Bool) (w : World) : Calls Try.prog 12 #[svA c m p cn sg, svA c m p cn sg] w fun e w' => e = .returned (.bool true) ∧ Below w.heap.size w w' := by
  have HE : Hid _ := fun u => eqQueue_ok p u
  obtain ⟨sz, d, a, us, tk, gv⟩ := p
  unfold svA
  unfold qA at HE
  simp only
  have hw : (sg != sg) = false := by cases sg <;> rfl
  have HB : Hid (∀ u, Below ((w.alloc (.cells #[.int .i64 c, .string m, .int .i64 sz, .int .i64 d, .int .i64 a, .int .i64 us, .int .i64 tk, .int .i64 gv, .string ⟨#[]⟩, .int .i64 cn, .bool sg] 26)).alloc (.cells #[.int .i64 c, .string m, .int .i64 sz, .int .i64 d, .int .i64 a, .int .i64 us, .int .i64 tk, .int .i64 gv, .string ⟨#[]⟩, .int .i64 cn, .bool sg] 26)).heap.size ((w.alloc (.cells #[.int .i64 c, .string m, .int .i64 sz, .int .i64 d, .int .i64 a, .int .i64 us, .int .i64 tk, .int .i64 gv, .string ⟨#[]⟩, .int .i64 cn, .bool sg] 26)).alloc (.cells #[.int .i64 c, .string m, .int .i64 sz, .int .i64 d, .int .i64 a, .int .i64 us, .int .i64 tk, .int .i64 gv, .string ⟨#[]⟩, .int .i64 cn, .bool sg] 26)) u → TwoBx w u #[.int .i64 c, .string m, .int .i64 sz, .int .i64 d, .int .i64 a, .int .i64 us, .int .i64 tk, .int .i64 gv, .string ⟨#[]⟩, .int .i64 cn, .bool sg] 26 #[.int .i64 c, .string m, .int .i64 sz, .int .i64 d, .int .i64 a, .int .i64 us, .int .i64 tk, .int .i64 gv, .string ⟨#[]⟩, .int .i64 cn, .bool sg] 26) := fun u h => TwoBx.of _ _ _ _ _ h
  go_enter Try.func12, Try.ntmps12
  go_wp2_with fail
  refine Calls.mono (HE.out _) ?_
  rintro e u1 ⟨rfl, hu1⟩
  have HX : Hid _ := HB.out u1 hu1
  clear hu1 HB
  have c8 := HX.out.c1 8 _ rfl
  have d8 := HX.out.c2 8 _ rfl
  have c9 := HX.out.c1 9 _ rfl
  have d9 := HX.out.c2 9 _ rfl
  have c10 := HX.out.c1 10 _ rfl
  have d10 := HX.out.c2 10 _ rfl
  go_wp2_with fail
  go_ret
  exact ⟨rfl, HX.out.bel⟩
set_option maxRecDepth 100000 in
set_option maxHeartbeats 4000000 in
theorem walkRV (s f : ByteArray) (z : QV) (w : World) : Calls Try.prog 3 #[.string s, qA z, .string f] w fun e w' => e = .returned (.bool true) ∧ Below w.heap.size w w' := by
  have HL0 : Hid (LBx w (w.alloc (.cells (qC z) 23)) w.heap.size (qC z) 23) := LBx.new w _ _
  by_cases h1 : s.size ≤ 1048576
  · have hdc : decide (1048576 < (s.size : Int)) = false := by simp; omega
    by_cases h2 : ¬ f.size ≤ 1048576
    · have hdf : decide (1048576 < (f.size : Int)) = true := by simp; omega
      unfold qA
      unfold qC at HL0
      clear h1 h2
      go_enter Try.func3, Try.ntmps3
      go_wp2_with fail
      go_ret
      exact ⟨rfl, HL0.out.bel⟩
    have h2 : f.size ≤ 1048576 := by omega
    have hdf : decide (1048576 < (f.size : Int)) = false := by simp; omega
    have HTO : Hid _ := fun u => toQueue_any z u
    have HSS : Hid _ := fun u => specRV_any s f z h1 u
    have HSI : Hid _ := fun u => implRV_any s f z h1 h2 u
    generalize rfT s z f = R at *
    obtain ⟨c, m, q, cn, g⟩ := R
    have HEQ : Hid _ := fun u => eqServed_ok c m q cn g u
    obtain ⟨S, D, A, U, T, G⟩ := z
    obtain ⟨qs, qd, qa, qu, qt, qg⟩ := q
    unfold qA at HTO HSS HSI ⊢
    unfold qC at HL0
    unfold svV at HSS HSI
    unfold svA at HSS HSI HEQ
    simp only at HSS HSI HEQ
    clear h1 h2
    go_enter Try.func3, Try.ntmps3
    go_wp2_with fail
    refine Calls.mono (HTO.out _) ?_
    generalize (w.alloc (.cells #[.int .i64 S, .int .i64 D, .int .i64 A, .int .i64 U, .int .i64 T, .int .i64 G] 23)) = u0 at *
    rintro e u1 ⟨rfl, hb⟩
    have HL1 : Hid _ := HL0.out.step hb
    clear hb HL0
    go_wp2_with fail
    refine Calls.mono (HSS.out _) ?_
    rintro e u2 ⟨rfl, hb⟩
    have HL2 : Hid _ := HL1.out.step hb
    clear hb HL1
    have HL2b : Hid _ := HL2.out.step (bx1 u2 (.cells #[.int .i64 c, .string m, .int .i64 qs, .int .i64 qd, .int .i64 qa, .int .i64 qu, .int .i64 qt, .int .i64 qg, .string ⟨#[]⟩, .int .i64 cn, .bool g] 26))
    have HW2 : Hid (LBx u2 _ _ _ _) := LBx.new u2 #[.int .i64 c, .string m, .int .i64 qs, .int .i64 qd, .int .i64 qa, .int .i64 qu, .int .i64 qt, .int .i64 qg, .string ⟨#[]⟩, .int .i64 cn, .bool g] 26
    have c0 := HL2.out.cel 0 _ rfl
    have c1 := HL2.out.cel 1 _ rfl
    have c2 := HL2.out.cel 2 _ rfl
    have c3 := HL2.out.cel 3 _ rfl
    have c4 := HL2.out.cel 4 _ rfl
    have c5 := HL2.out.cel 5 _ rfl
    have lt := HL2.out.lt
    go_wp2_with fail
    refine Calls.mono (HTO.out _) ?_
    generalize (u2.alloc (.cells #[.int .i64 c, .string m, .int .i64 qs, .int .i64 qd, .int .i64 qa, .int .i64 qu, .int .i64 qt, .int .i64 qg, .string ⟨#[]⟩, .int .i64 cn, .bool g] 26)) = u2b at *
    generalize u2.heap.size = B2 at *
    rintro e u3 ⟨rfl, hb⟩
    have HL3 : Hid _ := HL2b.out.step hb
    have HW3 : Hid _ := HW2.out.step hb
    clear hb HL2 HL2b HW2 c0 c1 c2 c3 c4 c5 lt
    go_wp2_with fail
    refine Calls.mono (HSI.out _) ?_
    rintro e u4 ⟨rfl, hb⟩
    have HL4 : Hid _ := HL3.out.step hb
    have HW4 : Hid _ := HW3.out.step hb
    clear hb HL3 HW3
    have c0 := HW4.out.cel 0 _ rfl
    have c1 := HW4.out.cel 1 _ rfl
    have c2 := HW4.out.cel 2 _ rfl
    have c3 := HW4.out.cel 3 _ rfl
    have c4 := HW4.out.cel 4 _ rfl
    have c5 := HW4.out.cel 5 _ rfl
    have c6 := HW4.out.cel 6 _ rfl
    have c7 := HW4.out.cel 7 _ rfl
    have c8 := HW4.out.cel 8 _ rfl
    have c9 := HW4.out.cel 9 _ rfl
    have c10 := HW4.out.cel 10 _ rfl
    have lt := HW4.out.lt
    have HB4 : Hid (Below w.heap.size w (u4.alloc (.cells #[.int .i64 c, .string m, .int .i64 qs, .int .i64 qd, .int .i64 qa, .int .i64 qu, .int .i64 qt, .int .i64 qg, .string ⟨#[]⟩, .int .i64 cn, .bool g] 26))) := HL4.out.bel.alloc HL4.out.bel.size _
    go_wp2_with fail
    refine Calls.mono (HEQ.out _) ?_
    rintro e u5 ⟨rfl, hb⟩
    have HB5 : Hid (Below w.heap.size w u5) := HB4.out.trans (hb.mono HB4.out.size)
    clear hb HB4
    go_wp2_with fail
    go_ret
    exact ⟨rfl, HB5.out⟩
  · have hdc : decide (1048576 < (s.size : Int)) = true := by simp; omega
    unfold qA
    unfold qC at HL0
    clear h1
    go_enter Try.func3, Try.ntmps3
    go_wp2_with fail
    go_ret
    exact ⟨rfl, HL0.out.bel⟩
end Go.Proofs.Ythhbfghbpapklab
