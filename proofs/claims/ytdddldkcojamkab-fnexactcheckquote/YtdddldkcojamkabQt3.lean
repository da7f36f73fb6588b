import Derived.Test.YtdddldkcojamkabQt2
namespace Go.Proofs.Ytdddldkcojamkab
open Go.ChangeShapes Go.WideShapes Go.ChangeAt Go.RowKit

theorem open_rowI {H : Type} {enc : TypeId × Value → H} {W : World} {base : Nat} {v : Value} {d : DataW H} {p : List MemPlace} (hv : Value.okWide Try.prog W .any base 24 v)
    (h : DataW.Trod enc Try.prog W 0 (fun _ => true) true 24 v d p) : ∃ zs : List Int, Irow W v zs ∧ zs.length ≤ maxLen := by
  obtain ⟨a, len, cap, rfl⟩ := okWide_slice Try.underlying24 hv
  obtain ⟨fuel, hf⟩ := h
  exact open_iS hf
set_option maxRecDepth 100000 in
set_option maxHeartbeats 4000000 in
theorem eqQuote_ok (c m : Int) (w : World) : Calls Try.prog 14 #[.agg #[.int .i64 c, .int .i64 m], .agg #[.int .i64 c, .int .i64 m]] w fun e w' => e = .returned (.bool true) ∧ Below w.heap.size w w' := by
  have e1 : (c != c) = false := by simp
  have e2 : (m != m) = false := by simp
  go_enter Try.func14, Try.ntmps14
  go_wp2
  go_ret
  exact ⟨rfl, ((Below.refl _ _).alloc (Nat.le_refl _) _).alloc (by simp) _⟩
set_option maxRecDepth 100000 in
set_option maxHeartbeats 4000000 in
theorem walkQu {w : World} {v : Value} {zs : List Int} (h : Irow w v zs) (hl : zs.length ≤ maxLen) (s : Int) (nn : ByteArray) :
    Calls Try.prog 4 #[.int .i64 s, .string nn, v] w fun e w' => e = .returned (.bool true) ∧ Below w.heap.size w w' := by
  have HR : Hid (Irow w v zs) := h
  obtain ⟨ao, cap, rfl⟩ := h.sl
  clear h
  have hl2 : zs.length ≤ 9223372036854775807 := by unfold maxLen at hl; omega
  clear hl
  by_cases h1 : nn.size ≤ 1048576
  · by_cases h2 : zs.length ≤ 1048576
    · have HTO : Hid (∀ u, Below w.heap.size w u → Calls Try.prog 12 #[.slice ao zs.length cap] u fun e w' => ∃ x, e = .returned x ∧ w'.ownsRow u.heap.size 2 1 x zs.length (iR zs) ∧ Below u.heap.size u w') := fun u hu => toIS_any (HR.out.below hu) h2
      have HSP : Hid (∀ u x, Irow u x zs → Calls Try.prog 11 #[.int .i64 s, .string nn, x] u fun e w' => e = .returned (.agg #[.int .i64 (qR s nn zs), .int .i64 (qZ s nn zs)]) ∧ Below u.heap.size u w') := fun u x hx => specQuote_any hx h2 s nn
      have HIM : Hid (∀ u x, Irow u x zs → Calls Try.prog 13 #[.int .i64 s, .string nn, x] u fun e w' => e = .returned (.agg #[.int .i64 (qR s nn zs), .int .i64 (qZ s nn zs)]) ∧ Below u.heap.size u w') := fun u x hx => implQuote_any hx h2 s nn
      have HEQ : Hid (∀ u x y, Irow u x zs → Irow u y zs → Calls Try.prog 15 #[x, y] u fun e w' => e = .returned (.bool true) ∧ Below u.heap.size u w') := fun u x y hx hy => eqIS_ok hx hy h2
      generalize qR s nn zs = C at HSP HIM
      generalize qZ s nn zs = M at HSP HIM
      go_enter Try.func4, Try.ntmps4
      go_wp2_with fail
      refine Calls.mono (HTO.out _ (Below.refl _ _)) ?_
      rintro e u1 ⟨x1, rfl, ho1, hb1⟩
      have HX1 : Hid (Irow u1 x1 zs) := Irow.of ho1
      have HB1 : Hid (Below w.heap.size w u1) := hb1
      obtain ⟨a1, c1, rfl⟩ := i_sl ho1
      clear ho1 hb1
      go_wp2_with fail
      refine Calls.mono (HSP.out _ _ HX1.out) ?_
      rintro e u2 ⟨rfl, hb2⟩
      have HB2 : Hid (Below w.heap.size w u2) := HB1.out.trans (hb2.mono HB1.out.size)
      clear hb2 HX1 HB1
      have HL3 : Hid (LBx w (u2.alloc (.cells #[.int .i64 C, .int .i64 M] 26)) u2.heap.size #[.int .i64 C, .int .i64 M] 26) := ⟨HB2.out.alloc HB2.out.size _, heap_new _ _⟩
      go_wp2_with fail
      generalize (u2.alloc (.cells #[.int .i64 C, .int .i64 M] 26)) = u3 at *
      generalize u2.heap.size = b9 at *
      refine Calls.mono (HTO.out _ HL3.out.bel) ?_
      rintro e u4 ⟨x4, rfl, ho4, hb4⟩
      have HX4 : Hid (Irow u4 x4 zs) := Irow.of ho4
      have HL4 : Hid (LBx w u4 b9 _ _) := HL3.out.step hb4
      obtain ⟨a4, c4, rfl⟩ := i_sl ho4
      clear ho4 hb4 HL3 HB2
      go_wp2_with fail
      refine Calls.mono (HIM.out _ _ HX4.out) ?_
      rintro e u5 ⟨rfl, hb5⟩
      have HX5 : Hid (Irow u5 (.slice a4 zs.length c4) zs) := HX4.out.below hb5
      have HL5 : Hid (LBx w u5 b9 _ _) := HL4.out.step hb5
      clear hb5 HX4 HL4
      have HX6 : Hid (Irow (u5.alloc (.cells #[.int .i64 C, .int .i64 M] 26)) (.slice a4 zs.length c4) zs) := HX5.out.below (bx1 _ _)
      have HL6 : Hid (LBx w (u5.alloc (.cells #[.int .i64 C, .int .i64 M] 26)) b9 _ _) := HL5.out.step (bx1 _ _)
      have r0 := HL5.out.cel 0 _ rfl
      have r1 := HL5.out.cel 1 _ rfl
      have rlt := HL5.out.lt
      go_wp2_with fail
      refine Calls.mono (eqQuote_ok _ _ _) ?_
      rintro e u7 ⟨rfl, hb7⟩
      have HX7 : Hid (Irow u7 (.slice a4 zs.length c4) zs) := HX6.out.below hb7
      have HL7 : Hid (LBx w u7 b9 _ _) := HL6.out.step hb7
      clear hb7 HX5 HX6 HL5 HL6 r0 r1 rlt
      go_wp2_with fail
      refine Calls.mono (HTO.out _ HL7.out.bel) ?_
      rintro e u8 ⟨x8, rfl, ho8, hb8⟩
      have HX8 : Hid (Irow u8 x8 zs) := Irow.of ho8
      have HX9 : Hid (Irow u8 (.slice a4 zs.length c4) zs) := HX7.out.below hb8
      have HL8 : Hid (LBx w u8 b9 _ _) := HL7.out.step hb8
      obtain ⟨a8, c8, rfl⟩ := i_sl ho8
      clear ho8 hb8 HX7 HL7
      go_wp2_with fail
      refine Calls.mono (HEQ.out _ _ _ HX9.out HX8.out) ?_
      rintro e u9 ⟨rfl, hb9⟩
      have HL9 : Hid (LBx w u9 b9 _ _) := HL8.out.step hb9
      clear hb9
      go_wp2
      go_ret
      exact ⟨rfl, HL9.out.bel⟩
    · go_enter Try.func4, Try.ntmps4
      go_wp2_with fail
      go_ret
      exact ⟨rfl, Below.refl _ _⟩
  · go_enter Try.func4, Try.ntmps4
    go_wp2_with fail
    go_ret
    exact ⟨rfl, Below.refl _ _⟩
end Go.Proofs.Ytdddldkcojamkab
