import Derived.Test.YtfagohdmepnkkaaDr2
namespace Go.Proofs.Ytfagohdmepnkkaa
open Go.ChangeShapes Go.WideShapes Go.ChangeAt Go.RowKit

structure VaR (B0 B : Nat) (w : World) (a : Option Addr) (len cap : Nat) (b0 b1 b2 b3 b4 b5 b6 b7 b8 b9 b10 : Bool) (v4 v5 v6 v7 v8 v9 v10 v11 v12 v13 v3 : Value) (u : World) : Prop where
  lt : B0 < B
  le : B ≤ w.heap.size
  src : SrcOk u B0 a len cap
  gr : w.grownBy u (some B0)
  c0 : b0 = true → KLit B [0, 1, 2, 31, 32, 33, 64, 1023, 5, 96] v4 u
  c1 : b1 = true → KSrc B0 v5
  c2 : b2 = true → KNum 0 9 v6
  c3 : b3 = true → KPtr B [0, 1, 2, 31, 32, 33, 64, 1023, 5, 96] v7 u
  c4 : b4 = true → KNum 0 1023 v8
  c5 : b5 = true → KNum 0 261888 v9
  c6 : b6 = true → KSrc B0 v10
  c7 : b7 = true → KNum 0 63 v11
  c8 : b8 = true → KNum 0 252 v12
  c9 : b9 = true → KNum 0 262140 v13
  c10 : b10 = true → KNum 0 262140 v3
set_option maxRecDepth 100000 in
set_option maxHeartbeats 4000000 in
theorem src_va (B0 : Nat) (a : Option Addr) (len cap : Nat) (w : World) (h : SrcOk w B0 a len cap) :
    Calls Try.prog 76 #[.pointer (some ⟨B0, 0, none⟩)] w fun e w' => ∃ y : Int, e = .returned (.int .i64 y) ∧ -1 ≤ y ∧ y ≤ 262144 ∧ SrcOk w' B0 a len cap ∧ w.grownBy w' (some B0) := by
  have hlt := h.lt
  obtain ⟨B, hB⟩ : ∃ B, B = w.heap.size := ⟨_, rfl⟩
  have HS : Hid (SrcOk w.drew B0 a len cap) := h.bel (Below.refl _ _).drew
  clear h
  go_enter Try.func76, Try.ntmps76
  go_wp2_with fail
  refine wp_region_any (by kernel_rfl) ?_
  refine wpAny_inv (fun L a9 u => ∃ (b0 b1 b2 b3 b4 b5 b6 b7 b8 b9 b10 : Bool) (v4 v5 v6 v7 v8 v9 v10 v11 v12 v13 v3 : Value), L = #[b0, b1, b2, b3, b4, b5, b6, b7, b8, b9, b10] ∧ a9 = { tmps := #[.pointer (some ⟨B0, 0, none⟩), undef, .int .i64 0, v3, v4, v5, v6, v7, v8, v9, v10, v11, v12, v13, undef, undef, undef, undef, undef, undef, undef, undef], defers := [] } ∧ VaR B0 B w a len cap b0 b1 b2 b3 b4 b5 b6 b7 b8 b9 b10 v4 v5 v6 v7 v8 v9 v10 v11 v12 v13 v3 u) ?hs ?hd _ _ _ _ (by decide) ?st
  case st => exact ⟨false, false, false, false, false, false, false, false, false, false, false, undef, undef, undef, undef, undef, undef, undef, undef, undef, undef, undef, rfl, rfl, ⟨by omega, by omega, HS.out, ⟨rfl, rfl, rfl, Nat.le_refl _, fun _ _ _ => rfl⟩, (fun e => by cases e), (fun e => by cases e), (fun e => by cases e), (fun e => by cases e), (fun e => by cases e), (fun e => by cases e), (fun e => by cases e), (fun e => by cases e), (fun e => by cases e), (fun e => by cases e), (fun e => by cases e)⟩⟩
  case hd =>
    rintro L a9 u ⟨b0, b1, b2, b3, b4, b5, b6, b7, b8, b9, b10, v4, v5, v6, v7, v8, v9, v10, v11, v12, v13, v3, rfl, rfl, hI⟩ hr
    have hall := fun he hL => all_up (md := _) he hL hr
    have hall2 := hall (by kernel_rfl) rfl
    obtain rfl : b10 = true := hall2 10 (by decide)
    obtain ⟨y, rfl, y0, y1⟩ := hI.c10 rfl
    have HS1 : Hid (SrcOk u B0 a len cap) := hI.src
    have HG1 : Hid (w.grownBy u (some B0)) := hI.gr
    clear hI hr hall hall2
    go_wp2_with fail
    refine (src_one B0 a len cap 30 u HS1.out (by omega)).mono ?_
    rintro e u1 ⟨t, rfl, hs1, hg1⟩
    have HS2 : Hid (SrcOk u1 B0 a len cap) := hs1
    have HG2 : Hid (w.grownBy u1 (some B0)) := Lib.grownBy_trans HG1.out hg1
    clear hs1 hg1 HS1 HG1
    cases t
    · go_wp2
      go_ret
      exact ⟨y, rfl, by omega, by omega, HS2.out, HG2.out⟩
    · have HS3 : Hid (SrcOk (u1.alloc (.cells #[.int .i64 (-1), .int .i64 262144, .int .i64 262140] 2)) B0 a len cap) := HS2.out.far (World.grownBy_alloc _ _ none)
      have HG3 : Hid (w.grownBy (u1.alloc (.cells #[.int .i64 (-1), .int .i64 262144, .int .i64 262140] 2)) (some B0)) := Lib.grownBy_trans HG2.out gAl
      have HL3 : Hid ((u1.alloc (.cells #[.int .i64 (-1), .int .i64 262144, .int .i64 262140] 2)).heap[u1.heap.size]? = some (.cells ([-1, 262144, 262140].map (Value.int .i64)).toArray 2 (0, 0))) := (MapKept.heap_alloc u1 _).1
      have HP : Hid (B0 < u1.heap.size) := (show B0 < u1.heap.size by have := HG2.out.size; omega)
      clear HS2 HG2
      go_wp2_with fail
      generalize u1.alloc (.cells #[.int .i64 (-1), .int .i64 262144, .int .i64 262140] 2) = U at *
      refine (src_n B0 a len cap 3 U HS3.out (by omega)).mono ?_
      rintro e u2 ⟨q, rfl, q0, q1, hs2, hg2⟩
      obtain ⟨Q, rfl⟩ := Int.eq_ofNat_of_zero_le q0
      have hQ : Q < 3 := by omega
      have hQ1 : (Q : Int) < 3 := by omega
      have hl2 : u2.heap[u1.heap.size]? = some (.cells ([-1, 262144, 262140].map (Value.int .i64)).toArray 2 (0, 0)) := (hg2.block _ (Array.getElem?_eq_some_iff.1 HL3.out).1 (by have := HP.out; simp; omega)).trans HL3.out
      have hcl := lit_cell hl2 (show Q < [-1, 262144, 262140].length from hQ)
      have hbd := inB.at (lo := -1) (hi := 262144) (by unfold inB; decide) (show Q < [-1, 262144, 262140].length from hQ)
      generalize ([-1, 262144, 262140] : List Int)[Q] = z at hcl hbd
      have HE : Hid (SrcOk u2 B0 a len cap ∧ w.grownBy u2 (some B0)) := ⟨hs2, Lib.grownBy_trans HG3.out hg2⟩
      clear hs2 hg2 hl2 HL3 HS3 HG3 q1
      go_wp2
      go_ret
      exact ⟨z, rfl, hbd.1, hbd.2, HE.out.1, HE.out.2⟩
  case hs =>
    rintro L a9 u i ⟨b0, b1, b2, b3, b4, b5, b6, b7, b8, b9, b10, v4, v5, v6, v7, v8, v9, v10, v11, v12, v13, v3, rfl, rfl, hI⟩ hi
    obtain ⟨hf, o, ho, hall⟩ := mem_ready.1 hi
    have hi8 : i < 11 := (Array.getElem?_eq_some_iff.1 ho).1
    obtain rfl | rfl | rfl | rfl | rfl | rfl | rfl | rfl | rfl | rfl | rfl : i = 0 ∨ i = 1 ∨ i = 2 ∨ i = 3 ∨ i = 4 ∨ i = 5 ∨ i = 6 ∨ i = 7 ∨ i = 8 ∨ i = 9 ∨ i = 10 := by omega
    · obtain rfl : b0 = false := hf
      have HI : Hid _ := hI
      clear hI hall hi
      refine wpOp_step rfl (fun K hK => ?_)
      go_simp
      have h := HI.out
      exact hK _ _ ⟨true, b1, b2, b3, b4, b5, b6, b7, b8, b9, b10, _, v5, v6, v7, v8, v9, v10, v11, v12, v13, v3, rfl, rfl, ⟨h.lt, h.le, h.src.far (World.grownBy_alloc _ _ none), Lib.grownBy_trans h.gr gAl, fun _ => ⟨u.heap.size, rfl, Nat.le_trans h.le h.gr.size, (MapKept.heap_alloc u _).1⟩, h.c1, h.c2, fun e => (h.c3 e).grow h.lt gAl, h.c4, h.c5, h.c6, h.c7, h.c8, h.c9, h.c10⟩⟩
    · obtain rfl : b1 = false := hf
      have HI : Hid _ := hI
      clear hI hall hi
      refine wpOp_step rfl (fun K hK => ?_)
      go_simp
      have h := HI.out
      exact hK _ _ ⟨b0, true, b2, b3, b4, b5, b6, b7, b8, b9, b10, v4, _, v6, v7, v8, v9, v10, v11, v12, v13, v3, rfl, rfl, ⟨h.lt, h.le, h.src, h.gr, h.c0, fun _ => rfl, h.c2, h.c3, h.c4, h.c5, h.c6, h.c7, h.c8, h.c9, h.c10⟩⟩
    · obtain rfl : b2 = false := hf
      cases ho
      have hb1 : b1 = true := hall { on := 1, ground := .data } (by simp) rfl
      have e1 : v5 = .pointer (some ⟨B0, 0, none⟩) := hI.c1 hb1
      subst e1
      have HN : Hid _ := src_n B0 a len cap 10 u hI.src (by omega)
      have HI : Hid _ := hI
      clear hI hall hi
      refine wpOp_step rfl (fun K hK => ?_)
      go_simp
      refine Calls.mono HN.out ?_
      rintro e9 u5 ⟨r, rfl, r0, r1, hs5, hg5⟩
      have h := HI.out
      exact hK _ _ ⟨b0, b1, true, b3, b4, b5, b6, b7, b8, b9, b10, v4, _, _, v7, v8, v9, v10, v11, v12, v13, v3, rfl, rfl, ⟨h.lt, h.le, hs5, Lib.grownBy_trans h.gr hg5, fun e => (h.c0 e).grow h.lt hg5, h.c1, fun _ => ⟨r, rfl, r0, by omega⟩, fun e => (h.c3 e).grow h.lt hg5, h.c4, h.c5, h.c6, h.c7, h.c8, h.c9, h.c10⟩⟩
    · obtain rfl : b3 = false := hf
      cases ho
      have hb0 : b0 = true := hall { on := 0, ground := .data } (by simp) rfl
      have hb2 : b2 = true := hall { on := 2, ground := .data } (by simp) rfl
      obtain ⟨p0, e0, p0b, p0c⟩ := hI.c0 hb0
      replace e0 : v4 = .slice (some ⟨p0, 0, none⟩) 10 10 := e0
      subst e0
      obtain ⟨y2, rfl, y2b, y2c⟩ := hI.c2 hb2
      obtain ⟨R, rfl⟩ := Int.eq_ofNat_of_zero_le y2b
      have R1 : (R : Int) < 10 := by omega
      have R0 : R < 10 := by omega
      have HI : Hid _ := hI
      clear hI hall hi
      refine wpOp_step rfl (fun K hK => ?_)
      go_simp
      have h := HI.out
      exact hK _ _ ⟨b0, b1, b2, true, b4, b5, b6, b7, b8, b9, b10, _, v5, _, _, v8, v9, v10, v11, v12, v13, v3, rfl, rfl, ⟨h.lt, h.le, h.src, h.gr, h.c0, h.c1, h.c2, fun _ => ⟨p0, R, rfl, R0, p0b, p0c⟩, h.c4, h.c5, h.c6, h.c7, h.c8, h.c9, h.c10⟩⟩
    · obtain rfl : b4 = false := hf
      cases ho
      have hb3 : b3 = true := hall { on := 3, ground := .data } (by simp) rfl
      obtain ⟨p3, r3, rfl, r3b, p3b, p3c⟩ := hI.c3 hb3
      have hcl := lit_cell p3c r3b
      have hbd := inB.at (lo := 0) (hi := 1023) (by unfold inB; decide) r3b
      generalize ([0, 1, 2, 31, 32, 33, 64, 1023, 5, 96] : List Int)[r3] = y at hcl hbd
      have HI : Hid _ := hI
      clear hI hall hi
      refine wpOp_step rfl (fun K hK => ?_)
      go_simp
      have h := HI.out
      exact hK _ _ ⟨b0, b1, b2, b3, true, b5, b6, b7, b8, b9, b10, v4, v5, v6, _, _, v9, v10, v11, v12, v13, v3, rfl, rfl, ⟨h.lt, h.le, h.src, h.gr, h.c0, h.c1, h.c2, h.c3, fun _ => ⟨y, rfl, hbd.1, hbd.2⟩, h.c5, h.c6, h.c7, h.c8, h.c9, h.c10⟩⟩
    · obtain rfl : b5 = false := hf
      cases ho
      have hb4 : b4 = true := hall { on := 4, ground := .data } (by simp) rfl
      obtain ⟨y4, rfl, y4b, y4c⟩ := hI.c4 hb4
      have HI : Hid _ := hI
      clear hI hall hi
      refine wpOp_step rfl (fun K hK => ?_)
      go_simp
      have h := HI.out
      exact hK _ _ ⟨b0, b1, b2, b3, b4, true, b6, b7, b8, b9, b10, v4, v5, v6, v7, _, _, v10, v11, v12, v13, v3, rfl, rfl, ⟨h.lt, h.le, h.src, h.gr, h.c0, h.c1, h.c2, h.c3, h.c4, fun _ => ⟨_, rfl, by first | omega | (rw [IntKind.wrap_i64]; omega), by first | omega | (rw [IntKind.wrap_i64]; omega)⟩, h.c6, h.c7, h.c8, h.c9, h.c10⟩⟩
    · obtain rfl : b6 = false := hf
      have HI : Hid _ := hI
      clear hI hall hi
      refine wpOp_step rfl (fun K hK => ?_)
      go_simp
      have h := HI.out
      exact hK _ _ ⟨b0, b1, b2, b3, b4, b5, true, b7, b8, b9, b10, v4, v5, v6, v7, v8, v9, _, v11, v12, v13, v3, rfl, rfl, ⟨h.lt, h.le, h.src, h.gr, h.c0, h.c1, h.c2, h.c3, h.c4, h.c5, fun _ => rfl, h.c7, h.c8, h.c9, h.c10⟩⟩
    · obtain rfl : b7 = false := hf
      cases ho
      have hb6 : b6 = true := hall { on := 6, ground := .data } (by simp) rfl
      have e6 : v10 = .pointer (some ⟨B0, 0, none⟩) := hI.c6 hb6
      subst e6
      have HN : Hid _ := src_n B0 a len cap 64 u hI.src (by omega)
      have HI : Hid _ := hI
      clear hI hall hi
      refine wpOp_step rfl (fun K hK => ?_)
      go_simp
      refine Calls.mono HN.out ?_
      rintro e9 u5 ⟨r, rfl, r0, r1, hs5, hg5⟩
      have h := HI.out
      exact hK _ _ ⟨b0, b1, b2, b3, b4, b5, b6, true, b8, b9, b10, v4, v5, v6, v7, v8, v9, _, _, v12, v13, v3, rfl, rfl, ⟨h.lt, h.le, hs5, Lib.grownBy_trans h.gr hg5, fun e => (h.c0 e).grow h.lt hg5, h.c1, h.c2, fun e => (h.c3 e).grow h.lt hg5, h.c4, h.c5, h.c6, fun _ => ⟨r, rfl, r0, by omega⟩, h.c8, h.c9, h.c10⟩⟩
    · obtain rfl : b8 = false := hf
      cases ho
      have hb7 : b7 = true := hall { on := 7, ground := .data } (by simp) rfl
      obtain ⟨y7, rfl, y7b, y7c⟩ := hI.c7 hb7
      have HI : Hid _ := hI
      clear hI hall hi
      refine wpOp_step rfl (fun K hK => ?_)
      go_simp
      have h := HI.out
      exact hK _ _ ⟨b0, b1, b2, b3, b4, b5, b6, b7, true, b9, b10, v4, v5, v6, v7, v8, v9, v10, _, _, v13, v3, rfl, rfl, ⟨h.lt, h.le, h.src, h.gr, h.c0, h.c1, h.c2, h.c3, h.c4, h.c5, h.c6, h.c7, fun _ => ⟨_, rfl, by first | omega | (rw [IntKind.wrap_i64]; omega), by first | omega | (rw [IntKind.wrap_i64]; omega)⟩, h.c9, h.c10⟩⟩
    · obtain rfl : b9 = false := hf
      cases ho
      have hb5 : b5 = true := hall { on := 5, ground := .data } (by simp) rfl
      have hb8 : b8 = true := hall { on := 8, ground := .data } (by simp) rfl
      obtain ⟨y5, rfl, y5b, y5c⟩ := hI.c5 hb5
      obtain ⟨y8, rfl, y8b, y8c⟩ := hI.c8 hb8
      have HI : Hid _ := hI
      clear hI hall hi
      refine wpOp_step rfl (fun K hK => ?_)
      go_simp
      have h := HI.out
      exact hK _ _ ⟨b0, b1, b2, b3, b4, b5, b6, b7, b8, true, b10, v4, v5, v6, v7, v8, _, v10, v11, _, _, v3, rfl, rfl, ⟨h.lt, h.le, h.src, h.gr, h.c0, h.c1, h.c2, h.c3, h.c4, h.c5, h.c6, h.c7, h.c8, fun _ => ⟨_, rfl, by first | omega | (rw [IntKind.wrap_i64]; omega), by first | omega | (rw [IntKind.wrap_i64]; omega)⟩, h.c10⟩⟩
    · obtain rfl : b10 = false := hf
      cases ho
      have hb9 : b9 = true := hall { on := 9, ground := .data } (by simp) rfl
      obtain ⟨y9, rfl, y9b, y9c⟩ := hI.c9 hb9
      have HI : Hid _ := hI
      clear hI hall hi
      refine wpOp_step rfl (fun K hK => ?_)
      go_simp
      have h := HI.out
      exact hK _ _ ⟨b0, b1, b2, b3, b4, b5, b6, b7, b8, b9, true, v4, v5, v6, v7, v8, v9, v10, v11, v12, _, _, rfl, rfl, ⟨h.lt, h.le, h.src, h.gr, h.c0, h.c1, h.c2, h.c3, h.c4, h.c5, h.c6, h.c7, h.c8, h.c9, fun _ => ⟨_, rfl, by first | omega | (rw [IntKind.wrap_i64]; omega), by first | omega | (rw [IntKind.wrap_i64]; omega)⟩⟩⟩
end Go.Proofs.Ytfagohdmepnkkaa
