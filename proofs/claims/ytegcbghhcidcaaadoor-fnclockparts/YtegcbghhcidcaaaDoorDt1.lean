import Derived.Test.YtegcbghhcidcaaaDoorDrB
import Derived.Test.YtegcbghhcidcaaaDoorRowTM1
import Derived.Test.YtegcbghhcidcaaaDoorCq1
namespace Go.Proofs.YtegcbghhcidcaaaDoor
open Go.ChangeShapes Go.WideShapes Go.ChangeAt Go.RowKit

def KTM (v : Value) : Prop := ∃ m : TM, v = tiA m
/-- A timer in its box. -/
structure TmF (B0 : Nat) (a : Option Addr) (len cap : Nat) (w : World) (m : TM) (u : World) : Prop where
  box : u.heap[w.heap.size]? = some (.cells #[.int .i64 m.due, .int .i64 m.period, .int .i64 m.policy] 34 (0, 0))
  src : SrcOk u B0 a len cap
  gr : w.grownBy u (some B0)
structure TmR (B0 B : Nat) (w : World) (a : Option Addr) (len cap : Nat) (b0 b1 b2 b3 b4 b5 b6 b7 b8 b9 b10 b11 : Bool) (v3 v4 v5 v6 v7 v8 v9 v10 v11 v12 v13 : Value) (u : World) : Prop where
  lt : B0 < B
  le : B ≤ w.heap.size
  src : SrcOk u B0 a len cap
  gr : w.grownBy u (some B0)
  c0 : b0 = true → KSrc B0 v3
  c1 : b1 = true → KNum 0 99 v4
  c2 : b2 = true → KLit B [0, 1, 7, 30] v5 u
  c3 : b3 = true → KSrc B0 v6
  c4 : b4 = true → KNum 0 3 v7
  c5 : b5 = true → KPtr B [0, 1, 7, 30] v8 u
  c6 : b6 = true → KNum 0 30 v9
  c7 : b7 = true → KSrc B0 v10
  c8 : b8 = true → KNum 0 2 v11
  c9 : b9 = true → KNum 1 3 v12
  c10 : b10 = true → KTM v13
set_option maxRecDepth 100000 in
set_option maxHeartbeats 8000000 in
theorem src_timer (B0 : Nat) (a : Option Addr) (len cap : Nat) (w : World) (h : SrcOk w B0 a len cap) :
    Calls Tryd.prog 21 #[.pointer (some ⟨B0, 0, none⟩)] w fun e w' => ∃ m : TM, e = .returned (tiA m) ∧ SrcOk w' B0 a len cap ∧ w.grownBy w' (some B0) := by
  have hlt := h.lt
  have HS : Hid (SrcOk (w.alloc (.cells #[.int .i64 0, .int .i64 0, .int .i64 0] 34)) B0 a len cap) := h.far (World.grownBy_alloc _ _ none)
  have HGW : Hid (w.grownBy (w.alloc (.cells #[.int .i64 0, .int .i64 0, .int .i64 0] 34)) (some B0)) := gAl
  have HR0 : Hid ((w.alloc (.cells #[.int .i64 0, .int .i64 0, .int .i64 0] 34)).heap[w.heap.size]? = some (.cells #[.int .i64 0, .int .i64 0, .int .i64 0] 34 (0, 0))) := (MapKept.heap_alloc w _).1
  have HSZ : Hid ((w.alloc (.cells #[.int .i64 0, .int .i64 0, .int .i64 0] 34)).heap.size = w.heap.size + 1) := (show _ = _ by simp)
  clear h
  go_enter Tryd.func21, Tryd.ntmps21
  go_wp2_with fail
  generalize w.alloc (.cells #[.int .i64 0, .int .i64 0, .int .i64 0] 34) = W at *
  refine wp_region_any (by kernel_rfl) ?_
  refine wpAny_inv (fun L a9 u => ∃ (b0 b1 b2 b3 b4 b5 b6 b7 b8 b9 b10 b11 : Bool) (v3 v4 v5 v6 v7 v8 v9 v10 v11 v12 v13 : Value), L = #[b0, b1, b2, b3, b4, b5, b6, b7, b8, b9, b10, b11] ∧ a9 = { tmps := #[.pointer (some ⟨B0, 0, none⟩), undef, .pointer (some ⟨w.heap.size, 0, none⟩), v3, v4, v5, v6, v7, v8, v9, v10, v11, v12, v13], defers := [] } ∧ ((b11 = false ∧ TmR B0 W.heap.size W a len cap b0 b1 b2 b3 b4 b5 b6 b7 b8 b9 b10 b11 v3 v4 v5 v6 v7 v8 v9 v10 v11 v12 v13 u) ∨ (b0 = true ∧ b1 = true ∧ b2 = true ∧ b3 = true ∧ b4 = true ∧ b5 = true ∧ b6 = true ∧ b7 = true ∧ b8 = true ∧ b9 = true ∧ b10 = true ∧ b11 = true ∧ ∃ m : TM, TmF B0 a len cap w m u))) ?hs ?hd _ _ _ _ (by decide) ?st
  case st => exact ⟨false, false, false, false, false, false, false, false, false, false, false, false, undef, undef, undef, undef, undef, undef, undef, undef, undef, undef, undef, rfl, rfl, .inl ⟨rfl, ⟨by have := HSZ.out; omega, Nat.le_refl _, HS.out.bel (Below.refl _ _).drew, ⟨rfl, rfl, rfl, Nat.le_refl _, fun _ _ _ => rfl⟩, (fun e => by cases e), (fun e => by cases e), (fun e => by cases e), (fun e => by cases e), (fun e => by cases e), (fun e => by cases e), (fun e => by cases e), (fun e => by cases e), (fun e => by cases e), (fun e => by cases e), (fun e => by cases e)⟩⟩⟩
  case hd =>
    rintro L a9 u ⟨b0, b1, b2, b3, b4, b5, b6, b7, b8, b9, b10, b11, v3, v4, v5, v6, v7, v8, v9, v10, v11, v12, v13, rfl, rfl, hI⟩ hr
    have hall := fun he hL => all_up (md := _) he hL hr
    have hall2 := hall (by kernel_rfl) rfl
    rcases hI with ⟨rfl, hI⟩ | ⟨rfl, rfl, rfl, rfl, rfl, rfl, rfl, rfl, rfl, rfl, rfl, rfl, ⟨x0, x1, x2⟩, hM⟩
    · exact Bool.noConfusion (show false = true from hall2 11 (by decide))
    have HM1 : Hid (TmF B0 a len cap w ⟨x0, x1, x2⟩ u) := hM
    clear hM hr hall hall2 HS
    obtain ⟨f0, f1, f2⟩ := cel3x HM1.out.box
    simp only at f0 f1 f2
    go_wp2_with fail
    refine bodyPost_ret (v := tiA ⟨x0, x1, x2⟩) (by simp [results, Tryd.results21, go_sem, tiA, f0, f1, f2]) rfl ⟨_, rfl, HM1.out.src, HM1.out.gr⟩
  case hs =>
    rintro L a9 u i ⟨b0, b1, b2, b3, b4, b5, b6, b7, b8, b9, b10, b11, v3, v4, v5, v6, v7, v8, v9, v10, v11, v12, v13, rfl, rfl, hI⟩ hi
    obtain ⟨hf, o, ho, hall⟩ := mem_ready.1 hi
    have hi8 : i < 12 := (Array.getElem?_eq_some_iff.1 ho).1
    rcases hI with ⟨rfl, hI⟩ | ⟨rfl, rfl, rfl, rfl, rfl, rfl, rfl, rfl, rfl, rfl, rfl, rfl, _⟩
    · obtain rfl | rfl | rfl | rfl | rfl | rfl | rfl | rfl | rfl | rfl | rfl | rfl : i = 0 ∨ i = 1 ∨ i = 2 ∨ i = 3 ∨ i = 4 ∨ i = 5 ∨ i = 6 ∨ i = 7 ∨ i = 8 ∨ i = 9 ∨ i = 10 ∨ i = 11 := by omega
      · obtain rfl : b0 = false := hf
        have HI : Hid _ := hI
        clear hI hall hi
        refine wpOp_step rfl (fun K hK => ?_)
        go_simp
        have h := HI.out
        exact hK _ _ ⟨true, b1, b2, b3, b4, b5, b6, b7, b8, b9, b10, false, _, v4, v5, v6, v7, v8, v9, v10, v11, v12, v13, rfl, rfl, .inl ⟨rfl, ⟨h.lt, h.le, h.src, h.gr, fun _ => rfl, h.c1, h.c2, h.c3, h.c4, h.c5, h.c6, h.c7, h.c8, h.c9, h.c10⟩⟩⟩
      · obtain rfl : b1 = false := hf
        cases ho
        have hb0 : b0 = true := hall { on := 0, ground := .data } (by simp) rfl
        have e0 : v3 = .pointer (some ⟨B0, 0, none⟩) := hI.c0 hb0
        subst e0
        have HN : Hid _ := src_n B0 a len cap 100 u hI.src (by omega)
        have HI : Hid _ := hI
        clear hI hall hi
        refine wpOp_step rfl (fun K hK => ?_)
        go_simp
        refine Calls.mono HN.out ?_
        rintro e9 u5 ⟨r, rfl, r0, r1, hs5, hg5⟩
        have h := HI.out
        exact hK _ _ ⟨b0, true, b2, b3, b4, b5, b6, b7, b8, b9, b10, false, _, _, v5, v6, v7, v8, v9, v10, v11, v12, v13, rfl, rfl, .inl ⟨rfl, ⟨h.lt, h.le, hs5, Lib.grownBy_trans h.gr hg5, h.c0, fun _ => ⟨r, rfl, r0, by omega⟩, fun e => (h.c2 e).grow h.lt hg5, h.c3, h.c4, fun e => (h.c5 e).grow h.lt hg5, h.c6, h.c7, h.c8, h.c9, h.c10⟩⟩⟩
      · obtain rfl : b2 = false := hf
        have HI : Hid _ := hI
        clear hI hall hi
        refine wpOp_step rfl (fun K hK => ?_)
        go_simp
        have h := HI.out
        exact hK _ _ ⟨b0, b1, true, b3, b4, b5, b6, b7, b8, b9, b10, false, v3, v4, _, v6, v7, v8, v9, v10, v11, v12, v13, rfl, rfl, .inl ⟨rfl, ⟨h.lt, h.le, h.src.far (World.grownBy_alloc _ _ none), Lib.grownBy_trans h.gr gAl, h.c0, h.c1, fun _ => ⟨u.heap.size, rfl, Nat.le_trans h.le h.gr.size, (MapKept.heap_alloc u _).1⟩, h.c3, h.c4, fun e => (h.c5 e).grow h.lt gAl, h.c6, h.c7, h.c8, h.c9, h.c10⟩⟩⟩
      · obtain rfl : b3 = false := hf
        have HI : Hid _ := hI
        clear hI hall hi
        refine wpOp_step rfl (fun K hK => ?_)
        go_simp
        have h := HI.out
        exact hK _ _ ⟨b0, b1, b2, true, b4, b5, b6, b7, b8, b9, b10, false, v3, v4, v5, _, v7, v8, v9, v10, v11, v12, v13, rfl, rfl, .inl ⟨rfl, ⟨h.lt, h.le, h.src, h.gr, h.c0, h.c1, h.c2, fun _ => rfl, h.c4, h.c5, h.c6, h.c7, h.c8, h.c9, h.c10⟩⟩⟩
      · obtain rfl : b4 = false := hf
        cases ho
        have hb3 : b3 = true := hall { on := 3, ground := .data } (by simp) rfl
        have e3 : v6 = .pointer (some ⟨B0, 0, none⟩) := hI.c3 hb3
        subst e3
        have HN : Hid _ := src_n B0 a len cap 4 u hI.src (by omega)
        have HI : Hid _ := hI
        clear hI hall hi
        refine wpOp_step rfl (fun K hK => ?_)
        go_simp
        refine Calls.mono HN.out ?_
        rintro e9 u5 ⟨r, rfl, r0, r1, hs5, hg5⟩
        have h := HI.out
        exact hK _ _ ⟨b0, b1, b2, b3, true, b5, b6, b7, b8, b9, b10, false, v3, v4, v5, _, _, v8, v9, v10, v11, v12, v13, rfl, rfl, .inl ⟨rfl, ⟨h.lt, h.le, hs5, Lib.grownBy_trans h.gr hg5, h.c0, h.c1, fun e => (h.c2 e).grow h.lt hg5, h.c3, fun _ => ⟨r, rfl, r0, by omega⟩, fun e => (h.c5 e).grow h.lt hg5, h.c6, h.c7, h.c8, h.c9, h.c10⟩⟩⟩
      · obtain rfl : b5 = false := hf
        cases ho
        have hb2 : b2 = true := hall { on := 2, ground := .data } (by simp) rfl
        have hb4 : b4 = true := hall { on := 4, ground := .data } (by simp) rfl
        obtain ⟨p2, e2, p2b, p2c⟩ := hI.c2 hb2
        replace e2 : v5 = .slice (some ⟨p2, 0, none⟩) 4 4 := e2
        subst e2
        obtain ⟨y4, rfl, y4b, y4c⟩ := hI.c4 hb4
        obtain ⟨R, rfl⟩ := Int.eq_ofNat_of_zero_le y4b
        have R1 : (R : Int) < 4 := by omega
        have R0 : R < 4 := by omega
        have HI : Hid _ := hI
        clear hI hall hi
        refine wpOp_step rfl (fun K hK => ?_)
        go_simp
        have h := HI.out
        exact hK _ _ ⟨b0, b1, b2, b3, b4, true, b6, b7, b8, b9, b10, false, v3, v4, _, v6, _, _, v9, v10, v11, v12, v13, rfl, rfl, .inl ⟨rfl, ⟨h.lt, h.le, h.src, h.gr, h.c0, h.c1, h.c2, h.c3, h.c4, fun _ => ⟨p2, R, rfl, R0, p2b, p2c⟩, h.c6, h.c7, h.c8, h.c9, h.c10⟩⟩⟩
      · obtain rfl : b6 = false := hf
        cases ho
        have hb5 : b5 = true := hall { on := 5, ground := .data } (by simp) rfl
        obtain ⟨p5, r5, rfl, r5b, p5b, p5c⟩ := hI.c5 hb5
        have hcl := lit_cell p5c r5b
        have hbd := inB.at (lo := 0) (hi := 30) (by unfold inB; decide) r5b
        generalize ([0, 1, 7, 30] : List Int)[r5] = y at hcl hbd
        have HI : Hid _ := hI
        clear hI hall hi
        refine wpOp_step rfl (fun K hK => ?_)
        go_simp
        have h := HI.out
        exact hK _ _ ⟨b0, b1, b2, b3, b4, b5, true, b7, b8, b9, b10, false, v3, v4, v5, v6, v7, _, _, v10, v11, v12, v13, rfl, rfl, .inl ⟨rfl, ⟨h.lt, h.le, h.src, h.gr, h.c0, h.c1, h.c2, h.c3, h.c4, h.c5, fun _ => ⟨y, rfl, hbd.1, hbd.2⟩, h.c7, h.c8, h.c9, h.c10⟩⟩⟩
      · obtain rfl : b7 = false := hf
        have HI : Hid _ := hI
        clear hI hall hi
        refine wpOp_step rfl (fun K hK => ?_)
        go_simp
        have h := HI.out
        exact hK _ _ ⟨b0, b1, b2, b3, b4, b5, b6, true, b8, b9, b10, false, v3, v4, v5, v6, v7, v8, v9, _, v11, v12, v13, rfl, rfl, .inl ⟨rfl, ⟨h.lt, h.le, h.src, h.gr, h.c0, h.c1, h.c2, h.c3, h.c4, h.c5, h.c6, fun _ => rfl, h.c8, h.c9, h.c10⟩⟩⟩
      · obtain rfl : b8 = false := hf
        cases ho
        have hb7 : b7 = true := hall { on := 7, ground := .data } (by simp) rfl
        have e7 : v10 = .pointer (some ⟨B0, 0, none⟩) := hI.c7 hb7
        subst e7
        have HN : Hid _ := src_n B0 a len cap 3 u hI.src (by omega)
        have HI : Hid _ := hI
        clear hI hall hi
        refine wpOp_step rfl (fun K hK => ?_)
        go_simp
        refine Calls.mono HN.out ?_
        rintro e9 u5 ⟨r, rfl, r0, r1, hs5, hg5⟩
        have h := HI.out
        exact hK _ _ ⟨b0, b1, b2, b3, b4, b5, b6, b7, true, b9, b10, false, v3, v4, v5, v6, v7, v8, v9, _, _, v12, v13, rfl, rfl, .inl ⟨rfl, ⟨h.lt, h.le, hs5, Lib.grownBy_trans h.gr hg5, h.c0, h.c1, fun e => (h.c2 e).grow h.lt hg5, h.c3, h.c4, fun e => (h.c5 e).grow h.lt hg5, h.c6, h.c7, fun _ => ⟨r, rfl, r0, by omega⟩, h.c9, h.c10⟩⟩⟩
      · obtain rfl : b9 = false := hf
        cases ho
        have hb8 : b8 = true := hall { on := 8, ground := .data } (by simp) rfl
        obtain ⟨y8, rfl, y8b, y8c⟩ := hI.c8 hb8
        have HI : Hid _ := hI
        clear hI hall hi
        refine wpOp_step rfl (fun K hK => ?_)
        go_simp
        have h := HI.out
        exact hK _ _ ⟨b0, b1, b2, b3, b4, b5, b6, b7, b8, true, b10, false, v3, v4, v5, v6, v7, v8, v9, v10, _, _, v13, rfl, rfl, .inl ⟨rfl, ⟨h.lt, h.le, h.src, h.gr, h.c0, h.c1, h.c2, h.c3, h.c4, h.c5, h.c6, h.c7, h.c8, fun _ => ⟨_, rfl, by first | omega | (rw [IntKind.wrap_i64]; omega), by first | omega | (rw [IntKind.wrap_i64]; omega)⟩, h.c10⟩⟩⟩
      · obtain rfl : b10 = false := hf
        cases ho
        have hb1 : b1 = true := hall { on := 1, ground := .data } (by simp) rfl
        have hb6 : b6 = true := hall { on := 6, ground := .data } (by simp) rfl
        have hb9 : b9 = true := hall { on := 9, ground := .data } (by simp) rfl
        obtain ⟨y1, rfl, y1b, y1c⟩ := hI.c1 hb1
        obtain ⟨y6, rfl, y6b, y6c⟩ := hI.c6 hb6
        obtain ⟨y9, rfl, y9b, y9c⟩ := hI.c9 hb9
        have HI : Hid _ := hI
        clear hI hall hi
        refine wpOp_step rfl (fun K hK => ?_)
        go_simp
        have h := HI.out
        exact hK _ _ ⟨b0, b1, b2, b3, b4, b5, b6, b7, b8, b9, true, false, v3, _, v5, v6, v7, v8, _, v10, v11, _, _, rfl, rfl, .inl ⟨rfl, ⟨h.lt, h.le, h.src, h.gr, h.c0, h.c1, h.c2, h.c3, h.c4, h.c5, h.c6, h.c7, h.c8, h.c9, fun _ => ⟨⟨y1, y6, y9⟩, rfl⟩⟩⟩⟩
      · cases ho
        obtain rfl : b0 = true := hall { on := 0, ground := .phase } (by simp) rfl
        obtain rfl : b1 = true := hall { on := 1, ground := .phase } (by simp) rfl
        obtain rfl : b2 = true := hall { on := 2, ground := .phase } (by simp) rfl
        obtain rfl : b3 = true := hall { on := 3, ground := .phase } (by simp) rfl
        obtain rfl : b4 = true := hall { on := 4, ground := .phase } (by simp) rfl
        obtain rfl : b5 = true := hall { on := 5, ground := .phase } (by simp) rfl
        obtain rfl : b6 = true := hall { on := 6, ground := .phase } (by simp) rfl
        obtain rfl : b7 = true := hall { on := 7, ground := .phase } (by simp) rfl
        obtain rfl : b8 = true := hall { on := 8, ground := .phase } (by simp) rfl
        obtain rfl : b9 = true := hall { on := 9, ground := .phase } (by simp) rfl
        obtain rfl : b10 = true := hall { on := 10, ground := .phase } (by simp) rfl
        have hb10 : true = true := rfl
        obtain ⟨⟨m0, m1, m2⟩, hm9⟩ := hI.c10 hb10
        unfold tiA at hm9
        simp only at hm9
        subst hm9
        have h := hI
        have hbx : u.heap[w.heap.size]? = some (.cells #[.int .i64 0, .int .i64 0, .int .i64 0] 34 (0, 0)) := (h.gr.block _ (Array.getElem?_eq_some_iff.1 HR0.out).1 (by simp; omega)).trans HR0.out
        obtain ⟨c0, c1, c2⟩ := cel3x hbx
        have cf := frz3 hbx
        have hlb := (Array.getElem?_eq_some_iff.1 hbx).1
        have HF : Hid (TmF B0 a len cap w ⟨m0, m1, m2⟩ (((u.setCell ⟨w.heap.size, 0, none⟩ (.int .i64 m0)).setCell ⟨w.heap.size, 1, none⟩ (.int .i64 m1)).setCell ⟨w.heap.size, 2, none⟩ (.int .i64 m2))) := ⟨blk_set (blk_set (blk_set hbx 0 _) 1 _) 2 _, s_set (s_set (s_set h.src (by omega)) (by omega)) (by omega), g_set (g_set (g_set (Lib.grownBy_trans HGW.out h.gr) (Nat.le_refl _)) (Nat.le_refl _)) (Nat.le_refl _)⟩
        clear hI h hall hi hbx
        refine wpOp_step rfl (fun K hK => ?_)
        go_simp
        exact hK _ _ ⟨true, true, true, true, true, true, true, true, true, true, true, true, v3, v4, v5, v6, v7, v8, v9, v10, v11, v12, _, rfl, rfl, .inr ⟨rfl, rfl, rfl, rfl, rfl, rfl, rfl, rfl, rfl, rfl, rfl, rfl, ⟨m0, m1, m2⟩, HF.out⟩⟩
    · exfalso
      obtain rfl | rfl | rfl | rfl | rfl | rfl | rfl | rfl | rfl | rfl | rfl | rfl : i = 0 ∨ i = 1 ∨ i = 2 ∨ i = 3 ∨ i = 4 ∨ i = 5 ∨ i = 6 ∨ i = 7 ∨ i = 8 ∨ i = 9 ∨ i = 10 ∨ i = 11 := by omega
      all_goals exact absurd hf (by decide)
end Go.Proofs.YtegcbghhcidcaaaDoor
