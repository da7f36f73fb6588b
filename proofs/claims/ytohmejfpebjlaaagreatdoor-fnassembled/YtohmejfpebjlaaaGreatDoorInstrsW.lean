import Derived.Test.YtohmejfpebjlaaaGreatDoorLaid
import Derived.Test.YtohmejfpebjlaaaGreatDoorCode
import Derived.Test.YtohmejfpebjlaaaGreatDoorDrawZ
import Derived.Test.YtohmejfpebjlaaaGreatDoorPReadZ
namespace Go.Proofs.YtohmejfpebjlaaaGreatDoor
open Go.ChangeShapes Go.WideShapes Go.ChangeAt Go.WideMaps Go.WideElems Go.RowKit

/-- What the law keeps: the drawn instruction's box. -/
structure LX (w wr : World) (I : Nat) (op a b c imm : Int) : Prop where
  bel : Below w.heap.size w wr
  box : InsAt wr I op (a, b, c, imm)
  lt : I < wr.heap.size
  le : w.heap.size ≤ I
theorem LX.step {w wr u : World} {I : Nat} {op a b c imm : Int} (h : LX w wr I op a b c imm) (hu : Below wr.heap.size wr u) : LX w u I op a b c imm :=
  ⟨h.bel.trans (hu.mono h.bel.size), h.box.below hu h.lt, Nat.lt_of_lt_of_le h.lt hu.size, h.le⟩
theorem box6i {wr : World} {b t : Nat} {v0 v1 v2 v3 v4 v5 : Value} (h : wr.heap[b]? = some (.cells #[v0, v1, v2, v3, v4, v5] t (0, 0))) :
    wr.cell? ⟨b, 0, none⟩ = some v0 ∧ wr.cell? ⟨b, 1, none⟩ = some v1 ∧ wr.cell? ⟨b, 2, none⟩ = some v2 ∧ wr.cell? ⟨b, 3, none⟩ = some v3 ∧ wr.cell? ⟨b, 4, none⟩ = some v4 ∧ wr.cell? ⟨b, 5, none⟩ = some v5 := by
  simp [World.cell?, h]
/-- What stands ahead of every call. -/
def Env (w : World) : Prop := Names w ∧ NamesB w ∧ Tab w ∧ MaxAt w
theorem Env.below {w w' : World} (h : Env w) (hb : Below w.heap.size w w') (h2 : 2 < w.heap.size) : Env w' :=
  ⟨h.1.below hb (by omega), h.2.1.below hb (by omega), h.2.2.1.below hb (by omega), h.2.2.2.below hb (by omega)⟩
set_option maxRecDepth 100000 in
set_option maxHeartbeats 1000000 in
theorem walkI (a : Option Addr) (len cap : Nat) (w : World) (hcode : CodeAt w w.heap.size a len) (henv : Env w) (h2 : 2 < w.heap.size) :
    Calls Tryz.prog 3 #[.slice a len cap] w fun e w' => e = .returned (.bool true) ∧ Below w.heap.size w w' := by
  by_cases hl : len ≤ 1048576
  · have hdraw := drawEncode_any a len cap w hcode hl
    have HE : Hid (Env w) := henv
    clear hcode henv
    go_enter Tryz.func3, Tryz.ntmps3
    go_wp2_with fail
    refine Calls.mono hdraw ?_
    rintro e u1 ⟨op, x1, x2, x3, x4, rfl, hin, hb1⟩
    obtain ⟨bo, b1, b2, b3, b4⟩ := hin
    have HX : Hid (LX w (u1.alloc (.cells #[.int .i64 op, .int .i64 x1, .int .i64 x2, .int .i64 x3, .int .i64 x4] 24)) u1.heap.size op x1 x2 x3 x4) := ⟨hb1.alloc hb1.size _, heap_new _ _, by simp, hb1.size⟩
    unfold ins
    clear hdraw
    cases hok : isOk op x1 x2 x3 x4
    · have he : encV op x1 x2 x3 x4 = -1 := if_neg (by rw [hok]; decide)
      have ht : iT op x1 x2 x3 x4 = ⟨#[]⟩ := if_neg (by rw [hok]; decide)
      go_wp2_with (first | (go_at_call 6; refine (instrFault_any op x1 x2 x3 x4 _ bo.1 bo.2).mono ?_; rintro e u2 ⟨rfl, hu2⟩; rw [hok]; replace HX : Hid _ := HX.out.step hu2; obtain ⟨i0, i1, i2, i3, i4, _⟩ := InsAt.all HX.out.box) | (go_at_call 7; refine (implEncode_any op x1 x2 x3 x4 _ (HE.out.1.below HX.out.bel (by omega)) (by have := HX.out.lt; omega) bo.1 bo.2).mono ?_; rintro e u3 ⟨rfl, hu3⟩; rw [he]; replace HX : Hid _ := HX.out.step hu3; obtain ⟨i0, i1, i2, i3, i4, _⟩ := InsAt.all HX.out.box) | (go_at_call 8; refine (implText_any op x1 x2 x3 x4 _ (HE.out.1.below HX.out.bel (by omega)) (HE.out.2.2.1.below HX.out.bel (by omega)) (by have := HX.out.bel.size; omega) (by have := HX.out.lt; omega) bo.1 bo.2).mono ?_; rintro e u4 ⟨rfl, hu4⟩; rw [ht]; replace HX : Hid _ := HX.out.step hu4))
      go_ret
      exact ⟨rfl, HX.out.bel⟩
    · have HO : Hid (isOk op x1 x2 x3 x4 = true) := hok
      have HD : Hid (decV (encV op x1 x2 x3 x4) = rdV true op x1 x2 x3 x4) := dec_enc _ _ _ _ _ hok
      have HT : Hid (iT op x1 x2 x3 x4 = txt op x1 x2 x3 x4 ⟨#[]⟩) := if_pos hok
      have henc : 0 ≤ encV op x1 x2 x3 x4 ∧ encV op x1 x2 x3 x4 < 4294967296 := by
        obtain ⟨c0, c1, c2, c3, c4⟩ := isOk_b hok
        unfold encV
        rw [if_pos hok]
        split <;> omega
      clear hok
      generalize hn : encV op x1 x2 x3 x4 = n at *
      have HN : Hid (encV op x1 x2 x3 x4 = n) := hn
      clear hn
      go_wp2_with (first | (go_at_call 6; refine (instrFault_any op x1 x2 x3 x4 _ bo.1 bo.2).mono ?_; rintro e u2 ⟨rfl, hu2⟩; rw [HO.out]; replace HX : Hid _ := HX.out.step hu2; obtain ⟨i0, i1, i2, i3, i4, _⟩ := InsAt.all HX.out.box) | (go_at_call 7; refine (implEncode_any op x1 x2 x3 x4 _ (HE.out.1.below HX.out.bel (by omega)) (by have := HX.out.lt; omega) bo.1 bo.2).mono ?_; rintro e u3 ⟨rfl, hu3⟩; rw [HN.out]; replace HX : Hid _ := HX.out.step hu3) | (go_at_call 9; refine (implDecode_any n _ (HE.out.1.below HX.out.bel (by omega)) (by have := HX.out.lt; omega) (by omega) (by omega)).mono ?_; rintro e u4 ⟨rfl, hu4⟩; rw [HD.out]; unfold rdV; replace HX : Hid _ := HX.out.step hu4; replace HX : Hid _ := HX.out.step ((Below.refl _ _).alloc (Nat.le_refl _) (.cells #[.bool true, .int .i64 op, .int .i64 x1, .int .i64 x2, .int .i64 x3, .int .i64 x4] 29)); obtain ⟨i0, i1, i2, i3, i4, _⟩ := InsAt.all HX.out.box) | (go_at_call 8; refine (implText_any op x1 x2 x3 x4 _ (HE.out.1.below HX.out.bel (by omega)) (HE.out.2.2.1.below HX.out.bel (by omega)) (by have := HX.out.bel.size; omega) (by have := HX.out.lt; omega) bo.1 bo.2).mono ?_; rintro e u5 ⟨rfl, hu5⟩; rw [HT.out]; replace HX : Hid _ := HX.out.step hu5) | (go_at_call 10; refine (readInstr_ok op x1 x2 x3 x4 _ HO.out (HE.out.2.1.below HX.out.bel (by omega)) (HE.out.2.2.2.below HX.out.bel (by omega)) (by have := HX.out.bel.size; omega) (HE.out.2.2.1.below HX.out.bel (by omega)) (by have := HX.out.bel.size; omega) (by have := HX.out.lt; omega)).mono ?_; rintro e u6 ⟨rfl, hu6⟩; unfold rdV; replace HX : Hid _ := HX.out.step hu6; obtain ⟨i0, i1, i2, i3, i4, _⟩ := InsAt.all HX.out.box; have hz5 : u4.heap.size < u5.heap.size := (by have := hu5.size; simp at this; omega); have hz6 := Nat.lt_of_lt_of_le hz5 hu6.size; have hzI := HX.out.lt; obtain ⟨d0, d1, d2, d3, d4, d5⟩ := box6i ((hu6.block _ hz5).trans ((hu5.block u4.heap.size (by simp)).trans (heap_new _ _)))))
      go_ret
      exact ⟨rfl, HX.out.bel.alloc HX.out.bel.size _⟩
  · go_enter Tryz.func3, Tryz.ntmps3
    go_wp2_with fail
    go_ret
    exact ⟨rfl, Below.refl _ _⟩
end Go.Proofs.YtohmejfpebjlaaaGreatDoor
