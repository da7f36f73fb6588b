import Derived.Test.YtohmejfpebjlaaaGreatDoorPText2
import Derived.Test.YtohmejfpebjlaaaGreatDoorRdP
import Derived.Test.YtohmejfpebjlaaaGreatDoorPMap
import Derived.Lib.AtoiErrMem
namespace Go.Proofs.YtohmejfpebjlaaaGreatDoor
open Go.ChangeShapes Go.WideShapes Go.ChangeAt Go.RowKit

theorem parse_any (n : Int) (h0 : -1000000000 ≤ n) (h1 : n ≤ 1000000000) (w : World) :
    Calls Tryz.prog 94 #[.string (decB n), .int .i64 10, .int .i64 64] w fun e w' => e = .returned (.tuple #[.int .i64 n, .nilIface]) ∧ Below w.heap.size w w' := by
  have hs := decB_size n (by omega) (by omega)
  refine (Tryz.strconv_ParseInt_10_at64_ok (decB n) (by omega) n ?_ w).mono ?_
  · show Lib.parseIntB 64 (decL n).toArray.toList = _
    rw [List.toList_toArray]
    exact parse_dec n h0 h1
  · rintro e u ⟨rfl, rfl | ⟨t, rfl⟩⟩
    · exact ⟨rfl, Below.refl _ _⟩
    · exact ⟨rfl, Lib.bytesWorld_below _ _ _⟩
set_option maxRecDepth 100000 in
set_option maxHeartbeats 2000000 in
theorem readNumber_ok (n : Int) (h0 : -1000000000 ≤ n) (h1 : n ≤ 1000000000) (w : World) (ht : Tab w) (hw : 1 < w.heap.size) :
    Calls Tryz.prog 71 #[.string (decB n)] w fun e w' => e = .returned (.tuple #[.int .i64 n, .bool true]) ∧ Below w.heap.size w w' := by
  have hp := parse_any n h0 h1 w
  have hf := fun u hu => fmt_any n (by omega) (by omega) u hu
  have HT : Hid (Tab w) := ht
  clear ht
  generalize decB n = d at *
  go_enter Tryz.func71, Tryz.ntmps71
  go_wp2_with (first | (go_at_call 94; refine Calls.mono hp ?_; rintro e u1 ⟨rfl, hu1⟩) | (go_at_call 49; refine Calls.mono (hf _ (HT.out.below hu1 hw)) ?_; rintro e u2 ⟨rfl, hu2⟩))
  go_ret2
  exact ⟨rfl, hu1.trans (hu2.mono hu1.size)⟩
set_option maxRecDepth 100000 in
theorem taII (a b : Int) (w : World) : (Instr.typeAssert (.iface 87 (.agg #[.int .i64 a, .int .i64 b])) 51 87 true).run Tryz.prog w = .ok (.tuple #[.agg #[.int .i64 a, .int .i64 b], .bool true]) w := by kernel_rfl
theorem cutL (l : ByteArray) (d : ByteArray) (w : World) : Calls Tryz.prog 69 #[.string (l ++ d), .string l] w fun e w' => e = .returned (.tuple #[.string d, .bool true]) ∧ w' = w := by
  refine (Tryz.strings_CutPrefix (l ++ d) l w).mono ?_
  rintro e u ⟨rfl, rfl⟩
  rw [app_list, pre_cut, pre_yes]
  exact ⟨rfl, rfl⟩
theorem cutA (n : Int) (w : World) : Calls Tryz.prog 69 #[.string (decB n), .string ⟨#[64]⟩] w fun e w' => e = .returned (.tuple #[.string (decB n), .bool false]) ∧ w' = w := by
  refine (Tryz.strings_CutPrefix (decB n) ⟨#[64]⟩ w).mono ?_
  rintro e u ⟨rfl, rfl⟩
  have h : Lib.hasPrefix (decB n).data.toList [64] = false := by
    show Lib.hasPrefix (decL n).toArray.toList [64] = false
    rw [List.toList_toArray]
    exact pre_no n
  have h2 : Lib.hasPrefix (decB n).data.toList (⟨#[64]⟩ : ByteArray).data.toList = false := h
  rw [h2, show Lib.trimPrefix (decB n).data.toList (⟨#[64]⟩ : ByteArray).data.toList = (decB n).data.toList from by unfold Lib.trimPrefix; rw [h2]; rfl]
  exact ⟨rfl, rfl⟩
set_option maxRecDepth 100000 in
set_option maxHeartbeats 4000000 in
theorem readOperand_ok (o : Opd) (hf : o.fit) (f : Int × Int × Int × Int) (hb : o.inB f = true) (b : Nat) (w : World) (ht : Tab w) (hw : 1 < w.heap.size) (hbw : b < w.heap.size)
    (hC : ∃ y, w.cell? ⟨b, o.plc, none⟩ = some y) (hZ : w.frozen? ⟨b, o.plc, none⟩ = false) (h0 : -1000000000 ≤ fld o.plc f) (h1 : fld o.plc f ≤ 1000000000) :
    Calls Tryz.prog 55 #[o.val, .string (opdT o f), .pointer (some ⟨b, 0, none⟩)] w fun e w' => e = .returned (.tuple #[.string ⟨#[]⟩, .bool true]) ∧ ∃ u, Below w.heap.size w u ∧ w' = u.setCell ⟨b, o.plc, none⟩ (.int .i64 (fld o.plc f)) := by
  obtain ⟨y, hy⟩ := hC
  have hin := fun u => inB_f o hf f u
  rw [hb] at hin
  unfold opdT
  generalize hv : fld o.plc f = v at *
  clear hv
  have hnum := fun u hu hz => readNumber_ok v h0 h1 u hu hz
  have HT : Hid (Tab w) := ht
  have hca := fun u => cutA v u
  clear ht hb
  generalize decB v = d at *
  cases o with
  | reg s l n =>
    have hta := taR s n l
    have hm := mPlaceR s n l
    have hcl := fun u => cutL l d u
    simp only [Opd.val] at hin ⊢
    generalize hpl : (Opd.reg s l n).plc = q at *
    have hpp := regPlace s n l b
    rw [hpl] at hpp
    go_enter Tryz.func55, Tryz.ntmps55
    go_wp2_with (first | (go_at_call 69; refine Calls.mono (hcl _) ?_; rintro e u1 ⟨rfl, hu1⟩; rw [hu1]; clear hu1 u1) | (go_at_call 71; refine Calls.mono (hnum _ (HT.out.below ((Below.refl _ _).alloc (Nat.le_refl _) _) hw) (by simp; omega)) ?_; rintro e u2 ⟨rfl, hu2⟩) | (go_at_call 42; refine Calls.mono (hin _) ?_; rintro e u3 ⟨rfl, hu3⟩) | (go_at_call 160; refine Calls.mono (hpp _) ?_; rintro e u4 ⟨rfl, hu4⟩; have hB4 : Below w.heap.size w u4 := (bstep (Below.refl _ _) _ hu2).trans ((hu3.trans (hu4.mono hu3.size)).mono (by have := hu2.size; simp at this; omega)); have hc4 := (hB4.cell (p := ⟨b, q, none⟩) hbw).trans hy; have hz4 := (hB4.frozen (p := ⟨b, q, none⟩) hbw).trans hZ))
    go_ret2
    exact ⟨rfl, u4, hB4, rfl⟩
  | imm la lb =>
    have hta := taI la lb
    have hta2 := taII la lb
    have hm := mPlaceI la lb
    have hpp := immPlace la lb b
    simp only [Opd.val] at hin ⊢
    simp only [Opd.plc] at hy hZ ⊢
    go_enter Tryz.func55, Tryz.ntmps55
    go_wp2_with (first | (go_at_call 69; refine Calls.mono (hca _) ?_; rintro e u1 ⟨rfl, hu1⟩; rw [hu1]; clear hu1 u1) | (go_at_call 71; refine Calls.mono (hnum _ (HT.out.below ((Below.refl _ _).alloc (Nat.le_refl _) _) hw) (by simp; omega)) ?_; rintro e u2 ⟨rfl, hu2⟩) | (go_at_call 42; refine Calls.mono (hin _) ?_; rintro e u3 ⟨rfl, hu3⟩) | (go_at_call 157; refine Calls.mono (hpp _) ?_; rintro e u4 ⟨rfl, hu4⟩; have hB4 : Below w.heap.size w u4 := (bstep (Below.refl _ _) _ hu2).trans ((hu3.trans (hu4.mono hu3.size)).mono (by have := hu2.size; simp at this; omega)); have hc4 := (hB4.cell (p := ⟨b, 4, none⟩) hbw).trans hy; have hz4 := (hB4.frozen (p := ⟨b, 4, none⟩) hbw).trans hZ))
    go_ret2
    exact ⟨rfl, u4, hB4, rfl⟩
end Go.Proofs.YtohmejfpebjlaaaGreatDoor
