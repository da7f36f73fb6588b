import Derived.Test.YtohmejfpebjlaaaGreatDoorPTextZ
import Derived.Test.YtohmejfpebjlaaaGreatDoorRdP
import Derived.Test.YtohmejfpebjlaaaGreatDoorPMap
import Derived.Lib.AtoiErrMem
import Derived.Test.YtohmejfpebjlaaaGreatDoorPDecZ
namespace Go.Proofs.YtohmejfpebjlaaaGreatDoor
open Go.ChangeShapes Go.WideShapes Go.ChangeAt Go.RowKit

theorem parse_any (n : Int) (h0 : -1000000000 ≤ n) (h1 : n ≤ 1000000000) (w : World) :
    Calls Tryz.prog 94 #[.string (decB n), .int .i64 10, .int .i64 64] w fun e w' => e = .returned (.tuple #[.int .i64 n, .nilIface]) ∧ Below w.heap.size w w' := by
  have hs := decB_size n (by omega) (by omega)
  refine (Tryz.strconv_ParseInt_10_at64_ok (decB n) (by omega) n ?_ w).mono ?_
  · show Lib.parseIntB 64 (decL n).toArray.toList = _
    rw [List.toList_toArray]
    exact parse_dec n h0 h1
  · rintro e u ⟨rfl, rfl | ⟨t, rfl⟩⟩
    · exact ⟨rfl, Below.refl _ _⟩
    · exact ⟨rfl, Lib.bytesWorld_below _ _ _⟩
set_option maxRecDepth 100000 in
set_option maxHeartbeats 2000000 in
theorem readNumber_ok (n : Int) (h0 : -1000000000 ≤ n) (h1 : n ≤ 1000000000) (w : World) (ht : Tab w) (hw : 1 < w.heap.size) :
    Calls Tryz.prog 71 #[.string (decB n)] w fun e w' => e = .returned (.tuple #[.int .i64 n, .bool true]) ∧ Below w.heap.size w w' := by
  have hp := parse_any n h0 h1 w
  have hf := fun u hu => fmt_any n (by omega) (by omega) u hu
  have HT : Hid (Tab w) := ht
  clear ht
  generalize decB n = d at *
  go_enter Tryz.func71, Tryz.ntmps71
  go_wp2_with (first | (go_at_call 94; refine Calls.mono hp ?_; rintro e u1 ⟨rfl, hu1⟩) | (go_at_call 49; refine Calls.mono (hf _ (HT.out.below hu1 hw)) ?_; rintro e u2 ⟨rfl, hu2⟩))
  go_ret2
  exact ⟨rfl, hu1.trans (hu2.mono hu1.size)⟩
set_option maxRecDepth 100000 in
theorem taII (a b : Int) (w : World) : (Instr.typeAssert (.iface 87 (.agg #[.int .i64 a, .int .i64 b])) 51 87 true).run Tryz.prog w = .ok (.tuple #[.agg #[.int .i64 a, .int .i64 b], .bool true]) w := by kernel_rfl
theorem cutL (l : ByteArray) (d : ByteArray) (w : World) : Calls Tryz.prog 69 #[.string (l ++ d), .string l] w fun e w' => e = .returned (.tuple #[.string d, .bool true]) ∧ w' = w := by
  refine (Tryz.strings_CutPrefix (l ++ d) l w).mono ?_
  rintro e u ⟨rfl, rfl⟩
  rw [app_list, pre_cut, pre_yes]
  exact ⟨rfl, rfl⟩
theorem cutA (n : Int) (w : World) : Calls Tryz.prog 69 #[.string (decB n), .string ⟨#[64]⟩] w fun e w' => e = .returned (.tuple #[.string (decB n), .bool false]) ∧ w' = w := by
  refine (Tryz.strings_CutPrefix (decB n) ⟨#[64]⟩ w).mono ?_
  rintro e u ⟨rfl, rfl⟩
  have h : Lib.hasPrefix (decB n).data.toList [64] = false := by
    show Lib.hasPrefix (decL n).toArray.toList [64] = false
    rw [List.toList_toArray]
    exact pre_no n
  have h2 : Lib.hasPrefix (decB n).data.toList (⟨#[64]⟩ : ByteArray).data.toList = false := h
  rw [h2, show Lib.trimPrefix (decB n).data.toList (⟨#[64]⟩ : ByteArray).data.toList = (decB n).data.toList from by unfold Lib.trimPrefix; rw [h2]; rfl]
  exact ⟨rfl, rfl⟩
set_option maxRecDepth 100000 in
set_option maxHeartbeats 4000000 in
theorem readOperand_ok (o : Opd) (hf : o.fit) (f : Int × Int × Int × Int) (hb : o.inB f = true) (b : Nat) (w : World) (ht : Tab w) (hw : 1 < w.heap.size) (hbw : b < w.heap.size)
    (hC : ∃ y, w.cell? ⟨b, o.plc, none⟩ = some y) (hZ : w.frozen? ⟨b, o.plc, none⟩ = false) (h0 : -1000000000 ≤ fld o.plc f) (h1 : fld o.plc f ≤ 1000000000) :
    Calls Tryz.prog 55 #[o.val, .string (opdT o f), .pointer (some ⟨b, 0, none⟩)] w fun e w' => e = .returned (.tuple #[.string ⟨#[]⟩, .bool true]) ∧ ∃ u, Below w.heap.size w u ∧ w' = u.setCell ⟨b, o.plc, none⟩ (.int .i64 (fld o.plc f)) := by
  obtain ⟨y, hy⟩ := hC
  have hin := fun u => inB_f o hf f u
  rw [hb] at hin
  unfold opdT
  generalize hv : fld o.plc f = v at *
  clear hv
  have hnum := fun u hu hz => readNumber_ok v h0 h1 u hu hz
  have HT : Hid (Tab w) := ht
  have hca := fun u => cutA v u
  clear ht hb
  generalize decB v = d at *
  cases o with
  | reg s l n =>
    have hta := taR s n l
    have hm := mPlaceR s n l
    have hcl := fun u => cutL l d u
    simp only [Opd.val] at hin ⊢
    generalize hpl : (Opd.reg s l n).plc = q at *
    have hpp := regPlace s n l b
    rw [hpl] at hpp
    go_enter Tryz.func55, Tryz.ntmps55
    go_wp2_with (first | (go_at_call 69; refine Calls.mono (hcl _) ?_; rintro e u1 ⟨rfl, hu1⟩; rw [hu1]; clear hu1 u1) | (go_at_call 71; refine Calls.mono (hnum _ (HT.out.below ((Below.refl _ _).alloc (Nat.le_refl _) _) hw) (by simp; omega)) ?_; rintro e u2 ⟨rfl, hu2⟩) | (go_at_call 42; refine Calls.mono (hin _) ?_; rintro e u3 ⟨rfl, hu3⟩) | (go_at_call 160; refine Calls.mono (hpp _) ?_; rintro e u4 ⟨rfl, hu4⟩; have hB4 : Below w.heap.size w u4 := (bstep (Below.refl _ _) _ hu2).trans ((hu3.trans (hu4.mono hu3.size)).mono (by have := hu2.size; simp at this; omega)); have hc4 := (hB4.cell (p := ⟨b, q, none⟩) hbw).trans hy; have hz4 := (hB4.frozen (p := ⟨b, q, none⟩) hbw).trans hZ))
    go_ret2
    exact ⟨rfl, u4, hB4, rfl⟩
  | imm la lb =>
    have hta := taI la lb
    have hta2 := taII la lb
    have hm := mPlaceI la lb
    have hpp := immPlace la lb b
    simp only [Opd.val] at hin ⊢
    simp only [Opd.plc] at hy hZ ⊢
    go_enter Tryz.func55, Tryz.ntmps55
    go_wp2_with (first | (go_at_call 69; refine Calls.mono (hca _) ?_; rintro e u1 ⟨rfl, hu1⟩; rw [hu1]; clear hu1 u1) | (go_at_call 71; refine Calls.mono (hnum _ (HT.out.below ((Below.refl _ _).alloc (Nat.le_refl _) _) hw) (by simp; omega)) ?_; rintro e u2 ⟨rfl, hu2⟩) | (go_at_call 42; refine Calls.mono (hin _) ?_; rintro e u3 ⟨rfl, hu3⟩) | (go_at_call 157; refine Calls.mono (hpp _) ?_; rintro e u4 ⟨rfl, hu4⟩; have hB4 : Below w.heap.size w u4 := (bstep (Below.refl _ _) _ hu2).trans ((hu3.trans (hu4.mono hu3.size)).mono (by have := hu2.size; simp at this; omega)); have hc4 := (hB4.cell (p := ⟨b, 4, none⟩) hbw).trans hy; have hz4 := (hB4.frozen (p := ⟨b, 4, none⟩) hbw).trans hZ))
    go_ret2
    exact ⟨rfl, u4, hB4, rfl⟩
end Go.Proofs.YtohmejfpebjlaaaGreatDoor
namespace Go.Proofs.YtohmejfpebjlaaaGreatDoor
open Go.ChangeShapes Go.WideShapes Go.ChangeAt Go.WideMaps Go.WideElems Go.RowKit Go.Maps

/-- An instruction with its name that lies in a block. -/
def NamAt (w : World) (n : Nat) (x : Int) (f : Int × Int × Int × Int) (s : ByteArray) : Prop :=
  w.heap[n]? = some (.cells #[.int .i64 x, .int .i64 f.1, .int .i64 f.2.1, .int .i64 f.2.2.1, .int .i64 f.2.2.2, .string s] 65 (0, 0))
theorem NamAt.below {B n : Nat} {x : Int} {f : Int × Int × Int × Int} {s : ByteArray} {w w' : World} (h : NamAt w n x f s) (hb : Below B w w') (hn : n < B) : NamAt w' n x f s := (hb.block n hn).trans h
theorem NamAt.cells {n : Nat} {x : Int} {f : Int × Int × Int × Int} {s : ByteArray} {w : World} (h : NamAt w n x f s) : w.cell? ⟨n, 0, none⟩ = some (.int .i64 x) ∧ w.cell? ⟨n, 1, none⟩ = some (.int .i64 f.1) ∧ w.cell? ⟨n, 2, none⟩ = some (.int .i64 f.2.1) ∧ w.cell? ⟨n, 3, none⟩ = some (.int .i64 f.2.2.1) ∧ w.cell? ⟨n, 4, none⟩ = some (.int .i64 f.2.2.2) ∧ w.cell? ⟨n, 5, none⟩ = some (.string s) := by
  unfold NamAt at h
  simp [World.cell?, h]
theorem NamAt.fz {n : Nat} {x : Int} {f : Int × Int × Int × Int} {s : ByteArray} {w : World} (h : NamAt w n x f s) (p : Nat) : w.frozen? ⟨n, p, none⟩ = false := by
  unfold NamAt at h
  simp [World.frozen?, h]
theorem NamAt.some {n : Nat} {x : Int} {f : Int × Int × Int × Int} {s : ByteArray} {w : World} (h : NamAt w n x f s) (p : Nat) (hp : p < 6) : ∃ y, w.cell? ⟨n, p, none⟩ = some y := by
  obtain ⟨c0, c1, c2, c3, c4, c5⟩ := h.cells
  obtain rfl | rfl | rfl | rfl | rfl | rfl : p = 0 ∨ p = 1 ∨ p = 2 ∨ p = 3 ∨ p = 4 ∨ p = 5 := by omega
  · exact ⟨_, c0⟩
  · exact ⟨_, c1⟩
  · exact ⟨_, c2⟩
  · exact ⟨_, c3⟩
  · exact ⟨_, c4⟩
  · exact ⟨_, c5⟩
theorem NamAt.put {n : Nat} {x : Int} {f : Int × Int × Int × Int} {s : ByteArray} {w : World} (h : NamAt w n x f s) (p : Nat) (h1 : 1 ≤ p) (h2 : p ≤ 4) (y : Int) : NamAt (w.setCell ⟨n, p, none⟩ (.int .i64 y)) n x (putF p y f) s := by
  unfold NamAt at h ⊢
  obtain rfl | rfl | rfl | rfl : p = 1 ∨ p = 2 ∨ p = 3 ∨ p = 4 := by omega
  all_goals simp [World.setCell, Array.getElem?_modify, h, putF]
theorem NamAt.other {n m : Nat} {x : Int} {f : Int × Int × Int × Int} {s : ByteArray} {w : World} (h : NamAt w n x f s) (hm : n ≠ m) (p : Nat) (y : Value) : NamAt (w.setCell ⟨m, p, none⟩ y) n x f s := by
  unfold NamAt at h ⊢
  rw [Below.heap_setCell _ _ _ _ hm]
  exact h
/-- What the first operands have put. -/
def gF (l : List Opd) (f : Int × Int × Int × Int) : Int × Int × Int × Int := l.foldl (fun g o => putF o.plc (fld o.plc f) g) (0, 0, 0, 0)
theorem gF_succ (l : List Opd) (f : Int × Int × Int × Int) (j : Nat) (h : j < l.length) : gF (l.take (j + 1)) f = putF l[j].plc (fld l[j].plc f) (gF (l.take j) f) := by
  unfold gF
  rw [List.take_succ_eq_append_getElem h, List.foldl_append]
  rfl
theorem gF_all (op a b c imm : Int) (h : isOk op a b c imm = true) : gF (opsOf op) (a, b, c, imm) = (a, b, c, imm) := by
  obtain ⟨hk0, _⟩ := kOk_b h
  have hk := kd_lt op
  unfold isOk at h
  unfold opsOf
  generalize kd op = k at *
  obtain rfl | rfl | rfl | rfl | rfl | rfl | rfl | rfl : k = 1 ∨ k = 2 ∨ k = 3 ∨ k = 4 ∨ k = 5 ∨ k = 6 ∨ k = 7 ∨ k = 8 := by omega
  case inr.inr.inr.inl =>
    simp [kOk, reg] at h
    obtain ⟨⟨⟨_, rfl⟩, rfl⟩, _⟩ := h
    by_cases h20 : op = 20
    · simp [h20, gF, Opd.plc, putF, fld, rP]
    · simp [h20, gF, Opd.plc, putF, fld, rP]
  all_goals
    simp [kOk, reg] at h
    simp [gF, Opd.plc, putF, fld, rP, vP]
    try omega
theorem inB_all (op a b c imm : Int) (h : isOk op a b c imm = true) : ∀ o ∈ opsOf op, o.inB (a, b, c, imm) = true := by
  have hne : ¬ nm op = ⟨#[]⟩ := by
    intro h2
    have := (kOk_b h).1
    exact this (if_pos h2)
  have h2 := gOk_isOk op a b c imm hne
  rw [h] at h2
  unfold gOk at h2
  rw [Bool.and_eq_true] at h2
  exact List.all_eq_true.1 h2.1
theorem nm_ne (op a b c imm : Int) (h : isOk op a b c imm = true) : nm op ≠ ⟨#[]⟩ := fun h2 => (kOk_b h).1 (if_pos h2)
theorem toArr (x : ByteArray) : (⟨x.data.toList.toArray⟩ : ByteArray) = x := by simp
theorem cutText (x r : ByteArray) (hx : (32 : UInt8) ∉ x.data.toList) (m : Int) (w : World) (hs : x.size ≤ 100) (hr : r.size ≤ 1000) (hm : w.cell? ⟨2, 0, none⟩ = some (.int .i64 m)) :
    Calls Tryz.prog 53 #[.string ⟨(catB [x, ⟨#[32]⟩, r]).toArray⟩, .string ⟨#[32]⟩] w fun e w' => e = .returned (.tuple #[.string x, .string r, .bool true]) ∧ Below w.heap.size w w' := by
  have e : catB [x, ⟨#[32]⟩, r] = x.data.toList ++ 32 :: r.data.toList := by simp [catB]
  rw [e]
  refine (Tryz.strings_Cut _ _ m w ?_ hm).mono ?_
  · rw [size_list]
    simp
    have := size_list x
    have := size_list r
    simp at *
    omega
  · rintro e2 u ⟨rfl, n, rfl⟩
    refine ⟨?_, drewB _ _⟩
    have hc : Lib.cut (⟨(x.data.toList ++ 32 :: r.data.toList).toArray⟩ : ByteArray).data.toList (⟨#[32]⟩ : ByteArray).data.toList = (x.data.toList, r.data.toList, true) := by
      show Lib.cut ((x.data.toList ++ 32 :: r.data.toList).toArray.toList) [32] = _
      rw [List.toList_toArray]
      exact cut_hit _ _ hx
    rw [hc, toArr, toArr]
theorem cutNone (x : ByteArray) (hx : (32 : UInt8) ∉ x.data.toList) (m : Int) (w : World) (hs : x.size ≤ 100) (hm : w.cell? ⟨2, 0, none⟩ = some (.int .i64 m)) :
    Calls Tryz.prog 53 #[.string x, .string ⟨#[32]⟩] w fun e w' => e = .returned (.tuple #[.string x, .string ⟨#[]⟩, .bool false]) ∧ Below w.heap.size w w' := by
  refine (Tryz.strings_Cut _ _ m w (by omega) hm).mono ?_
  rintro e2 u ⟨rfl, n, rfl⟩
  refine ⟨?_, drewB _ _⟩
  have hc : Lib.cut x.data.toList (⟨#[32]⟩ : ByteArray).data.toList = (x.data.toList, [], false) := cut_miss _ hx
  rw [hc, toArr]
theorem splitText (ps : List ByteArray) (h0 : ps ≠ []) (h : ∀ p ∈ ps, (44 : UInt8) ∉ p.data.toList) (hs : (joinB ps).size ≤ 1000) (m : Int) (w : World) (hm : w.cell? ⟨2, 0, none⟩ = some (.int .i64 m)) :
    Calls Tryz.prog 54 #[.string (joinB ps), .string ⟨#[44, 32]⟩] w fun e w' => e = .returned (.slice (some ⟨w.heap.size, 0, none⟩) ps.length ps.length) ∧ w' = w.alloc (.cells (ps.map Value.string).toArray 9) := by
  obtain ⟨h1, h2⟩ := split_join ps h0 h
  refine (Tryz.strings_Split _ _ m w (by omega) hm (by decide)).mono ?_
  rintro e u ⟨rfl, rfl⟩
  rw [h1, h2]
  exact ⟨rfl, rfl⟩
end Go.Proofs.YtohmejfpebjlaaaGreatDoor
namespace Go.Proofs.YtohmejfpebjlaaaGreatDoor
open Go.ChangeShapes Go.WideShapes Go.ChangeAt Go.WideMaps Go.WideElems Go.RowKit Go.Maps

def namV (op a b c imm : Int) (s : ByteArray) : Value := .agg #[.int .i64 op, .int .i64 a, .int .i64 b, .int .i64 c, .int .i64 imm, .string s]
def MaxAt (w : World) : Prop := ∃ m, w.cell? ⟨2, 0, none⟩ = some (.int .i64 m)
theorem MaxAt.below {B : Nat} {w w' : World} (h : MaxAt w) (hb : Below B w w') (hB : 2 < B) : MaxAt w' := by
  obtain ⟨m, h⟩ := h
  exact ⟨m, (hb.cell (p := ⟨2, 0, none⟩) hB).trans h⟩
theorem map_below {w w' : World} {mb n : Nat} {D : DataW Unit} (h : w.ownsMap Tryz.prog 9 (plainElem Tryz.prog 2) mb n D) (hb : Below w.heap.size w w') : w'.ownsMap Tryz.prog 9 (plainElem Tryz.prog 2) mb n D :=
  h.kept (row := none) ⟨hb.os, hb.tape, hb.output, hb.size, fun k hk _ => hb.block k hk⟩ (by simp)
theorem at_op {op c : Int} (h : nm op ≠ ⟨#[]⟩) (hat : (nmD 55).atKey (.string (nm op).data.toList) (.lit (.int .i64 0)) = .lit (.int .i64 c)) : c = op := by
  rw [(nmD_at op h).1] at hat
  simpa using hat.symm
/-- The named struct's place behind its stores. -/
theorem nam_end {wr U : World} {n : Nat} {x a b c d : Int} {f : Int × Int × Int × Int} {s0 s : ByteArray} {y : Int} (h : NamAt wr n y f s0)
    (hU : (((((wr.setCell ⟨n, 0, none⟩ (.int .i64 x)).setCell ⟨n, 1, none⟩ (.int .i64 a)).setCell ⟨n, 2, none⟩ (.int .i64 b)).setCell ⟨n, 3, none⟩ (.int .i64 c)).setCell ⟨n, 4, none⟩ (.int .i64 d)).setCell ⟨n, 5, none⟩ (.string s) = U) : NamAt U n x (a, b, c, d) s := by
  subst hU
  unfold NamAt at h ⊢
  simp [World.setCell, Array.getElem?_modify, h]
set_option maxRecDepth 100000 in
set_option maxHeartbeats 400000 in
theorem readNamed_none (op : Int) (mb : Nat) (w : World) (hne : nm op ≠ ⟨#[]⟩) (hl0 : opsOf op = []) (hm : MaxAt w) (hw : 2 < w.heap.size) (hown : w.ownsMap Tryz.prog 9 (plainElem Tryz.prog 2) mb 55 (nmD 55)) (h0 : -9223372036854775808 ≤ op) (h1 : op ≤ 9223372036854775807) :
    Calls Tryz.prog 32 #[.string (nm op), .map (some mb)] w fun e w' => e = .returned (.tuple #[namV op 0 0 0 0 ⟨#[]⟩, .bool true]) ∧ Below w.heap.size w w' := by
  have hB0 : Below w.heap.size w (w.alloc (.cells #[.int .i64 0, .int .i64 0, .int .i64 0, .int .i64 0, .int .i64 0, .string ⟨#[]⟩] 65)) := (Below.refl _ _).alloc (Nat.le_refl _) _
  obtain ⟨m, hm1⟩ := hm.below hB0 hw
  have hcut := cutNone (nm op) (nm_no32 op) m _ (by have := nm_size op; omega) hm1
  have hops := operandsOf_any op
  have hkey : keyOf Tryz.prog 9 (.string (nm op)) = some (.string (nm op).data.toList) := keyOf_string_mk Tryz.underlying9 (nm_max _)
  have HA : Hid (∀ c, (nmD 55).atKey (.string (nm op).data.toList) (.lit (.int .i64 0)) = .lit (.int .i64 c) → c = op) := fun c h => at_op hne h
  have HH : Hid (Maps.has (nmD 55) (.string (nm op).data.toList) = true) := (nmD_at op hne).2
  have HO : Hid (w.ownsMap Tryz.prog 9 (plainElem Tryz.prog 2) mb 55 (nmD 55)) := hown
  have HB : Hid _ := hB0
  clear hm hm1 hne hown hB0
  generalize nm op = x at *
  go_enter Tryz.func32, Tryz.ntmps32
  go_wp2_with (first | (go_at_call 53; refine Calls.mono hcut ?_; rintro e u1 ⟨rfl, hu1⟩) | (at_lookup; refine wpList_lookup_own_ok_int _ rfl _ _ 68 rfl 9 2 .i64 lawS Tryz.underlying68 Tryz.underlying2 (zero64 _) mb 55 _ rfl (map_below (map_below HO.out HB.out) hu1) _ _ rfl hkey ?_; intro c hat hwc; obtain rfl := HA.out c hat; rw [HH.out]; clear hat hwc) | (go_at_call 23; refine Calls.mono (hops _ h0 h1) ?_; rintro e u2 ⟨v, rfl, hrow, hu2⟩; rw [hl0] at hrow; obtain ⟨p, cap, rfl⟩ := slice_any hrow; have hz1 : w.heap.size < u1.heap.size := (by have := hu1.size; simp at this; omega); have hz2 : w.heap.size < u2.heap.size := (by have := hu2.size; omega); have hR : NamAt u2 w.heap.size 0 (0, 0, 0, 0) ⟨#[]⟩ := NamAt.below (NamAt.below (heap_new _ _) hu1 (by simp)) hu2 hz1; obtain ⟨s0, s1, s2, s3, s4, s5⟩ := NamAt.cells hR; have hzR := NamAt.fz hR; have HR : Hid (NamAt u2 w.heap.size 0 (0, 0, 0, 0) ⟨#[]⟩) := hR; clear hR))
  generalize hU : (((((u2.setCell _ _).setCell _ _).setCell _ _).setCell _ _).setCell _ _).setCell _ _ = U
  have hsz : U.heap.size = u2.heap.size := by rw [← hU]; simp
  have hfin0 := nam_end HR.out hU
  have hfin := NamAt.below hfin0 ((Below.refl U.heap.size U).alloc (Nat.le_refl _) (.cells #[.int .i64 c, .int .i64 0, .int .i64 0, .int .i64 0, .int .i64 0, .string ⟨#[]⟩] 65)) (by omega)
  obtain ⟨f0, f1, f2, f3, f4, f5⟩ := NamAt.cells hfin
  clear hfin hfin0
  refine bodyPost_ret (v := .tuple #[namV c 0 0 0 0 ⟨#[]⟩, .bool true]) (by simp [results, Tryz.results32, go_sem, namV, f0, f1, f2, f3, f4, f5]) rfl ⟨rfl, ?_⟩
  have hb2 : Below w.heap.size w u2 := (HB.out.trans (hu1.mono (by simp))).trans (hu2.mono (by omega))
  refine Below.alloc ?_ (by omega) _
  rw [← hU]
  iterate 6 (refine Below.setCell ?_ (by simp) _)
  exact hb2
end Go.Proofs.YtohmejfpebjlaaaGreatDoor
namespace Go.Proofs.YtohmejfpebjlaaaGreatDoor
open Go.ChangeShapes Go.WideShapes Go.ChangeAt Go.WideMaps Go.WideElems Go.RowKit Go.Maps

/-- What the loop over the operands keeps. -/
structure RN (w wr : World) (op : Int) (f : Int × Int × Int × Int) (l : List Opd) (g B j : Nat) : Prop where
  res : NamAt wr w.heap.size 0 (0, 0, 0, 0) ⟨#[]⟩
  box : NamAt wr B op (gF (l.take j) f) ⟨#[]⟩
  row : ∀ k (h : k < l.length), wr.cell? ⟨g, k, none⟩ = some l[k].val
  txt : ∀ k (h : k < l.length), wr.cell? ⟨B + 1, k, none⟩ = some (.string (opdT l[k] f))
  bel : Below w.heap.size w wr
  RB : w.heap.size < B
  gB : g < B
  lt : B + 1 < wr.heap.size
theorem RN.next {w wr u : World} {op : Int} {f : Int × Int × Int × Int} {l : List Opd} {g B j : Nat} (h : RN w wr op f l g B j) (hu : Below wr.heap.size wr u) (hj : j < l.length) (p : Nat) (hp : l[j].plc = p) (y : Int) (hy : fld l[j].plc f = y) :
    RN w (u.setCell ⟨B, p, none⟩ (.int .i64 y)) op f l g B (j + 1) := by
  subst hp hy
  have hlt := h.lt
  have hRB := h.RB
  have hgB := h.gB
  refine ⟨(h.res.below hu (by omega)).other (by omega) _ _, ?_, fun k hk => ?_, fun k hk => ?_, (h.bel.trans (hu.mono (by omega))).setCell (by simp; omega) _, hRB, hgB, by have := hu.size; simp; omega⟩
  · rw [gF_succ l f j hj]
    exact (h.box.below hu (by omega)).put _ (plc_b _).1 (plc_b _).2 _
  · rw [World.cell?_setCell_other _ _ _ _ (by simp <;> omega), hu.cell (p := ⟨g, k, none⟩) (by simp; omega)]
    exact h.row k hk
  · rw [World.cell?_setCell_other _ _ _ _ (by simp <;> omega), hu.cell (p := ⟨B + 1, k, none⟩) (by simp; omega)]
    exact h.txt k hk
set_option maxRecDepth 100000 in
set_option maxHeartbeats 2000000 in
theorem readNamed_some (op a b c imm : Int) (mb : Nat) (w : World) (hok : isOk op a b c imm = true) (hl0 : opsOf op ≠ []) (hm : MaxAt w) (hw : 2 < w.heap.size) (ht : Tab w) (hw1 : 1 < w.heap.size) (hown : w.ownsMap Tryz.prog 9 (plainElem Tryz.prog 2) mb 55 (nmD 55)) :
    Calls Tryz.prog 32 #[.string ⟨(catB [nm op, ⟨#[32]⟩, joinB (pts (opsOf op) (a, b, c, imm))]).toArray⟩, .map (some mb)] w fun e w' => e = .returned (.tuple #[namV op a b c imm ⟨#[]⟩, .bool true]) ∧ Below w.heap.size w w' := by
  obtain ⟨bo, ba, bb, bc, bi⟩ := isOk_b hok
  have hne := nm_ne op a b c imm hok
  have hgf := gF_all op a b c imm hok
  have hin := inB_all op a b c imm hok
  have hB0 : Below w.heap.size w (w.alloc (.cells #[.int .i64 0, .int .i64 0, .int .i64 0, .int .i64 0, .int .i64 0, .string ⟨#[]⟩] 65)) := (Below.refl _ _).alloc (Nat.le_refl _) _
  have hfb := fun p => fld_bd (lo := -1000000000) (hi := 1000000000) p (a := a) (b := b) (c := c) (i := imm) (by omega) (by omega) (by omega) (by omega)
  have hfit := opsOf_fit op
  have hlet := opsOf_let op
  have hltr := opsOf_ltr op
  have hlen := opsOf_len op
  have hops := fun w => operandsOf_any op w (by omega) (by omega)
  unfold OpR at hops
  generalize opsOf op = l at *
  have hsz : (joinB (pts l (a, b, c, imm))).size ≤ 200 := joinB_size _ (by rw [pts_len]; exact hlen) (by
    intro p hp
    simp only [pts, List.mem_map] at hp
    obtain ⟨o, ho, rfl⟩ := hp
    exact opdT_size o (hlet o ho) _ (by have := hfb o.plc; omega) (by have := hfb o.plc; omega))
  obtain ⟨m, hm1⟩ := hm.below hB0 hw
  have hcut := cutText (nm op) (joinB (pts l (a, b, c, imm))) (nm_no32 op) m _ (by have := nm_size op; omega) (by omega) hm1
  have hspl := fun u m hu => splitText (pts l (a, b, c, imm)) (by cases l with | nil => exact absurd rfl hl0 | cons o l => simp [pts]) (by
    intro p hp
    simp only [pts, List.mem_map] at hp
    obtain ⟨o, ho, rfl⟩ := hp
    exact opdT_no44 o (hltr o ho) _) (by omega) m u hu
  rw [pts_len] at hspl
  have hpos : 0 < l.length := List.length_pos_iff.2 hl0
  have hkey : keyOf Tryz.prog 9 (.string (nm op)) = some (.string (nm op).data.toList) := keyOf_string_mk Tryz.underlying9 (nm_max _)
  have HA : Hid (∀ c, (nmD 55).atKey (.string (nm op).data.toList) (.lit (.int .i64 0)) = .lit (.int .i64 c) → c = op) := fun c h => at_op hne h
  have HH : Hid (Maps.has (nmD 55) (.string (nm op).data.toList) = true) := (nmD_at op hne).2
  have HO : Hid (w.ownsMap Tryz.prog 9 (plainElem Tryz.prog 2) mb 55 (nmD 55)) := hown
  have HM : Hid (MaxAt w) := hm
  have HT : Hid (Tab w) := ht
  have HB : Hid _ := hB0
  have HF : Hid ((∀ o ∈ l, o.fit) ∧ (∀ o ∈ l, o.inB (a, b, c, imm) = true) ∧ (∀ p, -1000000000 ≤ fld p (a, b, c, imm) ∧ fld p (a, b, c, imm) ≤ 1000000000) ∧ gF l (a, b, c, imm) = (a, b, c, imm)) := ⟨hfit, hin, hfb, hgf⟩
  have HP : Hid (∀ k (h : k < l.length), ((pts l (a, b, c, imm)).map Value.string).toArray[k]? = some (.string (opdT l[k] (a, b, c, imm)))) := by
    intro k h
    simp [pts, h]
  clear hm hm1 hne hown hB0 hok ht hfit hlet hltr hin hfb hgf hl0 hsz
  generalize nm op = x at *
  generalize joinB (pts l (a, b, c, imm)) = J at *
  generalize (catB [x, ⟨#[32]⟩, J]) = T at *
  generalize hA : ((pts l (a, b, c, imm)).map Value.string).toArray = A at *
  clear hA
  go_enter Tryz.func32, Tryz.ntmps32
  go_wp2_with (first | (go_at_call 53; refine Calls.mono hcut ?_; rintro e u1 ⟨rfl, hu1⟩) | (at_lookup; refine wpList_lookup_own_ok_int _ rfl _ _ 68 rfl 9 2 .i64 lawS Tryz.underlying68 Tryz.underlying2 (zero64 _) mb 55 _ rfl (map_below (map_below HO.out HB.out) hu1) _ _ rfl hkey ?_; intro q hat hwc; obtain rfl := HA.out q hat; rw [HH.out]; clear hat hwc) | (go_at_call 23; refine Calls.mono (hops _) ?_; rintro e u2 ⟨v, rfl, hrow, hu2⟩; obtain ⟨p, cap, rfl⟩ := slice_any hrow; have hb2 : Below w.heap.size w u2 := (HB.out.trans (hu1.mono (by simp))).trans (hu2.mono (by have := hu1.size; simp at this; omega))) | (go_at_call 54; obtain ⟨m2, hm2⟩ := (HM.out.below hb2 hw).below (B := u2.heap.size) ((Below.refl _ _).alloc (Nat.le_refl _) (.cells #[.int .i64 q, .int .i64 0, .int .i64 0, .int .i64 0, .int .i64 0, .string ⟨#[]⟩] 65)) (by have := hb2.size; omega); refine Calls.mono (hspl _ m2 hm2) ?_; rintro e u3 ⟨rfl, rfl⟩))
  obtain ⟨g, cap', hpe, hg0, hg1⟩ := hrow.form hpos
  cases hpe
  have hz1 : w.heap.size < u1.heap.size := by have := hu1.size; simp at this; omega
  have hz2 : w.heap.size < u2.heap.size := by have := hu2.size; omega
  have hba : Below u2.heap.size u2 ((u2.alloc (.cells #[.int .i64 q, .int .i64 0, .int .i64 0, .int .i64 0, .int .i64 0, .string ⟨#[]⟩] 65)).alloc (.cells A 9)) := ((Below.refl _ _).alloc (Nat.le_refl _) _).alloc (by simp) _
  have hrn : RN w ((u2.alloc (.cells #[.int .i64 q, .int .i64 0, .int .i64 0, .int .i64 0, .int .i64 0, .string ⟨#[]⟩] 65)).alloc (.cells A 9)) q (a, b, c, imm) l g u2.heap.size 0 := by
    refine ⟨NamAt.below (NamAt.below (NamAt.below (heap_new _ _) hu1 (by simp)) hu2 hz1) hba hz2, ?_, fun k hk => ?_, fun k hk => ?_, hb2.trans (hba.mono (by omega)), hz2, hg1, by simp⟩
    · exact (Below.heap_alloc _ _ _ (by simp)).trans (heap_new _ _)
    · rw [hba.cell (p := ⟨g, k, none⟩) hg1]
      exact (hrow.cellAt k (by omega)).trans (by simp [hk])
    · have hh : ((u2.alloc (.cells #[.int .i64 q, .int .i64 0, .int .i64 0, .int .i64 0, .int .i64 0, .string ⟨#[]⟩] 65)).alloc (.cells A 9)).heap[u2.heap.size + 1]? = some (.cells A 9 (0, 0)) := (congrArg (fun k => (World.heap _)[k]?) (by simp)).trans (heap_new (u2.alloc (.cells #[.int .i64 q, .int .i64 0, .int .i64 0, .int .i64 0, .int .i64 0, .string ⟨#[]⟩] 65)) _)
      have := HP.out k hk
      simp only [World.cell?, hh]
      exact this
  clear hba hz1 hz2 hrow hu1 hu2 hb2 hspl hops hcut hkey
  have hBB : u2.heap.size + 1 < ((u2.alloc (.cells #[.int .i64 q, .int .i64 0, .int .i64 0, .int .i64 0, .int .i64 0, .string ⟨#[]⟩] 65)).alloc (.cells A 9)).heap.size := hrn.lt
  generalize ((u2.alloc (.cells #[.int .i64 q, .int .i64 0, .int .i64 0, .int .i64 0, .int .i64 0, .string ⟨#[]⟩] 65)).alloc (.cells A 9)) = V at *
  generalize u2.heap.size = B at *
  go_loopw [58] (fun i wr => ∃ j : Nat, j ≤ l.length ∧ i = .int .i64 j ∧ RN w wr q (a, b, c, imm) l g B j) (fun i _ => l.length - (intOf i).toNat)
  case atStart => exact ⟨0, Nat.zero_le _, rfl, hrn⟩
  case round =>
    obtain ⟨j, hj, rfl, hp⟩ := hrel
    clear hrn
    by_cases hjl : j < l.length
    · have hcr := hp.row j hjl
      have hct := hp.txt j hjl
      have hsz := hp.lt
      have hbel := hp.bel
      have hro := readOperand_ok l[j] (HF.out.1 _ (List.getElem_mem hjl)) (a, b, c, imm) (HF.out.2.1 _ (List.getElem_mem hjl)) B wr (HT.out.below hbel hw1) (by have := hbel.size; omega) (by omega) (NamAt.some hp.box _ (by have := (plc_b l[j]).2; omega)) (NamAt.fz hp.box _) (HF.out.2.2.1 _).1 (HF.out.2.2.1 _).2
      have HRN : Hid (RN w wr q (a, b, c, imm) l g B j) := hp
      clear hp hbel
      generalize hol : l[j] = o at *
      have HOL : Hid (l[j] = o) := hol
      clear hol
      generalize o.val = ov at *
      generalize opdT o (a, b, c, imm) = ot at *
      go_wp2_with (go_at_call 55; refine Calls.mono hro ?_; rintro e u4 ⟨rfl, u, hu, rfl⟩; replace HRN : Hid _ := HRN.out.next hu hjl _ (by rw [HOL.out]) _ (by rw [HOL.out]))
      go_roundw
      case rel => exact ⟨j + 1, by omega, by go_num, HRN.out⟩
      case measure => simp [intOf]; omega
    · obtain rfl : j = l.length := by omega
      have hbox := hp.box
      rw [List.take_length, HF.out.2.2.2] at hbox
      have hRB := hp.RB
      have hres := hp.res
      have hsz := hp.lt
      have HBL : Hid (Below w.heap.size w wr) := hp.bel
      obtain ⟨c0, c1, c2, c3, c4, c5⟩ := NamAt.cells hbox
      obtain ⟨s0, s1, s2, s3, s4, s5⟩ := NamAt.cells hres
      have hzR := NamAt.fz hres
      have HR : Hid (NamAt wr w.heap.size 0 (0, 0, 0, 0) ⟨#[]⟩) := hres
      clear hp hbox hres
      simp only [] at c1 c2 c3 c4
      go_wp2
      generalize hU : (((((wr.setCell _ _).setCell _ _).setCell _ _).setCell _ _).setCell _ _).setCell _ _ = U
      have hfin := nam_end HR.out hU
      obtain ⟨f0, f1, f2, f3, f4, f5⟩ := NamAt.cells hfin
      clear hfin
      refine bodyPost_ret (v := .tuple #[namV q a b c imm ⟨#[]⟩, .bool true]) (by simp [results, Tryz.results32, go_sem, namV, f0, f1, f2, f3, f4, f5]) rfl ⟨rfl, ?_⟩
      rw [← hU]
      iterate 6 (refine Below.setCell ?_ (by simp) _)
      exact HBL.out
end Go.Proofs.YtohmejfpebjlaaaGreatDoor
namespace Go.Proofs.YtohmejfpebjlaaaGreatDoor
open Go.ChangeShapes Go.WideShapes Go.ChangeAt Go.WideMaps Go.WideElems Go.RowKit Go.Maps

theorem text_size (op a b c imm : Int) (hok : isOk op a b c imm = true) : (txt op a b c imm ⟨#[]⟩).size ≤ 1000 := by
  obtain ⟨bo, ba, bb, bc, bi⟩ := isOk_b hok
  have hn := nm_size op
  rw [txt_join op a b c imm hok]
  split
  · omega
  · have hfb := fun p => fld_bd (lo := -1000000000) (hi := 1000000000) p (a := a) (b := b) (c := c) (i := imm) (by omega) (by omega) (by omega) (by omega)
    have hsz : (joinB (pts (opsOf op) (a, b, c, imm))).size ≤ 200 := joinB_size _ (by rw [pts_len]; exact opsOf_len op) (by
      intro p hp
      simp only [pts, List.mem_map] at hp
      obtain ⟨o, ho, rfl⟩ := hp
      exact opdT_size o (opsOf_let op o ho) _ (by have := hfb o.plc; omega) (by have := hfb o.plc; omega))
    rw [size_list]
    have h1 := size_list (nm op)
    have h2 := size_list (joinB (pts (opsOf op) (a, b, c, imm)))
    simp [catB] at *
    omega
theorem readNamed_ok (op a b c imm : Int) (mb : Nat) (w : World) (hok : isOk op a b c imm = true) (hm : MaxAt w) (hw : 2 < w.heap.size) (ht : Tab w) (hw1 : 1 < w.heap.size) (hown : w.ownsMap Tryz.prog 9 (plainElem Tryz.prog 2) mb 55 (nmD 55)) :
    Calls Tryz.prog 32 #[.string (txt op a b c imm ⟨#[]⟩), .map (some mb)] w fun e w' => e = .returned (.tuple #[namV op a b c imm ⟨#[]⟩, .bool true]) ∧ Below w.heap.size w w' := by
  obtain ⟨bo, _⟩ := isOk_b hok
  rw [txt_join op a b c imm hok]
  by_cases hl : (opsOf op).length = 0
  · rw [if_pos hl]
    have hg := gF_all op a b c imm hok
    have hnil : opsOf op = [] := List.length_eq_zero_iff.1 hl
    rw [hnil] at hg
    have e : ((0 : Int), (0 : Int), (0 : Int), (0 : Int)) = (a, b, c, imm) := hg
    simp only [Prod.mk.injEq] at e
    obtain ⟨rfl, rfl, rfl, rfl⟩ := e
    exact readNamed_none op mb w (nm_ne _ _ _ _ _ hok) hnil hm hw hown (by omega) (by omega)
  · rw [if_neg hl]
    exact readNamed_some op a b c imm mb w hok (fun h => hl (by rw [h]; rfl)) hm hw ht hw1 hown
set_option maxRecDepth 100000 in
set_option maxHeartbeats 1000000 in
theorem readInstr_ok (op a b c imm : Int) (w : World) (hok : isOk op a b c imm = true) (hnb : NamesB w) (hm : MaxAt w) (hw : 2 < w.heap.size) (ht : Tab w) (hw1 : 1 < w.heap.size) (hw0 : 0 < w.heap.size) :
    Calls Tryz.prog 10 #[.string (txt op a b c imm ⟨#[]⟩)] w fun e w' => e = .returned (rdV true op a b c imm) ∧ Below w.heap.size w w' := by
  have hB0 : Below w.heap.size w (w.alloc (.cells #[.bool false, .int .i64 0, .int .i64 0, .int .i64 0, .int .i64 0, .int .i64 0] 29)) := (Below.refl _ _).alloc (Nat.le_refl _) _
  have hts := text_size op a b c imm hok
  have hby := opsByName_any _ (hnb.below hB0 hw0) (by simp)
  have hbk : (w.alloc (.cells #[.bool false, .int .i64 0, .int .i64 0, .int .i64 0, .int .i64 0, .int .i64 0] 29)).heap.size = w.heap.size + 1 := by simp
  rw [hbk] at hby
  clear hbk
  have hrd := fun mb u h1 h2 h3 h4 h5 => readNamed_ok op a b c imm mb u hok h1 h2 h3 h4 h5
  have HC : Hid (NamesB w ∧ MaxAt w ∧ Tab w) := ⟨hnb, hm, ht⟩
  clear hnb hm ht hok hB0
  generalize txt op a b c imm ⟨#[]⟩ = t at *
  go_enter Tryz.func10, Tryz.ntmps10
  go_wp2_with (first | (go_at_call 33; refine Calls.mono hby ?_; rintro e u1 ⟨rfl, hmap, hu1⟩; have hb1 : Below w.heap.size w u1 := ((Below.refl _ _).alloc (Nat.le_refl _) _).trans (hu1.mono (by omega)); have hs1 : w.heap.size < u1.heap.size := (by have := hu1.size; simp at this; omega)) | (go_at_call 32; refine Calls.mono (hrd (w.heap.size + 1) _ (HC.out.2.1.below hb1 hw) (by have := hb1.size; omega) (HC.out.2.2.below hb1 hw1) (by have := hb1.size; omega) hmap) ?_; rintro e u2 ⟨rfl, hu2⟩; unfold namV; have hz1 := hs1; have hz2 : w.heap.size < u2.heap.size := (by have := hu2.size; omega); have hR : u2.heap[w.heap.size]? = some (.cells #[.bool false, .int .i64 0, .int .i64 0, .int .i64 0, .int .i64 0, .int .i64 0] 29 (0, 0)) := ((hu2.block _ hz1).trans ((hu1.block _ (by omega)).trans (heap_new _ _))); obtain ⟨r0, r1, r2, r3, r4, r5, hZ, hx⟩ := res_cells hR; clear hR) | go_in)
  generalize hU : (((((u2.setCell _ _).setCell _ _).setCell _ _).setCell _ _).setCell _ _).setCell _ _ = U
  have hsz : U.heap.size = u2.heap.size := by rw [← hU]; simp
  obtain ⟨f0, f1, f2, f3, f4, f5⟩ := six _ _ _ _ _ _ hx hU
  have hA : ∀ k, (U.alloc (.cells #[.int .i64 op, .int .i64 a, .int .i64 b, .int .i64 c, .int .i64 imm, .string ⟨#[]⟩] 65)).cell? ⟨w.heap.size, k, none⟩ = U.cell? ⟨w.heap.size, k, none⟩ := fun k => ((Below.refl U.heap.size U).alloc (Nat.le_refl _) _).cell (p := ⟨w.heap.size, k, none⟩) (by show w.heap.size < U.heap.size; omega)
  have g0 := (hA 0).trans f0
  have g1 := (hA 1).trans f1
  have g2 := (hA 2).trans f2
  have g3 := (hA 3).trans f3
  have g4 := (hA 4).trans f4
  have g5 := (hA 5).trans f5
  clear hA f0 f1 f2 f3 f4 f5
  refine bodyPost_ret (v := rdV true op a b c imm) (by simp [results, Tryz.results10, go_sem, rdV, g0, g1, g2, g3, g4, g5]) rfl ⟨rfl, ?_⟩
  refine Below.alloc ?_ (by omega) _
  rw [← hU]
  iterate 6 (refine Below.setCell ?_ (by simp) _)
  exact hb1.trans (hu2.mono (by omega))
theorem dec_enc (op a b c imm : Int) (hok : isOk op a b c imm = true) : decV (encV op a b c imm) = rdV true op a b c imm := by
  obtain ⟨bo, ba, bb, bc, bi⟩ := isOk_b hok
  obtain ⟨hk0, _⟩ := kOk_b hok
  have hk := kd_lt op
  have hkd : kd op = kd2 op := by
    unfold kd at hk0 ⊢
    split at hk0
    · exact absurd rfl hk0
    · rw [if_neg (by assumption)]
  have h4 : kd op = 4 → op = 20 ∨ op = 36 := fun h5 => kd2_4 op (hkd.symm.trans h5)
  have hn : encV op a b c imm = if kd op = 4 then op * 16777216 + a * 1048576 + imm % 1048576 else op * 16777216 + a * 1048576 + b * 65536 + c * 4096 + imm % 4096 := if_pos hok
  have hw : isW (encV op a b c imm) = true := by
    rw [hn]
    simp only [isW]
    split <;> simp <;> omega
  have ho : fz (encV op a b c imm) 24 8 = op := by
    rw [hn]; unfold fz; simp only [Int.reducePow]; split <;> omega
  have ha : fz (encV op a b c imm) 20 4 = a := by
    rw [hn]; unfold fz; simp only [Int.reducePow]; split <;> omega
  have hd : dB (encV op a b c imm) = b ∧ dC (encV op a b c imm) = c ∧ dI (encV op a b c imm) = imm := by
    unfold dB dC dI dOp
    rw [ho, hn]
    unfold isOk at hok
    by_cases hk4 : kd op = 4
    · rw [if_pos hk4, if_pos hk4, if_pos hk4, if_pos hk4]
      rw [hk4] at hok
      rcases h4 hk4 with rfl | rfl
      · simp [kOk, reg, immOk] at hok
        simp [fz]
        omega
      · simp [kOk, reg, immOk] at hok
        simp only [if_true]
        have hs := sg20 (fz (36 * 16777216 + a * 1048576 + imm % 1048576) 0 20) (fz_b _ _ _).1 (by have := (fz_b (36 * 16777216 + a * 1048576 + imm % 1048576) 0 20).2; simpa using this)
        have hf : fz (36 * 16777216 + a * 1048576 + imm % 1048576) 0 20 = imm % 1048576 := by unfold fz; simp only [Int.reducePow]; omega
        rw [hf] at hs ⊢
        omega
    · rw [if_neg hk4, if_neg hk4, if_neg hk4, if_neg hk4]
      have n20 : ¬ op = 20 := by rintro rfl; exact hk4 (by decide +kernel)
      have n36 : ¬ op = 36 := by rintro rfl; exact hk4 (by decide +kernel)
      have him : -2048 ≤ imm ∧ imm ≤ 2047 := by
        generalize kd op = k at *
        obtain rfl | rfl | rfl | rfl | rfl | rfl | rfl : k = 1 ∨ k = 2 ∨ k = 3 ∨ k = 5 ∨ k = 6 ∨ k = 7 ∨ k = 8 := by omega
        all_goals
          simp [kOk, reg, immOk, n20, n36] at hok
          omega
      have hs := sg12 (fz (op * 16777216 + a * 1048576 + b * 65536 + c * 4096 + imm % 4096) 0 12) (fz_b _ _ _).1 (by have := (fz_b (op * 16777216 + a * 1048576 + b * 65536 + c * 4096 + imm % 4096) 0 12).2; simpa using this)
      have hf : fz (op * 16777216 + a * 1048576 + b * 65536 + c * 4096 + imm % 4096) 0 12 = imm % 4096 := by unfold fz; simp only [Int.reducePow]; omega
      have hfb : fz (op * 16777216 + a * 1048576 + b * 65536 + c * 4096 + imm % 4096) 16 4 = b := by unfold fz; simp only [Int.reducePow]; omega
      have hfc : fz (op * 16777216 + a * 1048576 + b * 65536 + c * 4096 + imm % 4096) 12 4 = c := by unfold fz; simp only [Int.reducePow]; omega
      rw [hf] at hs
      rw [hf, hfb, hfc]
      omega
  obtain ⟨d1, d2, d3⟩ := hd
  rw [decV_at _ b c imm hw d1 d2 d3, ho, ha, if_pos hok]
end Go.Proofs.YtohmejfpebjlaaaGreatDoor
