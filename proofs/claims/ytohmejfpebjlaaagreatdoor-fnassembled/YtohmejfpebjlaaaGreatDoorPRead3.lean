import Derived.Test.YtohmejfpebjlaaaGreatDoorPRead2
namespace Go.Proofs.YtohmejfpebjlaaaGreatDoor
open Go.ChangeShapes Go.WideShapes Go.ChangeAt Go.WideMaps Go.WideElems Go.RowKit Go.Maps

def namV (op a b c imm : Int) (s : ByteArray) : Value := .agg #[.int .i64 op, .int .i64 a, .int .i64 b, .int .i64 c, .int .i64 imm, .string s]
def MaxAt (w : World) : Prop := ∃ m, w.cell? ⟨2, 0, none⟩ = some (.int .i64 m)
theorem MaxAt.below {B : Nat} {w w' : World} (h : MaxAt w) (hb : Below B w w') (hB : 2 < B) : MaxAt w' := by
  obtain ⟨m, h⟩ := h
  exact ⟨m, (hb.cell (p := ⟨2, 0, none⟩) hB).trans h⟩
theorem map_below {w w' : World} {mb n : Nat} {D : DataW Unit} (h : w.ownsMap Tryz.prog 9 (plainElem Tryz.prog 2) mb n D) (hb : Below w.heap.size w w') : w'.ownsMap Tryz.prog 9 (plainElem Tryz.prog 2) mb n D :=
  h.kept (row := none) ⟨hb.os, hb.tape, hb.output, hb.size, fun k hk _ => hb.block k hk⟩ (by simp)
theorem at_op {op c : Int} (h : nm op ≠ ⟨#[]⟩) (hat : (nmD 55).atKey (.string (nm op).data.toList) (.lit (.int .i64 0)) = .lit (.int .i64 c)) : c = op := by
  rw [(nmD_at op h).1] at hat
  simpa using hat.symm
/-- The named struct's place behind its stores. -/
theorem nam_end {wr U : World} {n : Nat} {x a b c d : Int} {f : Int × Int × Int × Int} {s0 s : ByteArray} {y : Int} (h : NamAt wr n y f s0)
    (hU : (((((wr.setCell ⟨n, 0, none⟩ (.int .i64 x)).setCell ⟨n, 1, none⟩ (.int .i64 a)).setCell ⟨n, 2, none⟩ (.int .i64 b)).setCell ⟨n, 3, none⟩ (.int .i64 c)).setCell ⟨n, 4, none⟩ (.int .i64 d)).setCell ⟨n, 5, none⟩ (.string s) = U) : NamAt U n x (a, b, c, d) s := by
  subst hU
  unfold NamAt at h ⊢
  simp [World.setCell, Array.getElem?_modify, h]
set_option maxRecDepth 100000 in
set_option maxHeartbeats 400000 in
theorem readNamed_none (op : Int) (mb : Nat) (w : World) (hne : nm op ≠ ⟨#[]⟩) (hl0 : opsOf op = []) (hm : MaxAt w) (hw : 2 < w.heap.size) (hown : w.ownsMap Tryz.prog 9 (plainElem Tryz.prog 2) mb 55 (nmD 55)) (h0 : -9223372036854775808 ≤ op) (h1 : op ≤ 9223372036854775807) :
    Calls Tryz.prog 32 #[.string (nm op), .map (some mb)] w fun e w' => e = .returned (.tuple #[namV op 0 0 0 0 ⟨#[]⟩, .bool true]) ∧ Below w.heap.size w w' := by
  have hB0 : Below w.heap.size w (w.alloc (.cells #[.int .i64 0, .int .i64 0, .int .i64 0, .int .i64 0, .int .i64 0, .string ⟨#[]⟩] 65)) := (Below.refl _ _).alloc (Nat.le_refl _) _
  obtain ⟨m, hm1⟩ := hm.below hB0 hw
  have hcut := cutNone (nm op) (nm_no32 op) m _ (by have := nm_size op; omega) hm1
  have hops := operandsOf_any op
  have hkey : keyOf Tryz.prog 9 (.string (nm op)) = some (.string (nm op).data.toList) := keyOf_string_mk Tryz.underlying9 (nm_max _)
  have HA : Hid (∀ c, (nmD 55).atKey (.string (nm op).data.toList) (.lit (.int .i64 0)) = .lit (.int .i64 c) → c = op) := fun c h => at_op hne h
  have HH : Hid (Maps.has (nmD 55) (.string (nm op).data.toList) = true) := (nmD_at op hne).2
  have HO : Hid (w.ownsMap Tryz.prog 9 (plainElem Tryz.prog 2) mb 55 (nmD 55)) := hown
  have HB : Hid _ := hB0
  clear hm hm1 hne hown hB0
  generalize nm op = x at *
  go_enter Tryz.func32, Tryz.ntmps32
  go_wp2_with (first | (go_at_call 53; refine Calls.mono hcut ?_; rintro e u1 ⟨rfl, hu1⟩) | (at_lookup; refine wpList_lookup_own_ok_int _ rfl _ _ 68 rfl 9 2 .i64 lawS Tryz.underlying68 Tryz.underlying2 (zero64 _) mb 55 _ rfl (map_below (map_below HO.out HB.out) hu1) _ _ rfl hkey ?_; intro c hat hwc; obtain rfl := HA.out c hat; rw [HH.out]; clear hat hwc) | (go_at_call 23; refine Calls.mono (hops _ h0 h1) ?_; rintro e u2 ⟨v, rfl, hrow, hu2⟩; rw [hl0] at hrow; obtain ⟨p, cap, rfl⟩ := slice_any hrow; have hz1 : w.heap.size < u1.heap.size := (by have := hu1.size; simp at this; omega); have hz2 : w.heap.size < u2.heap.size := (by have := hu2.size; omega); have hR : NamAt u2 w.heap.size 0 (0, 0, 0, 0) ⟨#[]⟩ := NamAt.below (NamAt.below (heap_new _ _) hu1 (by simp)) hu2 hz1; obtain ⟨s0, s1, s2, s3, s4, s5⟩ := NamAt.cells hR; have hzR := NamAt.fz hR; have HR : Hid (NamAt u2 w.heap.size 0 (0, 0, 0, 0) ⟨#[]⟩) := hR; clear hR))
  generalize hU : (((((u2.setCell _ _).setCell _ _).setCell _ _).setCell _ _).setCell _ _).setCell _ _ = U
  have hsz : U.heap.size = u2.heap.size := by rw [← hU]; simp
  have hfin0 := nam_end HR.out hU
  have hfin := NamAt.below hfin0 ((Below.refl U.heap.size U).alloc (Nat.le_refl _) (.cells #[.int .i64 c, .int .i64 0, .int .i64 0, .int .i64 0, .int .i64 0, .string ⟨#[]⟩] 65)) (by omega)
  obtain ⟨f0, f1, f2, f3, f4, f5⟩ := NamAt.cells hfin
  clear hfin hfin0
  refine bodyPost_ret (v := .tuple #[namV c 0 0 0 0 ⟨#[]⟩, .bool true]) (by simp [results, Tryz.results32, go_sem, namV, f0, f1, f2, f3, f4, f5]) rfl ⟨rfl, ?_⟩
  have hb2 : Below w.heap.size w u2 := (HB.out.trans (hu1.mono (by simp))).trans (hu2.mono (by omega))
  refine Below.alloc ?_ (by omega) _
  rw [← hU]
  iterate 6 (refine Below.setCell ?_ (by simp) _)
  exact hb2
end Go.Proofs.YtohmejfpebjlaaaGreatDoor
