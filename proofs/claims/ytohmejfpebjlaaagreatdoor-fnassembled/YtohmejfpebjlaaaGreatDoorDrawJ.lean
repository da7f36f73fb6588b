import Derived.Test.YtohmejfpebjlaaaGreatDoorDrawI
namespace Go.Proofs.YtohmejfpebjlaaaGreatDoor
open Go.ChangeShapes Go.WideShapes Go.ChangeAt Go.RowKit

theorem sl6 {u v : World} {b t : Nat} {v0 v1 v2 v3 v4 v5 : Int} (hg : (u.alloc (.cells #[.int .i64 v0, .int .i64 v1, .int .i64 v2, .int .i64 v3, .int .i64 v4, .int .i64 v5] t)).grownBy v (some b)) (hb : b ≠ u.heap.size) (Q : Nat) (hQ : Q < 6) :
    ∃ y : Int, v.cell? ⟨u.heap.size, Q, none⟩ = some (.int .i64 y) ∧ (y = v0 ∨ y = v1 ∨ y = v2 ∨ y = v3 ∨ y = v4 ∨ y = v5) := by
  have hh : v.heap[u.heap.size]? = some (.cells #[.int .i64 v0, .int .i64 v1, .int .i64 v2, .int .i64 v3, .int .i64 v4, .int .i64 v5] t (0, 0)) := (hg.block u.heap.size (by simp) (by simp; omega)).trans (heap_new _ _)
  obtain rfl | rfl | rfl | rfl | rfl | rfl : Q = 0 ∨ Q = 1 ∨ Q = 2 ∨ Q = 3 ∨ Q = 4 ∨ Q = 5 := by omega
  · exact ⟨v0, by simp [World.cell?, hh], by simp⟩
  · exact ⟨v1, by simp [World.cell?, hh], by simp⟩
  · exact ⟨v2, by simp [World.cell?, hh], by simp⟩
  · exact ⟨v3, by simp [World.cell?, hh], by simp⟩
  · exact ⟨v4, by simp [World.cell?, hh], by simp⟩
  · exact ⟨v5, by simp [World.cell?, hh], by simp⟩
/-- An instruction whose numbers are of 64 bits. -/
def In64 (op x1 x2 x3 x4 : Int) : Prop := (-9223372036854775808 ≤ op ∧ op ≤ 9223372036854775807) ∧ (-9223372036854775808 ≤ x1 ∧ x1 ≤ 9223372036854775807) ∧ (-9223372036854775808 ≤ x2 ∧ x2 ≤ 9223372036854775807) ∧ (-9223372036854775808 ≤ x3 ∧ x3 ≤ 9223372036854775807) ∧ (-9223372036854775808 ≤ x4 ∧ x4 ≤ 9223372036854775807)
theorem InsAt.all {n : Nat} {x a b c d : Int} {w : World} (h : InsAt w n x (a, b, c, d)) : w.cell? ⟨n, 0, none⟩ = some (.int .i64 x) ∧ w.cell? ⟨n, 1, none⟩ = some (.int .i64 a) ∧ w.cell? ⟨n, 2, none⟩ = some (.int .i64 b) ∧ w.cell? ⟨n, 3, none⟩ = some (.int .i64 c) ∧ w.cell? ⟨n, 4, none⟩ = some (.int .i64 d) ∧ (∀ o, w.frozen? ⟨n, o, none⟩ = false) := by
  unfold InsAt at h
  simp [World.cell?, World.frozen?, h]
set_option maxHeartbeats 4000000 in
/-- What stands at the result's place behind its stores. -/
theorem res_end {w wr U : World} {b I : Nat} {op x1 x2 x3 x4 : Int} {a : Option Addr} {len cap : Nat} (hd : DI w wr b w.heap.size I) (hs : SrcOk wr b a len cap) (hlt : b < w.heap.size)
    (hU : ((((wr.setCell ⟨w.heap.size, 0, none⟩ (.int .i64 op)).setCell ⟨w.heap.size, 1, none⟩ (.int .i64 x1)).setCell ⟨w.heap.size, 2, none⟩ (.int .i64 x2)).setCell ⟨w.heap.size, 3, none⟩ (.int .i64 x3)).setCell ⟨w.heap.size, 4, none⟩ (.int .i64 x4) = U) :
    InsAt U w.heap.size op (x1, x2, x3, x4) ∧ SrcOk U b a len cap ∧ w.grownBy U (some b) := by
  subst hU
  refine ⟨InsAt.put (InsAt.put (InsAt.put (InsAt.put (InsAt.setOp hd.res op) 1 (by omega) (by omega) x1) 2 (by omega) (by omega) x2) 3 (by omega) (by omega) x3) 4 (by omega) (by omega) x4, SrcOk.set (SrcOk.set (SrcOk.set (SrcOk.set (SrcOk.set hs hlt _) hlt _) hlt _) hlt _) hlt _, ?_⟩
  have hgr := hd.grow
  refine ⟨hgr.os, hgr.tape, hgr.output, by have := hgr.size; simpa using this, fun k hk hk2 => ?_⟩
  rw [Below.heap_setCell _ _ _ _ (by simp; omega), Below.heap_setCell _ _ _ _ (by simp; omega), Below.heap_setCell _ _ _ _ (by simp; omega), Below.heap_setCell _ _ _ _ (by simp; omega), Below.heap_setCell _ _ _ _ (by simp; omega)]
  exact hgr.block k hk hk2
set_option maxRecDepth 100000 in
set_option maxHeartbeats 8000000 in
theorem src_any (b : Nat) (a : Option Addr) (len cap : Nat) (w : World) (h : SrcOk w b a len cap) :
    Calls Tryz.prog 17 #[.pointer (some ⟨b, 0, none⟩)] w fun e w' => ∃ op x1 x2 x3 x4 : Int, e = .returned (ins op x1 x2 x3 x4) ∧ In64 op x1 x2 x3 x4 ∧ SrcOk w' b a len cap ∧ w.grownBy w' (some b) := by
  have hlt := h.lt
  have HS : Hid (SrcOk (w.alloc (.cells #[.int .i64 0, .int .i64 0, .int .i64 0, .int .i64 0, .int .i64 0] 24)) b a len cap) := h.far (World.grownBy_alloc w _ none)
  clear h
  go_enter Tryz.func17, Tryz.ntmps17
  go_wp2_with (go_at_call 39; refine (src_instr b a len cap _ HS.out).mono ?_; rintro e u1 ⟨op, x1, x2, x3, x4, rfl, bo, b1, b2, b3, b4, hs1, hg1⟩; unfold ins)
  have hz : w.heap.size < u1.heap.size := by have := hg1.size; simp at this; omega
  have HD : Hid (DI w (u1.alloc (.cells #[.int .i64 op, .int .i64 x1, .int .i64 x2, .int .i64 x3, .int .i64 x4] 24)) b w.heap.size u1.heap.size) := by
    refine ⟨Lib.grownBy_trans (Lib.grownBy_trans (World.grownBy_alloc w _ (some b)) hg1) (World.grownBy_alloc _ _ _), ?_, hlt, rfl, hz, by simp⟩
    exact (Below.heap_alloc _ _ _ hz).trans (InsAt.kept (x := 0) (f := (0, 0, 0, 0)) (heap_new _ _) hg1 (by simp) (by omega))
  have HI : Hid (InsAt (u1.alloc (.cells #[.int .i64 op, .int .i64 x1, .int .i64 x2, .int .i64 x3, .int .i64 x4] 24)) u1.heap.size op (x1, x2, x3, x4)) := heap_new _ _
  clear HS
  have HS : Hid (SrcOk (u1.alloc (.cells #[.int .i64 op, .int .i64 x1, .int .i64 x2, .int .i64 x3, .int .i64 x4] 24)) b a len cap) := hs1.far (World.grownBy_alloc _ _ none)
  clear hs1 hg1
  refine (src_n b a len cap 12 _ HS.out (by omega)).mono ?_
  rintro e u2 ⟨r, rfl, r0, r1, hs, hg⟩
  replace HI : Hid (InsAt u2 u1.heap.size op (x1, x2, x3, x4)) := InsAt.kept HI.out hg HD.out.lt (by have := HD.out.bR; have := HD.out.RI; omega); replace HD : Hid _ := HD.out.next hg; replace HS : Hid (SrcOk u2 b a len cap) := hs; clear hg hs
  clear r1
  by_cases hr0 : r = 0
  · subst hr0
    go_wp2_with (first | (go_at_call_of 40 (Value.int IntKind.i64 260); refine (src_n b a len cap 260 _ HS.out (by omega)).mono ?_; rintro e v ⟨q, rfl, q0, q1, hs, hg⟩; replace HI : Hid (InsAt v u1.heap.size op (x1, x2, x3, x4)) := InsAt.kept HI.out hg HD.out.lt (by have := HD.out.bR; have := HD.out.RI; omega); replace HD : Hid _ := HD.out.next hg; replace HS : Hid (SrcOk v b a len cap) := hs; clear hg hs; obtain ⟨i0, i1, i2, i3, i4, hzI⟩ := InsAt.all HI.out; obtain ⟨s0, s1, s2, s3, s4, hzR⟩ := InsAt.all HD.out.res; have hne : u1.heap.size ≠ w.heap.size := (by omega)))
    generalize hU : (((((v.setCell _ _).setCell _ _).setCell _ _).setCell _ _).setCell _ _).setCell _ _ = U
    obtain ⟨hfin, hs2, hg2⟩ := res_end (HD.out.set 0 _) (SrcOk.set HS.out (by have := HD.out.bR; have := HD.out.RI; omega) _) hlt hU
    obtain ⟨f0, f1, f2, f3, f4, _⟩ := InsAt.all hfin
    exact bodyPost_ret (v := ins (q - 2) (x1) (x2) (x3) (x4)) (by simp [results, Tryz.results17, go_sem, ins, f0, f1, f2, f3, f4]) rfl ⟨_, _, _, _, _, rfl, ⟨by omega, by omega, by omega, by omega, by omega⟩, hs2, hg2⟩
  by_cases hr1 : r = 1
  · subst hr1
    go_wp2_with (first | (go_at_call_of 40 (Value.int IntKind.i64 20); refine (src_n b a len cap 20 _ HS.out (by omega)).mono ?_; rintro e v ⟨q, rfl, q0, q1, hs, hg⟩; replace HI : Hid (InsAt v u1.heap.size op (x1, x2, x3, x4)) := InsAt.kept HI.out hg HD.out.lt (by have := HD.out.bR; have := HD.out.RI; omega); replace HD : Hid _ := HD.out.next hg; replace HS : Hid (SrcOk v b a len cap) := hs; clear hg hs; obtain ⟨i0, i1, i2, i3, i4, hzI⟩ := InsAt.all HI.out; obtain ⟨s0, s1, s2, s3, s4, hzR⟩ := InsAt.all HD.out.res; have hne : u1.heap.size ≠ w.heap.size := (by omega)))
    generalize hU : (((((v.setCell _ _).setCell _ _).setCell _ _).setCell _ _).setCell _ _).setCell _ _ = U
    obtain ⟨hfin, hs2, hg2⟩ := res_end (HD.out.set 1 _) (SrcOk.set HS.out (by have := HD.out.bR; have := HD.out.RI; omega) _) hlt hU
    obtain ⟨f0, f1, f2, f3, f4, _⟩ := InsAt.all hfin
    exact bodyPost_ret (v := ins (op) (q - 2) (x2) (x3) (x4)) (by simp [results, Tryz.results17, go_sem, ins, f0, f1, f2, f3, f4]) rfl ⟨_, _, _, _, _, rfl, ⟨by omega, by omega, by omega, by omega, by omega⟩, hs2, hg2⟩
  by_cases hr2 : r = 2
  · subst hr2
    go_wp2_with (first | (go_at_call_of 40 (Value.int IntKind.i64 20); refine (src_n b a len cap 20 _ HS.out (by omega)).mono ?_; rintro e v ⟨q, rfl, q0, q1, hs, hg⟩; replace HI : Hid (InsAt v u1.heap.size op (x1, x2, x3, x4)) := InsAt.kept HI.out hg HD.out.lt (by have := HD.out.bR; have := HD.out.RI; omega); replace HD : Hid _ := HD.out.next hg; replace HS : Hid (SrcOk v b a len cap) := hs; clear hg hs; obtain ⟨i0, i1, i2, i3, i4, hzI⟩ := InsAt.all HI.out; obtain ⟨s0, s1, s2, s3, s4, hzR⟩ := InsAt.all HD.out.res; have hne : u1.heap.size ≠ w.heap.size := (by omega)))
    generalize hU : (((((v.setCell _ _).setCell _ _).setCell _ _).setCell _ _).setCell _ _).setCell _ _ = U
    obtain ⟨hfin, hs2, hg2⟩ := res_end (HD.out.set 2 _) (SrcOk.set HS.out (by have := HD.out.bR; have := HD.out.RI; omega) _) hlt hU
    obtain ⟨f0, f1, f2, f3, f4, _⟩ := InsAt.all hfin
    exact bodyPost_ret (v := ins (op) (x1) (q - 2) (x3) (x4)) (by simp [results, Tryz.results17, go_sem, ins, f0, f1, f2, f3, f4]) rfl ⟨_, _, _, _, _, rfl, ⟨by omega, by omega, by omega, by omega, by omega⟩, hs2, hg2⟩
  by_cases hr3 : r = 3
  · subst hr3
    go_wp2_with (first | (go_at_call_of 40 (Value.int IntKind.i64 20); refine (src_n b a len cap 20 _ HS.out (by omega)).mono ?_; rintro e v ⟨q, rfl, q0, q1, hs, hg⟩; replace HI : Hid (InsAt v u1.heap.size op (x1, x2, x3, x4)) := InsAt.kept HI.out hg HD.out.lt (by have := HD.out.bR; have := HD.out.RI; omega); replace HD : Hid _ := HD.out.next hg; replace HS : Hid (SrcOk v b a len cap) := hs; clear hg hs; obtain ⟨i0, i1, i2, i3, i4, hzI⟩ := InsAt.all HI.out; obtain ⟨s0, s1, s2, s3, s4, hzR⟩ := InsAt.all HD.out.res; have hne : u1.heap.size ≠ w.heap.size := (by omega)))
    generalize hU : (((((v.setCell _ _).setCell _ _).setCell _ _).setCell _ _).setCell _ _).setCell _ _ = U
    obtain ⟨hfin, hs2, hg2⟩ := res_end (HD.out.set 3 _) (SrcOk.set HS.out (by have := HD.out.bR; have := HD.out.RI; omega) _) hlt hU
    obtain ⟨f0, f1, f2, f3, f4, _⟩ := InsAt.all hfin
    exact bodyPost_ret (v := ins (op) (x1) (x2) (q - 2) (x4)) (by simp [results, Tryz.results17, go_sem, ins, f0, f1, f2, f3, f4]) rfl ⟨_, _, _, _, _, rfl, ⟨by omega, by omega, by omega, by omega, by omega⟩, hs2, hg2⟩
  by_cases hr4 : r = 4
  · subst hr4
    go_wp2_with (first | (go_at_call_of 40 (Value.int IntKind.i64 6); refine (src_n b a len cap 6 _ (HS.out.far (World.grownBy_alloc _ _ none)) (by omega)).mono ?_; rintro e v ⟨qs, rfl, qs0, qs1, hs, hg⟩; obtain ⟨Q, rfl⟩ := Int.eq_ofNat_of_zero_le qs0; obtain ⟨y, hy, y0⟩ := sl6 hg (by have := HD.out.bR; have := HD.out.RI; have := HD.out.lt; omega) Q (by omega); replace HI : Hid (InsAt v u1.heap.size op (x1, x2, x3, x4)) := InsAt.kept ((Below.heap_alloc _ _ _ HD.out.lt).trans HI.out) hg (by have := HD.out.lt; simp; omega) (by have := HD.out.bR; have := HD.out.RI; omega); replace HD : Hid _ := (HD.out.next (World.grownBy_alloc _ _ _)).next hg; replace HS : Hid (SrcOk v b a len cap) := hs; clear hg hs; obtain ⟨i0, i1, i2, i3, i4, hzI⟩ := InsAt.all HI.out; obtain ⟨s0, s1, s2, s3, s4, hzR⟩ := InsAt.all HD.out.res; have hne : u1.heap.size ≠ w.heap.size := (by omega)))
    generalize hU : (((((v.setCell _ _).setCell _ _).setCell _ _).setCell _ _).setCell _ _).setCell _ _ = U
    obtain ⟨hfin, hs2, hg2⟩ := res_end (HD.out.set 4 _) (SrcOk.set HS.out (by have := HD.out.bR; have := HD.out.RI; omega) _) hlt hU
    obtain ⟨f0, f1, f2, f3, f4, _⟩ := InsAt.all hfin
    exact bodyPost_ret (v := ins (op) (x1) (x2) (x3) (y)) (by simp [results, Tryz.results17, go_sem, ins, f0, f1, f2, f3, f4]) rfl ⟨_, _, _, _, _, rfl, ⟨by omega, by omega, by omega, by omega, by omega⟩, hs2, hg2⟩
  obtain ⟨i0, i1, i2, i3, i4, hzI⟩ := InsAt.all HI.out
  obtain ⟨s0, s1, s2, s3, s4, hzR⟩ := InsAt.all HD.out.res
  have hne : u1.heap.size ≠ w.heap.size := (by omega)
  go_wp2
  generalize hU : ((((u2.setCell _ _).setCell _ _).setCell _ _).setCell _ _).setCell _ _ = U
  obtain ⟨hfin, hs2, hg2⟩ := res_end HD.out HS.out hlt hU
  obtain ⟨f0, f1, f2, f3, f4, _⟩ := InsAt.all hfin
  exact bodyPost_ret (v := ins (op) (x1) (x2) (x3) (x4)) (by simp [results, Tryz.results17, go_sem, ins, f0, f1, f2, f3, f4]) rfl ⟨_, _, _, _, _, rfl, ⟨by omega, by omega, by omega, by omega, by omega⟩, hs2, hg2⟩
end Go.Proofs.YtohmejfpebjlaaaGreatDoor
