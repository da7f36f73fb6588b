import Derived.Test.YtjaelkagacmpkaaMFm
import Derived.Test.YtjaelkagacmpkaaNewM6
namespace Go.Proofs.Ytjaelkagacmpkaa
open Go.ChangeShapes Go.WideShapes Go.ChangeAt Go.RowKit

/-- Two machines' boxes. -/
structure E2 (w u : World) (m : MV) (a a2 : MA) : Prop where
  bel : Below w.heap.size w u
  b0 : u.heap[w.heap.size]? = some (.cells (mC m a) 73 (0, 0))
  b1 : u.heap[w.heap.size + 1]? = some (.cells (mC m a2) 73 (0, 0))
theorem E2.lt {w u : World} {m : MV} {a a2 : MA} (h : E2 w u m a a2) : w.heap.size + 1 < u.heap.size := (Array.getElem?_eq_some_iff.1 h.b1).1
theorem E2.step {w u u' : World} {m : MV} {a a2 : MA} (h : E2 w u m a a2) (hb : Below u.heap.size u u') : E2 w u' m a a2 := by
  have := h.lt
  exact ⟨h.bel.trans (hb.mono h.bel.size), (hb.block _ (by omega)).trans h.b0, (hb.block _ (by omega)).trans h.b1⟩
theorem E2.new (w : World) (m : MV) (a a2 : MA) : E2 w ((w.alloc (.cells (mC m a) 73)).alloc (.cells (mC m a2) 73)) m a a2 :=
  ⟨((Below.refl _ _).alloc (Nat.le_refl _) _).alloc (by simp) _, (Below.heap_alloc _ _ _ (by simp)).trans (heap_new _ _), by simpa using heap_new (w.alloc (.cells (mC m a) 73)) (.cells (mC m a2) 73)⟩
set_option maxRecDepth 100000 in
set_option maxHeartbeats 4000000 in
theorem eqMachine_ok {w : World} {m : MV} {a a2 : MA} (h : MRows w m a) (h' : MRows w m a2) (hl : MLen m) : Calls Try.prog 43 #[.agg (mC m a), .agg (mC m a2)] w fun e w' => e = .returned (.bool true) ∧ Below w.heap.size w w' := by
  have HE0 : Hid (E2 w ((w.alloc (.cells #[.int .i64 m.pc, .slice a.ar m.rs.length a.cr, .int .i64 m.md, .slice a.ac m.cs.length a.cc, .slice a.av m.vs.length a.cv, .string m.mem, .int .i64 m.st, .int .i64 m.ct, .int .i64 m.ln, .slice a.ai m.is.length a.ci, .slice a.ao m.os.length a.co, .int .i64 m.tr] 73)).alloc (.cells #[.int .i64 m.pc, .slice a2.ar m.rs.length a2.cr, .int .i64 m.md, .slice a2.ac m.cs.length a2.cc, .slice a2.av m.vs.length a2.cv, .string m.mem, .int .i64 m.st, .int .i64 m.ct, .int .i64 m.ln, .slice a2.ai m.is.length a2.ci, .slice a2.ao m.os.length a2.co, .int .i64 m.tr] 73)) m a a2) := E2.new w m a a2
  have HM : Hid (MRows w m a) := h
  have HM2 : Hid (MRows w m a2) := h'
  have HL : Hid (MLen m) := hl
  clear h h' hl
  unfold mC
  go_enter Try.func43, Try.ntmps43
  go_wp2_with fail
  generalize ((w.alloc (.cells #[.int .i64 m.pc, .slice a.ar m.rs.length a.cr, .int .i64 m.md, .slice a.ac m.cs.length a.cc, .slice a.av m.vs.length a.cv, .string m.mem, .int .i64 m.st, .int .i64 m.ct, .int .i64 m.ln, .slice a.ai m.is.length a.ci, .slice a.ao m.os.length a.co, .int .i64 m.tr] 73)).alloc (.cells #[.int .i64 m.pc, .slice a2.ar m.rs.length a2.cr, .int .i64 m.md, .slice a2.ac m.cs.length a2.cc, .slice a2.av m.vs.length a2.cv, .string m.mem, .int .i64 m.st, .int .i64 m.ct, .int .i64 m.ln, .slice a2.ai m.is.length a2.ci, .slice a2.ao m.os.length a2.co, .int .i64 m.tr] 73)) = u0 at *
  refine Calls.mono (eqIS_ok (HM.out.below HE0.out.bel).r (HM2.out.below HE0.out.bel).r HL.out.r) ?_
  rintro e u1 ⟨rfl, hb1⟩
  have HE1 : Hid (E2 w u1 m a a2) := HE0.out.step hb1
  clear hb1 HE0
  obtain ⟨c0, c1, c2, c3, c4, c5, c6, c7, c8, c9, c10, c11, _⟩ := cel12 HE1.out.b0
  obtain ⟨d0, d1, d2, d3, d4, d5, d6, d7, d8, d9, d10, d11, _⟩ := cel12 HE1.out.b1
  go_wp2_with fail
  clear c0 c1 c2 c3 c4 c5 c6 c7 c8 c9 c10 c11 d0 d1 d2 d3 d4 d5 d6 d7 d8 d9 d10 d11
  refine Calls.mono (eqIS_ok (HM.out.below HE1.out.bel).c (HM2.out.below HE1.out.bel).c HL.out.c) ?_
  rintro e u2 ⟨rfl, hb2⟩
  have HE2 : Hid (E2 w u2 m a a2) := HE1.out.step hb2
  clear hb2 HE1
  obtain ⟨c0, c1, c2, c3, c4, c5, c6, c7, c8, c9, c10, c11, _⟩ := cel12 HE2.out.b0
  obtain ⟨d0, d1, d2, d3, d4, d5, d6, d7, d8, d9, d10, d11, _⟩ := cel12 HE2.out.b1
  go_wp2_with fail
  clear c0 c1 c2 c3 c4 c5 c6 c7 c8 c9 c10 c11 d0 d1 d2 d3 d4 d5 d6 d7 d8 d9 d10 d11
  refine Calls.mono (eqIS_ok (HM.out.below HE2.out.bel).v (HM2.out.below HE2.out.bel).v HL.out.v) ?_
  rintro e u3 ⟨rfl, hb3⟩
  have HE3 : Hid (E2 w u3 m a a2) := HE2.out.step hb3
  clear hb3 HE2
  obtain ⟨c0, c1, c2, c3, c4, c5, c6, c7, c8, c9, c10, c11, _⟩ := cel12 HE3.out.b0
  obtain ⟨d0, d1, d2, d3, d4, d5, d6, d7, d8, d9, d10, d11, _⟩ := cel12 HE3.out.b1
  go_wp2_with fail
  clear c0 c1 c2 c3 c4 c5 c6 c7 c8 c9 c10 c11 d0 d1 d2 d3 d4 d5 d6 d7 d8 d9 d10 d11
  refine Calls.mono (eqPVS_ok (HM.out.below HE3.out.bel).i (HM2.out.below HE3.out.bel).i HL.out.i) ?_
  rintro e u4 ⟨rfl, hb4⟩
  have HE4 : Hid (E2 w u4 m a a2) := HE3.out.step hb4
  clear hb4 HE3
  obtain ⟨c0, c1, c2, c3, c4, c5, c6, c7, c8, c9, c10, c11, _⟩ := cel12 HE4.out.b0
  obtain ⟨d0, d1, d2, d3, d4, d5, d6, d7, d8, d9, d10, d11, _⟩ := cel12 HE4.out.b1
  go_wp2_with fail
  clear c0 c1 c2 c3 c4 c5 c6 c7 c8 c9 c10 c11 d0 d1 d2 d3 d4 d5 d6 d7 d8 d9 d10 d11
  refine Calls.mono (eqPVS_ok (HM.out.below HE4.out.bel).o (HM2.out.below HE4.out.bel).o HL.out.o) ?_
  rintro e u5 ⟨rfl, hb5⟩
  have HE5 : Hid (E2 w u5 m a a2) := HE4.out.step hb5
  clear hb5 HE4
  obtain ⟨c0, c1, c2, c3, c4, c5, c6, c7, c8, c9, c10, c11, _⟩ := cel12 HE5.out.b0
  obtain ⟨d0, d1, d2, d3, d4, d5, d6, d7, d8, d9, d10, d11, _⟩ := cel12 HE5.out.b1
  go_wp2
  go_ret
  exact ⟨rfl, HE5.out.bel⟩
end Go.Proofs.Ytjaelkagacmpkaa
