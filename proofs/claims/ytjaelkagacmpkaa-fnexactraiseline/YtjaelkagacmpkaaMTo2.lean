import Derived.Test.YtjaelkagacmpkaaMTo
namespace Go.Proofs.Ytjaelkagacmpkaa
open Go.ChangeShapes Go.WideShapes Go.ChangeAt Go.RowKit

/-- A copy under way: the argument's box, the answer's, and the one at work. -/
structure TO (w u : World) (m : MV) (a : MA) (out : Array Value) : Prop where
  bel : Below w.heap.size w u
  b0 : u.heap[w.heap.size]? = some (.cells (mC m a) 69 (0, 0))
  b1 : u.heap[w.heap.size + 1]? = some zBox
  b2 : u.heap[w.heap.size + 1 + 1]? = some (.cells out 73 (0, 0))
theorem TO.lt {w u : World} {m : MV} {a : MA} {out : Array Value} (h : TO w u m a out) : w.heap.size + 1 + 1 < u.heap.size := (Array.getElem?_eq_some_iff.1 h.b2).1
theorem TO.step {w u u' : World} {m : MV} {a : MA} {out : Array Value} (h : TO w u m a out) (hb : Below u.heap.size u u') : TO w u' m a out := by
  have := h.lt
  exact ⟨h.bel.trans (hb.mono h.bel.size), (hb.block _ (by omega)).trans h.b0, (hb.block _ (by omega)).trans h.b1, (hb.block _ (by omega)).trans h.b2⟩
theorem TO.set {w u : World} {m : MV} {a : MA} {out : Array Value} (h : TO w u m a out) (o : Nat) (v : Value) : TO w (u.setCell ⟨w.heap.size + 1 + 1, o, none⟩ v) m a (out.setIfInBounds o v) :=
  ⟨h.bel.setCell (by simp only; omega) _, (Below.heap_setCell _ _ _ _ (by simp only; omega)).trans h.b0, (Below.heap_setCell _ _ _ _ (by simp only; omega)).trans h.b1, blk_set h.b2 o v⟩
theorem TO.new (w : World) (m : MV) (a : MA) (out : Array Value) : TO w (((w.alloc (.cells (mC m a) 69)).alloc zBox).alloc (.cells out 73)) m a out := by
  have h0 : (((w.alloc (.cells (mC m a) 69)).alloc zBox).alloc (.cells out 73)).heap[w.heap.size]? = some (.cells (mC m a) 69) := by
    rw [Below.heap_alloc _ _ _ (by simp; omega), Below.heap_alloc _ _ _ (by simp)]
    exact heap_new _ _
  have h1 : (((w.alloc (.cells (mC m a) 69)).alloc zBox).alloc (.cells out 73)).heap[w.heap.size + 1]? = some zBox := by
    rw [Below.heap_alloc _ _ _ (by simp)]
    simpa using heap_new (w.alloc (.cells (mC m a) 69)) zBox
  have h2 : (((w.alloc (.cells (mC m a) 69)).alloc zBox).alloc (.cells out 73)).heap[w.heap.size + 1 + 1]? = some (.cells out 73) := by simpa using heap_new ((w.alloc (.cells (mC m a) 69)).alloc zBox) (.cells out 73)
  exact ⟨(((Below.refl _ _).alloc (Nat.le_refl _) _).alloc (by simp) _).alloc (by simp; omega) _, h0, h1, h2⟩
/-- A new row persists while the copy is at work. -/
theorem own_setT {w u : World} {e size n : Nat} {v x : Value} {xs : List Value} {lo o : Nat} (h : u.ownsRow lo e size v n xs) (hlo : w.heap.size + 1 + 1 < lo) : (u.setCell ⟨w.heap.size + 1 + 1, o, none⟩ x).ownsRow lo e size v n xs :=
  own_set h (fun e => by have := (h.lt _ e).1; simp at this; omega)
theorem own_heap {u U : World} {lo lo' e size n : Nat} {v : Value} {xs : List Value} (h : u.ownsRow lo e size v n xs) (he : ∀ k, lo ≤ k → U.heap[k]? = u.heap[k]?) (hl : lo' ≤ lo) : U.ownsRow lo' e size v n xs := by
  obtain ⟨h1, h | ⟨g, cap, cur, hv, hg, h2, h3⟩⟩ := h
  · exact ⟨h1, .inl h⟩
  · exact ⟨h1, .inr ⟨g, cap, cur, hv, Nat.le_trans hl hg, (he g hg).trans h2, h3⟩⟩
/-- The rows of an answer, each in a block of its own. -/
structure MOwn (u : World) (lo : Nat) (m : MV) (a : MA) : Prop where
  r : u.ownsRow lo 2 1 (.slice a.ar m.rs.length a.cr) m.rs.length (iR m.rs)
  c : u.ownsRow lo 2 1 (.slice a.ac m.cs.length a.cc) m.cs.length (iR m.cs)
  v : u.ownsRow lo 2 1 (.slice a.av m.vs.length a.cv) m.vs.length (iR m.vs)
  i : u.ownsRow lo 155 2 (.slice a.ai m.is.length a.ci) m.is.length (pvR m.is)
  o : u.ownsRow lo 155 2 (.slice a.ao m.os.length a.co) m.os.length (pvR m.os)
theorem MOwn.rows {u : World} {lo : Nat} {m : MV} {a : MA} (h : MOwn u lo m a) : MRows u m a := ⟨Irow.of h.r, Irow.of h.c, Irow.of h.v, PVrow.of h.i, PVrow.of h.o⟩
set_option maxRecDepth 100000 in
set_option maxHeartbeats 4000000 in
theorem toMachine_any {w : World} {m : MV} {a : MA} (h : MRows w m a) (hl : MLen m) : Calls Try.prog 41 #[.agg (mC m a)] w fun e w' => ∃ a2 : MA, e = .returned (.agg (mC m a2)) ∧ MOwn w' w.heap.size m a2 ∧ Below w.heap.size w w' := by
  have HT0 : Hid (TO w (((w.alloc (.cells #[.int .i64 m.pc, .slice a.ar m.rs.length a.cr, .int .i64 m.md, .slice a.ac m.cs.length a.cc, .slice a.av m.vs.length a.cv, .string m.mem, .int .i64 m.st, .int .i64 m.ct, .int .i64 m.ln, .slice a.ai m.is.length a.ci, .slice a.ao m.os.length a.co, .int .i64 m.tr] 69)).alloc (.cells #[.int .i64 0, .slice none 0 0, .int .i64 0, .slice none 0 0, .slice none 0 0, .string ⟨#[]⟩, .int .i64 0, .int .i64 0, .int .i64 0, .slice none 0 0, .slice none 0 0, .int .i64 0] 73)).alloc (.cells #[.int .i64 m.pc, .slice none 0 0, .int .i64 0, .slice none 0 0, .slice none 0 0, .string ⟨#[]⟩, .int .i64 0, .int .i64 0, .int .i64 0, .slice none 0 0, .slice none 0 0, .int .i64 0] 73)) m a #[.int .i64 m.pc, .slice none 0 0, .int .i64 0, .slice none 0 0, .slice none 0 0, .string ⟨#[]⟩, .int .i64 0, .int .i64 0, .int .i64 0, .slice none 0 0, .slice none 0 0, .int .i64 0]) := TO.new w m a #[.int .i64 m.pc, .slice none 0 0, .int .i64 0, .slice none 0 0, .slice none 0 0, .string ⟨#[]⟩, .int .i64 0, .int .i64 0, .int .i64 0, .slice none 0 0, .slice none 0 0, .int .i64 0]
  have HM : Hid (MRows w m a) := h
  have HL : Hid (MLen m) := hl
  clear h hl
  unfold mC
  go_enter Try.func41, Try.ntmps41
  go_wp2_with fail
  generalize (((w.alloc (.cells #[.int .i64 m.pc, .slice a.ar m.rs.length a.cr, .int .i64 m.md, .slice a.ac m.cs.length a.cc, .slice a.av m.vs.length a.cv, .string m.mem, .int .i64 m.st, .int .i64 m.ct, .int .i64 m.ln, .slice a.ai m.is.length a.ci, .slice a.ao m.os.length a.co, .int .i64 m.tr] 69)).alloc (.cells #[.int .i64 0, .slice none 0 0, .int .i64 0, .slice none 0 0, .slice none 0 0, .string ⟨#[]⟩, .int .i64 0, .int .i64 0, .int .i64 0, .slice none 0 0, .slice none 0 0, .int .i64 0] 73)).alloc (.cells #[.int .i64 m.pc, .slice none 0 0, .int .i64 0, .slice none 0 0, .slice none 0 0, .string ⟨#[]⟩, .int .i64 0, .int .i64 0, .int .i64 0, .slice none 0 0, .slice none 0 0, .int .i64 0] 73)) = V at *
  refine Calls.mono (toIS_any (HM.out.below HT0.out.bel).r HL.out.r) ?_
  rintro e u1 ⟨v1, rfl, o1, hb1⟩
  obtain ⟨ar2, cr2, rfl⟩ := i_sl o1
  have HT1 : Hid (TO w u1 m a #[.int .i64 m.pc, .slice none 0 0, .int .i64 0, .slice none 0 0, .slice none 0 0, .string ⟨#[]⟩, .int .i64 0, .int .i64 0, .int .i64 0, .slice none 0 0, .slice none 0 0, .int .i64 0]) := HT0.out.step hb1
  have HRr : Hid (u1.ownsRow (w.heap.size + 3) 2 1 (.slice ar2 m.rs.length cr2) m.rs.length (iR m.rs)) := own_weak1 o1 (by have := HT0.out.lt; omega)
  clear o1 hb1
  obtain ⟨c0, c1, c2, c3, c4, c5, c6, c7, c8, c9, c10, c11, _⟩ := cel12 HT1.out.b0
  obtain ⟨d0, d1, d2, d3, d4, d5, d6, d7, d8, d9, d10, d11, df⟩ := cel12 HT1.out.b2
  have lt1 := HT1.out.lt
  have g0 : w.heap.size < u1.heap.size := by omega
  have g2 : w.heap.size + 1 + 1 < u1.heap.size := by omega
  go_wp2_with fail
  clear c0 c1 c2 c3 c4 c5 c6 c7 c8 c9 c10 c11 d0 d1 d2 d3 d4 d5 d6 d7 d8 d9 d10 d11 df g0 g2
  have HS1 : Hid (TO w ((u1.setCell ⟨w.heap.size + 1 + 1, 1, none⟩ (.slice ar2 m.rs.length cr2)).setCell ⟨w.heap.size + 1 + 1, 2, none⟩ (.int .i64 m.md)) m a #[.int .i64 m.pc, .slice ar2 m.rs.length cr2, .int .i64 m.md, .slice none 0 0, .slice none 0 0, .string ⟨#[]⟩, .int .i64 0, .int .i64 0, .int .i64 0, .slice none 0 0, .slice none 0 0, .int .i64 0]) := ((HT1.out.set 1 (.slice ar2 m.rs.length cr2)).set 2 (.int .i64 m.md))
  have HSr : Hid (((u1.setCell ⟨w.heap.size + 1 + 1, 1, none⟩ (.slice ar2 m.rs.length cr2)).setCell ⟨w.heap.size + 1 + 1, 2, none⟩ (.int .i64 m.md)).ownsRow (w.heap.size + 3) 2 1 (.slice ar2 m.rs.length cr2) m.rs.length (iR m.rs)) := (own_setT (own_setT HRr.out (by omega)) (by omega))
  generalize ((u1.setCell ⟨w.heap.size + 1 + 1, 1, none⟩ (.slice ar2 m.rs.length cr2)).setCell ⟨w.heap.size + 1 + 1, 2, none⟩ (.int .i64 m.md)) = V1 at *
  refine Calls.mono (toIS_any (HM.out.below HS1.out.bel).c HL.out.c) ?_
  rintro e u2 ⟨v2, rfl, o2, hb2⟩
  obtain ⟨ac2, cc2, rfl⟩ := i_sl o2
  have HT2 : Hid (TO w u2 m a #[.int .i64 m.pc, .slice ar2 m.rs.length cr2, .int .i64 m.md, .slice none 0 0, .slice none 0 0, .string ⟨#[]⟩, .int .i64 0, .int .i64 0, .int .i64 0, .slice none 0 0, .slice none 0 0, .int .i64 0]) := HS1.out.step hb2
  have HRr : Hid (u2.ownsRow (w.heap.size + 3) 2 1 (.slice ar2 m.rs.length cr2) m.rs.length (iR m.rs)) := own_below HSr.out hb2
  have HRc : Hid (u2.ownsRow (w.heap.size + 3) 2 1 (.slice ac2 m.cs.length cc2) m.cs.length (iR m.cs)) := own_weak1 o2 (by have := HS1.out.lt; omega)
  clear o2 hb2 HS1 lt1
  obtain ⟨c0, c1, c2, c3, c4, c5, c6, c7, c8, c9, c10, c11, _⟩ := cel12 HT2.out.b0
  obtain ⟨d0, d1, d2, d3, d4, d5, d6, d7, d8, d9, d10, d11, df⟩ := cel12 HT2.out.b2
  have lt2 := HT2.out.lt
  have g0 : w.heap.size < u2.heap.size := by omega
  have g2 : w.heap.size + 1 + 1 < u2.heap.size := by omega
  go_wp2_with fail
  clear c0 c1 c2 c3 c4 c5 c6 c7 c8 c9 c10 c11 d0 d1 d2 d3 d4 d5 d6 d7 d8 d9 d10 d11 df g0 g2
  have HS2 : Hid (TO w (u2.setCell ⟨w.heap.size + 1 + 1, 3, none⟩ (.slice ac2 m.cs.length cc2)) m a #[.int .i64 m.pc, .slice ar2 m.rs.length cr2, .int .i64 m.md, .slice ac2 m.cs.length cc2, .slice none 0 0, .string ⟨#[]⟩, .int .i64 0, .int .i64 0, .int .i64 0, .slice none 0 0, .slice none 0 0, .int .i64 0]) := (HT2.out.set 3 (.slice ac2 m.cs.length cc2))
  have HSr : Hid ((u2.setCell ⟨w.heap.size + 1 + 1, 3, none⟩ (.slice ac2 m.cs.length cc2)).ownsRow (w.heap.size + 3) 2 1 (.slice ar2 m.rs.length cr2) m.rs.length (iR m.rs)) := (own_setT HRr.out (by omega))
  have HSc : Hid ((u2.setCell ⟨w.heap.size + 1 + 1, 3, none⟩ (.slice ac2 m.cs.length cc2)).ownsRow (w.heap.size + 3) 2 1 (.slice ac2 m.cs.length cc2) m.cs.length (iR m.cs)) := (own_setT HRc.out (by omega))
  generalize (u2.setCell ⟨w.heap.size + 1 + 1, 3, none⟩ (.slice ac2 m.cs.length cc2)) = V2 at *
  refine Calls.mono (toIS_any (HM.out.below HS2.out.bel).v HL.out.v) ?_
  rintro e u3 ⟨v3, rfl, o3, hb3⟩
  obtain ⟨av2, cv2, rfl⟩ := i_sl o3
  have HT3 : Hid (TO w u3 m a #[.int .i64 m.pc, .slice ar2 m.rs.length cr2, .int .i64 m.md, .slice ac2 m.cs.length cc2, .slice none 0 0, .string ⟨#[]⟩, .int .i64 0, .int .i64 0, .int .i64 0, .slice none 0 0, .slice none 0 0, .int .i64 0]) := HS2.out.step hb3
  have HRr : Hid (u3.ownsRow (w.heap.size + 3) 2 1 (.slice ar2 m.rs.length cr2) m.rs.length (iR m.rs)) := own_below HSr.out hb3
  have HRc : Hid (u3.ownsRow (w.heap.size + 3) 2 1 (.slice ac2 m.cs.length cc2) m.cs.length (iR m.cs)) := own_below HSc.out hb3
  have HRv : Hid (u3.ownsRow (w.heap.size + 3) 2 1 (.slice av2 m.vs.length cv2) m.vs.length (iR m.vs)) := own_weak1 o3 (by have := HS2.out.lt; omega)
  clear o3 hb3 HS2 lt2
  obtain ⟨c0, c1, c2, c3, c4, c5, c6, c7, c8, c9, c10, c11, _⟩ := cel12 HT3.out.b0
  obtain ⟨d0, d1, d2, d3, d4, d5, d6, d7, d8, d9, d10, d11, df⟩ := cel12 HT3.out.b2
  have lt3 := HT3.out.lt
  have g0 : w.heap.size < u3.heap.size := by omega
  have g2 : w.heap.size + 1 + 1 < u3.heap.size := by omega
  go_wp2_with fail
  clear c0 c1 c2 c3 c4 c5 c6 c7 c8 c9 c10 c11 d0 d1 d2 d3 d4 d5 d6 d7 d8 d9 d10 d11 df g0 g2
  have HS3 : Hid (TO w (((((u3.setCell ⟨w.heap.size + 1 + 1, 4, none⟩ (.slice av2 m.vs.length cv2)).setCell ⟨w.heap.size + 1 + 1, 5, none⟩ (.string m.mem)).setCell ⟨w.heap.size + 1 + 1, 6, none⟩ (.int .i64 m.st)).setCell ⟨w.heap.size + 1 + 1, 7, none⟩ (.int .i64 m.ct)).setCell ⟨w.heap.size + 1 + 1, 8, none⟩ (.int .i64 m.ln)) m a #[.int .i64 m.pc, .slice ar2 m.rs.length cr2, .int .i64 m.md, .slice ac2 m.cs.length cc2, .slice av2 m.vs.length cv2, .string m.mem, .int .i64 m.st, .int .i64 m.ct, .int .i64 m.ln, .slice none 0 0, .slice none 0 0, .int .i64 0]) := (((((HT3.out.set 4 (.slice av2 m.vs.length cv2)).set 5 (.string m.mem)).set 6 (.int .i64 m.st)).set 7 (.int .i64 m.ct)).set 8 (.int .i64 m.ln))
  have HSr : Hid ((((((u3.setCell ⟨w.heap.size + 1 + 1, 4, none⟩ (.slice av2 m.vs.length cv2)).setCell ⟨w.heap.size + 1 + 1, 5, none⟩ (.string m.mem)).setCell ⟨w.heap.size + 1 + 1, 6, none⟩ (.int .i64 m.st)).setCell ⟨w.heap.size + 1 + 1, 7, none⟩ (.int .i64 m.ct)).setCell ⟨w.heap.size + 1 + 1, 8, none⟩ (.int .i64 m.ln)).ownsRow (w.heap.size + 3) 2 1 (.slice ar2 m.rs.length cr2) m.rs.length (iR m.rs)) := (own_setT (own_setT (own_setT (own_setT (own_setT HRr.out (by omega)) (by omega)) (by omega)) (by omega)) (by omega))
  have HSc : Hid ((((((u3.setCell ⟨w.heap.size + 1 + 1, 4, none⟩ (.slice av2 m.vs.length cv2)).setCell ⟨w.heap.size + 1 + 1, 5, none⟩ (.string m.mem)).setCell ⟨w.heap.size + 1 + 1, 6, none⟩ (.int .i64 m.st)).setCell ⟨w.heap.size + 1 + 1, 7, none⟩ (.int .i64 m.ct)).setCell ⟨w.heap.size + 1 + 1, 8, none⟩ (.int .i64 m.ln)).ownsRow (w.heap.size + 3) 2 1 (.slice ac2 m.cs.length cc2) m.cs.length (iR m.cs)) := (own_setT (own_setT (own_setT (own_setT (own_setT HRc.out (by omega)) (by omega)) (by omega)) (by omega)) (by omega))
  have HSv : Hid ((((((u3.setCell ⟨w.heap.size + 1 + 1, 4, none⟩ (.slice av2 m.vs.length cv2)).setCell ⟨w.heap.size + 1 + 1, 5, none⟩ (.string m.mem)).setCell ⟨w.heap.size + 1 + 1, 6, none⟩ (.int .i64 m.st)).setCell ⟨w.heap.size + 1 + 1, 7, none⟩ (.int .i64 m.ct)).setCell ⟨w.heap.size + 1 + 1, 8, none⟩ (.int .i64 m.ln)).ownsRow (w.heap.size + 3) 2 1 (.slice av2 m.vs.length cv2) m.vs.length (iR m.vs)) := (own_setT (own_setT (own_setT (own_setT (own_setT HRv.out (by omega)) (by omega)) (by omega)) (by omega)) (by omega))
  generalize (((((u3.setCell ⟨w.heap.size + 1 + 1, 4, none⟩ (.slice av2 m.vs.length cv2)).setCell ⟨w.heap.size + 1 + 1, 5, none⟩ (.string m.mem)).setCell ⟨w.heap.size + 1 + 1, 6, none⟩ (.int .i64 m.st)).setCell ⟨w.heap.size + 1 + 1, 7, none⟩ (.int .i64 m.ct)).setCell ⟨w.heap.size + 1 + 1, 8, none⟩ (.int .i64 m.ln)) = V3 at *
  refine Calls.mono (toPVS_any (HM.out.below HS3.out.bel).i HL.out.i) ?_
  rintro e u4 ⟨v4, rfl, o4, hb4⟩
  obtain ⟨ai2, ci2, rfl⟩ := pv_sl o4
  have HT4 : Hid (TO w u4 m a #[.int .i64 m.pc, .slice ar2 m.rs.length cr2, .int .i64 m.md, .slice ac2 m.cs.length cc2, .slice av2 m.vs.length cv2, .string m.mem, .int .i64 m.st, .int .i64 m.ct, .int .i64 m.ln, .slice none 0 0, .slice none 0 0, .int .i64 0]) := HS3.out.step hb4
  have HRr : Hid (u4.ownsRow (w.heap.size + 3) 2 1 (.slice ar2 m.rs.length cr2) m.rs.length (iR m.rs)) := own_below HSr.out hb4
  have HRc : Hid (u4.ownsRow (w.heap.size + 3) 2 1 (.slice ac2 m.cs.length cc2) m.cs.length (iR m.cs)) := own_below HSc.out hb4
  have HRv : Hid (u4.ownsRow (w.heap.size + 3) 2 1 (.slice av2 m.vs.length cv2) m.vs.length (iR m.vs)) := own_below HSv.out hb4
  have HRi : Hid (u4.ownsRow (w.heap.size + 3) 155 2 (.slice ai2 m.is.length ci2) m.is.length (pvR m.is)) := pv_weak o4 (by have := HS3.out.lt; omega)
  clear o4 hb4 HS3 lt3
  obtain ⟨c0, c1, c2, c3, c4, c5, c6, c7, c8, c9, c10, c11, _⟩ := cel12 HT4.out.b0
  obtain ⟨d0, d1, d2, d3, d4, d5, d6, d7, d8, d9, d10, d11, df⟩ := cel12 HT4.out.b2
  have lt4 := HT4.out.lt
  have g0 : w.heap.size < u4.heap.size := by omega
  have g2 : w.heap.size + 1 + 1 < u4.heap.size := by omega
  go_wp2_with fail
  clear c0 c1 c2 c3 c4 c5 c6 c7 c8 c9 c10 c11 d0 d1 d2 d3 d4 d5 d6 d7 d8 d9 d10 d11 df g0 g2
  have HS4 : Hid (TO w (u4.setCell ⟨w.heap.size + 1 + 1, 9, none⟩ (.slice ai2 m.is.length ci2)) m a #[.int .i64 m.pc, .slice ar2 m.rs.length cr2, .int .i64 m.md, .slice ac2 m.cs.length cc2, .slice av2 m.vs.length cv2, .string m.mem, .int .i64 m.st, .int .i64 m.ct, .int .i64 m.ln, .slice ai2 m.is.length ci2, .slice none 0 0, .int .i64 0]) := (HT4.out.set 9 (.slice ai2 m.is.length ci2))
  have HSr : Hid ((u4.setCell ⟨w.heap.size + 1 + 1, 9, none⟩ (.slice ai2 m.is.length ci2)).ownsRow (w.heap.size + 3) 2 1 (.slice ar2 m.rs.length cr2) m.rs.length (iR m.rs)) := (own_setT HRr.out (by omega))
  have HSc : Hid ((u4.setCell ⟨w.heap.size + 1 + 1, 9, none⟩ (.slice ai2 m.is.length ci2)).ownsRow (w.heap.size + 3) 2 1 (.slice ac2 m.cs.length cc2) m.cs.length (iR m.cs)) := (own_setT HRc.out (by omega))
  have HSv : Hid ((u4.setCell ⟨w.heap.size + 1 + 1, 9, none⟩ (.slice ai2 m.is.length ci2)).ownsRow (w.heap.size + 3) 2 1 (.slice av2 m.vs.length cv2) m.vs.length (iR m.vs)) := (own_setT HRv.out (by omega))
  have HSi : Hid ((u4.setCell ⟨w.heap.size + 1 + 1, 9, none⟩ (.slice ai2 m.is.length ci2)).ownsRow (w.heap.size + 3) 155 2 (.slice ai2 m.is.length ci2) m.is.length (pvR m.is)) := (own_setT HRi.out (by omega))
  generalize (u4.setCell ⟨w.heap.size + 1 + 1, 9, none⟩ (.slice ai2 m.is.length ci2)) = V4 at *
  refine Calls.mono (toPVS_any (HM.out.below HS4.out.bel).o HL.out.o) ?_
  rintro e u5 ⟨v5, rfl, o5, hb5⟩
  obtain ⟨ao2, co2, rfl⟩ := pv_sl o5
  have HT5 : Hid (TO w u5 m a #[.int .i64 m.pc, .slice ar2 m.rs.length cr2, .int .i64 m.md, .slice ac2 m.cs.length cc2, .slice av2 m.vs.length cv2, .string m.mem, .int .i64 m.st, .int .i64 m.ct, .int .i64 m.ln, .slice ai2 m.is.length ci2, .slice none 0 0, .int .i64 0]) := HS4.out.step hb5
  have HRr : Hid (u5.ownsRow (w.heap.size + 3) 2 1 (.slice ar2 m.rs.length cr2) m.rs.length (iR m.rs)) := own_below HSr.out hb5
  have HRc : Hid (u5.ownsRow (w.heap.size + 3) 2 1 (.slice ac2 m.cs.length cc2) m.cs.length (iR m.cs)) := own_below HSc.out hb5
  have HRv : Hid (u5.ownsRow (w.heap.size + 3) 2 1 (.slice av2 m.vs.length cv2) m.vs.length (iR m.vs)) := own_below HSv.out hb5
  have HRi : Hid (u5.ownsRow (w.heap.size + 3) 155 2 (.slice ai2 m.is.length ci2) m.is.length (pvR m.is)) := pv_below HSi.out hb5
  have HRo : Hid (u5.ownsRow (w.heap.size + 3) 155 2 (.slice ao2 m.os.length co2) m.os.length (pvR m.os)) := pv_weak o5 (by have := HS4.out.lt; omega)
  clear o5 hb5 HS4 lt4
  obtain ⟨c0, c1, c2, c3, c4, c5, c6, c7, c8, c9, c10, c11, _⟩ := cel12 HT5.out.b0
  obtain ⟨d0, d1, d2, d3, d4, d5, d6, d7, d8, d9, d10, d11, df⟩ := cel12 HT5.out.b2
  have lt5 := HT5.out.lt
  have g0 : w.heap.size < u5.heap.size := by omega
  have g2 : w.heap.size + 1 + 1 < u5.heap.size := by omega
  have b1c := HT5.out.b1
  unfold zBox at b1c
  obtain ⟨k0, k1, k2, k3, k4, k5, k6, k7, k8, k9, k10, k11, kf⟩ := cel12 b1c
  have g1 : w.heap.size + 1 < u5.heap.size := by omega
  have HB1 : Hid (u5.heap[w.heap.size + 1]? = some (.cells #[.int .i64 0, .slice none 0 0, .int .i64 0, .slice none 0 0, .slice none 0 0, .string ⟨#[]⟩, .int .i64 0, .int .i64 0, .int .i64 0, .slice none 0 0, .slice none 0 0, .int .i64 0] 73 (0, 0))) := b1c
  clear b1c
  go_wp2
  have hb2 : Below w.heap.size w ((u5.setCell ⟨w.heap.size + 1 + 1, 10, none⟩ (.slice ao2 m.os.length co2)).setCell ⟨w.heap.size + 1 + 1, 11, none⟩ (.int .i64 m.tr)) := (HT5.out.bel.setCell (by simp only; omega) _).setCell (by simp only; omega) _
  have hbx : ((u5.setCell ⟨w.heap.size + 1 + 1, 10, none⟩ (.slice ao2 m.os.length co2)).setCell ⟨w.heap.size + 1 + 1, 11, none⟩ (.int .i64 m.tr)).heap[w.heap.size + 1]? = some (.cells #[.int .i64 0, .slice none 0 0, .int .i64 0, .slice none 0 0, .slice none 0 0, .string ⟨#[]⟩, .int .i64 0, .int .i64 0, .int .i64 0, .slice none 0 0, .slice none 0 0, .int .i64 0] 73 (0, 0)) := (Below.heap_setCell _ _ _ _ (by simp only; omega)).trans ((Below.heap_setCell _ _ _ _ (by simp only; omega)).trans HB1.out)
  obtain ⟨e1, e2, e3⟩ := st12 hb2 (by omega) hbx (.int .i64 m.pc) (.slice ar2 m.rs.length cr2) (.int .i64 m.md) (.slice ac2 m.cs.length cc2) (.slice av2 m.vs.length cv2) (.string m.mem) (.int .i64 m.st) (.int .i64 m.ct) (.int .i64 m.ln) (.slice ai2 m.is.length ci2) (.slice ao2 m.os.length co2) (.int .i64 m.tr) rfl
  have e4 : ∀ k, w.heap.size + 3 ≤ k → ((u5.setCell ⟨w.heap.size + 1 + 1, 10, none⟩ (.slice ao2 m.os.length co2)).setCell ⟨w.heap.size + 1 + 1, 11, none⟩ (.int .i64 m.tr)).heap[k]? = u5.heap[k]? := fun k hk => (Below.heap_setCell _ _ _ _ (by simp only; omega)).trans (Below.heap_setCell _ _ _ _ (by simp only; omega))
  have e5 := fun k (hk : w.heap.size + 3 ≤ k) => (e3 k (by omega)).trans (e4 k hk)
  obtain ⟨f0, f1, f2, f3, f4, f5, f6, f7, f8, f9, f10, f11, _⟩ := cel12 e2
  refine bodyPost_ret (v := .agg #[.int .i64 m.pc, .slice ar2 m.rs.length cr2, .int .i64 m.md, .slice ac2 m.cs.length cc2, .slice av2 m.vs.length cv2, .string m.mem, .int .i64 m.st, .int .i64 m.ct, .int .i64 m.ln, .slice ai2 m.is.length ci2, .slice ao2 m.os.length co2, .int .i64 m.tr]) ?_ rfl ⟨⟨ar2, cr2, ac2, cc2, av2, cv2, ai2, ci2, ao2, co2⟩, rfl, ⟨own_heap HRr.out e5 (by omega), own_heap HRc.out e5 (by omega), own_heap HRv.out e5 (by omega), own_heap HRi.out e5 (by omega), own_heap HRo.out e5 (by omega)⟩, e1⟩
  clear e5 e4 e3 e1 hbx hb2 HT5 HRr HRc HRv HRi HRo HB1 e2 c0 c1 c2 c3 c4 c5 c6 c7 c8 c9 c10 c11 d0 d1 d2 d3 d4 d5 d6 d7 d8 d9 d10 d11 df k0 k1 k2 k3 k4 k5 k6 k7 k8 k9 k10 k11 kf
  simp only [results, Try.results41, go_sem]
  simp [go_sem, f0, f1, f2, f3, f4, f5, f6, f7, f8, f9, f10, f11]
end Go.Proofs.Ytjaelkagacmpkaa
