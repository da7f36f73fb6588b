import Derived.Test.YtjaelkagacmpkaaRl3
namespace Go.Proofs.Ytjaelkagacmpkaa
open Go.ChangeShapes Go.WideShapes Go.ChangeAt Go.RowKit

set_option maxRecDepth 100000 in
set_option maxHeartbeats 4000000 in
theorem toMachine5 {w : World} {m : MV} {a : MA} (h : MRows w m a) (hl : MLen m) : Calls Try.prog 41 #[.agg (mC m a)] w fun e w' => CopyA w m e w' := by
  have HT0 : Hid (TO w (((w.alloc (.cells #[.int .i64 m.pc, .slice a.ar m.rs.length a.cr, .int .i64 m.md, .slice a.ac m.cs.length a.cc, .slice a.av m.vs.length a.cv, .string m.mem, .int .i64 m.st, .int .i64 m.ct, .int .i64 m.ln, .slice a.ai m.is.length a.ci, .slice a.ao m.os.length a.co, .int .i64 m.tr] 69)).alloc (.cells #[.int .i64 0, .slice none 0 0, .int .i64 0, .slice none 0 0, .slice none 0 0, .string ⟨#[]⟩, .int .i64 0, .int .i64 0, .int .i64 0, .slice none 0 0, .slice none 0 0, .int .i64 0] 73)).alloc (.cells #[.int .i64 m.pc, .slice none 0 0, .int .i64 0, .slice none 0 0, .slice none 0 0, .string ⟨#[]⟩, .int .i64 0, .int .i64 0, .int .i64 0, .slice none 0 0, .slice none 0 0, .int .i64 0] 73)) m a #[.int .i64 m.pc, .slice none 0 0, .int .i64 0, .slice none 0 0, .slice none 0 0, .string ⟨#[]⟩, .int .i64 0, .int .i64 0, .int .i64 0, .slice none 0 0, .slice none 0 0, .int .i64 0]) := TO.new w m a #[.int .i64 m.pc, .slice none 0 0, .int .i64 0, .slice none 0 0, .slice none 0 0, .string ⟨#[]⟩, .int .i64 0, .int .i64 0, .int .i64 0, .slice none 0 0, .slice none 0 0, .int .i64 0]
  have HM : Hid (MRows w m a) := h
  have HL : Hid (MLen m) := hl
  clear h hl
  unfold mC
  go_enter Try.func41, Try.ntmps41
  go_wp2_with fail
  generalize (((w.alloc (.cells #[.int .i64 m.pc, .slice a.ar m.rs.length a.cr, .int .i64 m.md, .slice a.ac m.cs.length a.cc, .slice a.av m.vs.length a.cv, .string m.mem, .int .i64 m.st, .int .i64 m.ct, .int .i64 m.ln, .slice a.ai m.is.length a.ci, .slice a.ao m.os.length a.co, .int .i64 m.tr] 69)).alloc (.cells #[.int .i64 0, .slice none 0 0, .int .i64 0, .slice none 0 0, .slice none 0 0, .string ⟨#[]⟩, .int .i64 0, .int .i64 0, .int .i64 0, .slice none 0 0, .slice none 0 0, .int .i64 0] 73)).alloc (.cells #[.int .i64 m.pc, .slice none 0 0, .int .i64 0, .slice none 0 0, .slice none 0 0, .string ⟨#[]⟩, .int .i64 0, .int .i64 0, .int .i64 0, .slice none 0 0, .slice none 0 0, .int .i64 0] 73)) = V at *
  refine Calls.mono (toIS_any (HM.out.below HT0.out.bel).r HL.out.r) ?_
  rintro e u1 ⟨v1, rfl, o1, hb1⟩
  obtain ⟨ar2, cr2, rfl⟩ := i_sl o1
  have HT1 : Hid (TO w u1 m a #[.int .i64 m.pc, .slice none 0 0, .int .i64 0, .slice none 0 0, .slice none 0 0, .string ⟨#[]⟩, .int .i64 0, .int .i64 0, .int .i64 0, .slice none 0 0, .slice none 0 0, .int .i64 0]) := HT0.out.step hb1
  obtain ⟨lr, hlr⟩ : ∃ l, V.heap.size = l := ⟨_, rfl⟩
  obtain ⟨hr, hhr⟩ : ∃ l, u1.heap.size = l := ⟨_, rfl⟩
  have HRr : Hid (Orow2 u1 lr hr (.slice ar2 m.rs.length cr2) m.rs) := (show Orow2 u1 lr hr (.slice ar2 m.rs.length cr2) m.rs by rw [← hlr, ← hhr]; exact Orow2.of (Orow.of o1) (Nat.le_refl _))
  have HOr : Hid (w.heap.size + 3 ≤ lr ∧ lr ≤ hr) := (show _ ∧ _ by have q1 := HT0.out.lt; have q2 := hb1.size; exact ⟨by omega, by omega⟩)
  have HHr : Hid (u1.heap.size = hr) := hhr
  clear hlr hhr
  clear o1 hb1
  obtain ⟨c0, c1, c2, c3, c4, c5, c6, c7, c8, c9, c10, c11, _⟩ := cel12 HT1.out.b0
  obtain ⟨d0, d1, d2, d3, d4, d5, d6, d7, d8, d9, d10, d11, df⟩ := cel12 HT1.out.b2
  have lt1 := HT1.out.lt
  have g0 : w.heap.size < u1.heap.size := by omega
  have g2 : w.heap.size + 1 + 1 < u1.heap.size := by omega
  go_wp2_with fail
  clear c0 c1 c2 c3 c4 c5 c6 c7 c8 c9 c10 c11 d0 d1 d2 d3 d4 d5 d6 d7 d8 d9 d10 d11 df g0 g2
  have HS1 : Hid (TO w ((u1.setCell ⟨w.heap.size + 1 + 1, 1, none⟩ (.slice ar2 m.rs.length cr2)).setCell ⟨w.heap.size + 1 + 1, 2, none⟩ (.int .i64 m.md)) m a #[.int .i64 m.pc, .slice ar2 m.rs.length cr2, .int .i64 m.md, .slice none 0 0, .slice none 0 0, .string ⟨#[]⟩, .int .i64 0, .int .i64 0, .int .i64 0, .slice none 0 0, .slice none 0 0, .int .i64 0]) := ((HT1.out.set 1 (.slice ar2 m.rs.length cr2)).set 2 (.int .i64 m.md))
  have HSr : Hid (Orow2 ((u1.setCell ⟨w.heap.size + 1 + 1, 1, none⟩ (.slice ar2 m.rs.length cr2)).setCell ⟨w.heap.size + 1 + 1, 2, none⟩ (.int .i64 m.md)) lr hr (.slice ar2 m.rs.length cr2) m.rs) := HRr.out.gi (setG.trans setG) (.inr (by have := HOr.out; omega))
  have HVr : Hid (hr ≤ (((u1.setCell ⟨w.heap.size + 1 + 1, 1, none⟩ (.slice ar2 m.rs.length cr2)).setCell ⟨w.heap.size + 1 + 1, 2, none⟩ (.int .i64 m.md))).heap.size) := (show _ ≤ _ by rw [← HHr.out]; simp [World.setCell])
  clear HHr
  generalize ((u1.setCell ⟨w.heap.size + 1 + 1, 1, none⟩ (.slice ar2 m.rs.length cr2)).setCell ⟨w.heap.size + 1 + 1, 2, none⟩ (.int .i64 m.md)) = V1 at *
  refine Calls.mono (toIS_any (HM.out.below HS1.out.bel).c HL.out.c) ?_
  rintro e u2 ⟨v2, rfl, o2, hb2⟩
  obtain ⟨ac2, cc2, rfl⟩ := i_sl o2
  have HT2 : Hid (TO w u2 m a #[.int .i64 m.pc, .slice ar2 m.rs.length cr2, .int .i64 m.md, .slice none 0 0, .slice none 0 0, .string ⟨#[]⟩, .int .i64 0, .int .i64 0, .int .i64 0, .slice none 0 0, .slice none 0 0, .int .i64 0]) := HS1.out.step hb2
  have HRr : Hid (Orow2 u2 lr hr (.slice ar2 m.rs.length cr2) m.rs) := HSr.out.gi (GI.of_below (lo := 0) (hi := 0) hb2) (.inr (Nat.zero_le _))
  obtain ⟨lc, hlc⟩ : ∃ l, V1.heap.size = l := ⟨_, rfl⟩
  obtain ⟨hc, hhc⟩ : ∃ l, u2.heap.size = l := ⟨_, rfl⟩
  have HRc : Hid (Orow2 u2 lc hc (.slice ac2 m.cs.length cc2) m.cs) := (show Orow2 u2 lc hc (.slice ac2 m.cs.length cc2) m.cs by rw [← hlc, ← hhc]; exact Orow2.of (Orow.of o2) (Nat.le_refl _))
  have HOc : Hid (w.heap.size + 3 ≤ lc ∧ lc ≤ hc ∧ hr ≤ lc) := (show _ ∧ _ ∧ _ by have q1 := HS1.out.lt; have q2 := hb2.size; have q3 := HVr.out; exact ⟨by omega, by omega, by omega⟩)
  have HHc : Hid (u2.heap.size = hc) := hhc
  clear hlc hhc
  clear o2 hb2 HS1 lt1
  obtain ⟨c0, c1, c2, c3, c4, c5, c6, c7, c8, c9, c10, c11, _⟩ := cel12 HT2.out.b0
  obtain ⟨d0, d1, d2, d3, d4, d5, d6, d7, d8, d9, d10, d11, df⟩ := cel12 HT2.out.b2
  have lt2 := HT2.out.lt
  have g0 : w.heap.size < u2.heap.size := by omega
  have g2 : w.heap.size + 1 + 1 < u2.heap.size := by omega
  go_wp2_with fail
  clear c0 c1 c2 c3 c4 c5 c6 c7 c8 c9 c10 c11 d0 d1 d2 d3 d4 d5 d6 d7 d8 d9 d10 d11 df g0 g2
  have HS2 : Hid (TO w (u2.setCell ⟨w.heap.size + 1 + 1, 3, none⟩ (.slice ac2 m.cs.length cc2)) m a #[.int .i64 m.pc, .slice ar2 m.rs.length cr2, .int .i64 m.md, .slice ac2 m.cs.length cc2, .slice none 0 0, .string ⟨#[]⟩, .int .i64 0, .int .i64 0, .int .i64 0, .slice none 0 0, .slice none 0 0, .int .i64 0]) := (HT2.out.set 3 (.slice ac2 m.cs.length cc2))
  have HSr : Hid (Orow2 (u2.setCell ⟨w.heap.size + 1 + 1, 3, none⟩ (.slice ac2 m.cs.length cc2)) lr hr (.slice ar2 m.rs.length cr2) m.rs) := HRr.out.gi setG (.inr (by have := HOr.out; omega))
  have HSc : Hid (Orow2 (u2.setCell ⟨w.heap.size + 1 + 1, 3, none⟩ (.slice ac2 m.cs.length cc2)) lc hc (.slice ac2 m.cs.length cc2) m.cs) := HRc.out.gi setG (.inr (by have := HOc.out; omega))
  have HVc : Hid (hc ≤ ((u2.setCell ⟨w.heap.size + 1 + 1, 3, none⟩ (.slice ac2 m.cs.length cc2))).heap.size) := (show _ ≤ _ by rw [← HHc.out]; simp [World.setCell])
  clear HHc
  generalize (u2.setCell ⟨w.heap.size + 1 + 1, 3, none⟩ (.slice ac2 m.cs.length cc2)) = V2 at *
  refine Calls.mono (toIS_any (HM.out.below HS2.out.bel).v HL.out.v) ?_
  rintro e u3 ⟨v3, rfl, o3, hb3⟩
  obtain ⟨av2, cv2, rfl⟩ := i_sl o3
  have HT3 : Hid (TO w u3 m a #[.int .i64 m.pc, .slice ar2 m.rs.length cr2, .int .i64 m.md, .slice ac2 m.cs.length cc2, .slice none 0 0, .string ⟨#[]⟩, .int .i64 0, .int .i64 0, .int .i64 0, .slice none 0 0, .slice none 0 0, .int .i64 0]) := HS2.out.step hb3
  have HRr : Hid (Orow2 u3 lr hr (.slice ar2 m.rs.length cr2) m.rs) := HSr.out.gi (GI.of_below (lo := 0) (hi := 0) hb3) (.inr (Nat.zero_le _))
  have HRc : Hid (Orow2 u3 lc hc (.slice ac2 m.cs.length cc2) m.cs) := HSc.out.gi (GI.of_below (lo := 0) (hi := 0) hb3) (.inr (Nat.zero_le _))
  obtain ⟨lv, hlv⟩ : ∃ l, V2.heap.size = l := ⟨_, rfl⟩
  obtain ⟨hv, hhv⟩ : ∃ l, u3.heap.size = l := ⟨_, rfl⟩
  have HRv : Hid (Orow2 u3 lv hv (.slice av2 m.vs.length cv2) m.vs) := (show Orow2 u3 lv hv (.slice av2 m.vs.length cv2) m.vs by rw [← hlv, ← hhv]; exact Orow2.of (Orow.of o3) (Nat.le_refl _))
  have HOv : Hid (w.heap.size + 3 ≤ lv ∧ lv ≤ hv ∧ hc ≤ lv) := (show _ ∧ _ ∧ _ by have q1 := HS2.out.lt; have q2 := hb3.size; have q3 := HVc.out; exact ⟨by omega, by omega, by omega⟩)
  have HHv : Hid (u3.heap.size = hv) := hhv
  clear hlv hhv
  clear o3 hb3 HS2 lt2
  obtain ⟨c0, c1, c2, c3, c4, c5, c6, c7, c8, c9, c10, c11, _⟩ := cel12 HT3.out.b0
  obtain ⟨d0, d1, d2, d3, d4, d5, d6, d7, d8, d9, d10, d11, df⟩ := cel12 HT3.out.b2
  have lt3 := HT3.out.lt
  have g0 : w.heap.size < u3.heap.size := by omega
  have g2 : w.heap.size + 1 + 1 < u3.heap.size := by omega
  go_wp2_with fail
  clear c0 c1 c2 c3 c4 c5 c6 c7 c8 c9 c10 c11 d0 d1 d2 d3 d4 d5 d6 d7 d8 d9 d10 d11 df g0 g2
  have HS3 : Hid (TO w (((((u3.setCell ⟨w.heap.size + 1 + 1, 4, none⟩ (.slice av2 m.vs.length cv2)).setCell ⟨w.heap.size + 1 + 1, 5, none⟩ (.string m.mem)).setCell ⟨w.heap.size + 1 + 1, 6, none⟩ (.int .i64 m.st)).setCell ⟨w.heap.size + 1 + 1, 7, none⟩ (.int .i64 m.ct)).setCell ⟨w.heap.size + 1 + 1, 8, none⟩ (.int .i64 m.ln)) m a #[.int .i64 m.pc, .slice ar2 m.rs.length cr2, .int .i64 m.md, .slice ac2 m.cs.length cc2, .slice av2 m.vs.length cv2, .string m.mem, .int .i64 m.st, .int .i64 m.ct, .int .i64 m.ln, .slice none 0 0, .slice none 0 0, .int .i64 0]) := (((((HT3.out.set 4 (.slice av2 m.vs.length cv2)).set 5 (.string m.mem)).set 6 (.int .i64 m.st)).set 7 (.int .i64 m.ct)).set 8 (.int .i64 m.ln))
  have HSr : Hid (Orow2 (((((u3.setCell ⟨w.heap.size + 1 + 1, 4, none⟩ (.slice av2 m.vs.length cv2)).setCell ⟨w.heap.size + 1 + 1, 5, none⟩ (.string m.mem)).setCell ⟨w.heap.size + 1 + 1, 6, none⟩ (.int .i64 m.st)).setCell ⟨w.heap.size + 1 + 1, 7, none⟩ (.int .i64 m.ct)).setCell ⟨w.heap.size + 1 + 1, 8, none⟩ (.int .i64 m.ln)) lr hr (.slice ar2 m.rs.length cr2) m.rs) := HRr.out.gi ((((setG.trans setG).trans setG).trans setG).trans setG) (.inr (by have := HOr.out; omega))
  have HSc : Hid (Orow2 (((((u3.setCell ⟨w.heap.size + 1 + 1, 4, none⟩ (.slice av2 m.vs.length cv2)).setCell ⟨w.heap.size + 1 + 1, 5, none⟩ (.string m.mem)).setCell ⟨w.heap.size + 1 + 1, 6, none⟩ (.int .i64 m.st)).setCell ⟨w.heap.size + 1 + 1, 7, none⟩ (.int .i64 m.ct)).setCell ⟨w.heap.size + 1 + 1, 8, none⟩ (.int .i64 m.ln)) lc hc (.slice ac2 m.cs.length cc2) m.cs) := HRc.out.gi ((((setG.trans setG).trans setG).trans setG).trans setG) (.inr (by have := HOc.out; omega))
  have HSv : Hid (Orow2 (((((u3.setCell ⟨w.heap.size + 1 + 1, 4, none⟩ (.slice av2 m.vs.length cv2)).setCell ⟨w.heap.size + 1 + 1, 5, none⟩ (.string m.mem)).setCell ⟨w.heap.size + 1 + 1, 6, none⟩ (.int .i64 m.st)).setCell ⟨w.heap.size + 1 + 1, 7, none⟩ (.int .i64 m.ct)).setCell ⟨w.heap.size + 1 + 1, 8, none⟩ (.int .i64 m.ln)) lv hv (.slice av2 m.vs.length cv2) m.vs) := HRv.out.gi ((((setG.trans setG).trans setG).trans setG).trans setG) (.inr (by have := HOv.out; omega))
  have HVv : Hid (hv ≤ ((((((u3.setCell ⟨w.heap.size + 1 + 1, 4, none⟩ (.slice av2 m.vs.length cv2)).setCell ⟨w.heap.size + 1 + 1, 5, none⟩ (.string m.mem)).setCell ⟨w.heap.size + 1 + 1, 6, none⟩ (.int .i64 m.st)).setCell ⟨w.heap.size + 1 + 1, 7, none⟩ (.int .i64 m.ct)).setCell ⟨w.heap.size + 1 + 1, 8, none⟩ (.int .i64 m.ln))).heap.size) := (show _ ≤ _ by rw [← HHv.out]; simp [World.setCell])
  clear HHv
  generalize (((((u3.setCell ⟨w.heap.size + 1 + 1, 4, none⟩ (.slice av2 m.vs.length cv2)).setCell ⟨w.heap.size + 1 + 1, 5, none⟩ (.string m.mem)).setCell ⟨w.heap.size + 1 + 1, 6, none⟩ (.int .i64 m.st)).setCell ⟨w.heap.size + 1 + 1, 7, none⟩ (.int .i64 m.ct)).setCell ⟨w.heap.size + 1 + 1, 8, none⟩ (.int .i64 m.ln)) = V3 at *
  refine Calls.mono (toPVS_any (HM.out.below HS3.out.bel).i HL.out.i) ?_
  rintro e u4 ⟨v4, rfl, o4, hb4⟩
  obtain ⟨ai2, ci2, rfl⟩ := pv_sl o4
  have HT4 : Hid (TO w u4 m a #[.int .i64 m.pc, .slice ar2 m.rs.length cr2, .int .i64 m.md, .slice ac2 m.cs.length cc2, .slice av2 m.vs.length cv2, .string m.mem, .int .i64 m.st, .int .i64 m.ct, .int .i64 m.ln, .slice none 0 0, .slice none 0 0, .int .i64 0]) := HS3.out.step hb4
  have HRr : Hid (Orow2 u4 lr hr (.slice ar2 m.rs.length cr2) m.rs) := HSr.out.gi (GI.of_below (lo := 0) (hi := 0) hb4) (.inr (Nat.zero_le _))
  have HRc : Hid (Orow2 u4 lc hc (.slice ac2 m.cs.length cc2) m.cs) := HSc.out.gi (GI.of_below (lo := 0) (hi := 0) hb4) (.inr (Nat.zero_le _))
  have HRv : Hid (Orow2 u4 lv hv (.slice av2 m.vs.length cv2) m.vs) := HSv.out.gi (GI.of_below (lo := 0) (hi := 0) hb4) (.inr (Nat.zero_le _))
  obtain ⟨li, hli⟩ : ∃ l, V3.heap.size = l := ⟨_, rfl⟩
  obtain ⟨hi, hhi⟩ : ∃ l, u4.heap.size = l := ⟨_, rfl⟩
  have HRi : Hid (Prow2 u4 li hi (.slice ai2 m.is.length ci2) m.is) := (show Prow2 u4 li hi (.slice ai2 m.is.length ci2) m.is by rw [← hli, ← hhi]; exact Prow2.of o4 (Nat.le_refl _))
  have HOi : Hid (w.heap.size + 3 ≤ li ∧ li ≤ hi ∧ hv ≤ li) := (show _ ∧ _ ∧ _ by have q1 := HS3.out.lt; have q2 := hb4.size; have q3 := HVv.out; exact ⟨by omega, by omega, by omega⟩)
  have HHi : Hid (u4.heap.size = hi) := hhi
  clear hli hhi
  clear o4 hb4 HS3 lt3
  obtain ⟨c0, c1, c2, c3, c4, c5, c6, c7, c8, c9, c10, c11, _⟩ := cel12 HT4.out.b0
  obtain ⟨d0, d1, d2, d3, d4, d5, d6, d7, d8, d9, d10, d11, df⟩ := cel12 HT4.out.b2
  have lt4 := HT4.out.lt
  have g0 : w.heap.size < u4.heap.size := by omega
  have g2 : w.heap.size + 1 + 1 < u4.heap.size := by omega
  go_wp2_with fail
  clear c0 c1 c2 c3 c4 c5 c6 c7 c8 c9 c10 c11 d0 d1 d2 d3 d4 d5 d6 d7 d8 d9 d10 d11 df g0 g2
  have HS4 : Hid (TO w (u4.setCell ⟨w.heap.size + 1 + 1, 9, none⟩ (.slice ai2 m.is.length ci2)) m a #[.int .i64 m.pc, .slice ar2 m.rs.length cr2, .int .i64 m.md, .slice ac2 m.cs.length cc2, .slice av2 m.vs.length cv2, .string m.mem, .int .i64 m.st, .int .i64 m.ct, .int .i64 m.ln, .slice ai2 m.is.length ci2, .slice none 0 0, .int .i64 0]) := (HT4.out.set 9 (.slice ai2 m.is.length ci2))
  have HSr : Hid (Orow2 (u4.setCell ⟨w.heap.size + 1 + 1, 9, none⟩ (.slice ai2 m.is.length ci2)) lr hr (.slice ar2 m.rs.length cr2) m.rs) := HRr.out.gi setG (.inr (by have := HOr.out; omega))
  have HSc : Hid (Orow2 (u4.setCell ⟨w.heap.size + 1 + 1, 9, none⟩ (.slice ai2 m.is.length ci2)) lc hc (.slice ac2 m.cs.length cc2) m.cs) := HRc.out.gi setG (.inr (by have := HOc.out; omega))
  have HSv : Hid (Orow2 (u4.setCell ⟨w.heap.size + 1 + 1, 9, none⟩ (.slice ai2 m.is.length ci2)) lv hv (.slice av2 m.vs.length cv2) m.vs) := HRv.out.gi setG (.inr (by have := HOv.out; omega))
  have HSi : Hid (Prow2 (u4.setCell ⟨w.heap.size + 1 + 1, 9, none⟩ (.slice ai2 m.is.length ci2)) li hi (.slice ai2 m.is.length ci2) m.is) := HRi.out.gi setG (.inr (by have := HOi.out; omega))
  have HVi : Hid (hi ≤ ((u4.setCell ⟨w.heap.size + 1 + 1, 9, none⟩ (.slice ai2 m.is.length ci2))).heap.size) := (show _ ≤ _ by rw [← HHi.out]; simp [World.setCell])
  clear HHi
  generalize (u4.setCell ⟨w.heap.size + 1 + 1, 9, none⟩ (.slice ai2 m.is.length ci2)) = V4 at *
  refine Calls.mono (toPVS_any (HM.out.below HS4.out.bel).o HL.out.o) ?_
  rintro e u5 ⟨v5, rfl, o5, hb5⟩
  obtain ⟨ao2, co2, rfl⟩ := pv_sl o5
  have HT5 : Hid (TO w u5 m a #[.int .i64 m.pc, .slice ar2 m.rs.length cr2, .int .i64 m.md, .slice ac2 m.cs.length cc2, .slice av2 m.vs.length cv2, .string m.mem, .int .i64 m.st, .int .i64 m.ct, .int .i64 m.ln, .slice ai2 m.is.length ci2, .slice none 0 0, .int .i64 0]) := HS4.out.step hb5
  have HRr : Hid (Orow2 u5 lr hr (.slice ar2 m.rs.length cr2) m.rs) := HSr.out.gi (GI.of_below (lo := 0) (hi := 0) hb5) (.inr (Nat.zero_le _))
  have HRc : Hid (Orow2 u5 lc hc (.slice ac2 m.cs.length cc2) m.cs) := HSc.out.gi (GI.of_below (lo := 0) (hi := 0) hb5) (.inr (Nat.zero_le _))
  have HRv : Hid (Orow2 u5 lv hv (.slice av2 m.vs.length cv2) m.vs) := HSv.out.gi (GI.of_below (lo := 0) (hi := 0) hb5) (.inr (Nat.zero_le _))
  have HRi : Hid (Prow2 u5 li hi (.slice ai2 m.is.length ci2) m.is) := HSi.out.gi (GI.of_below (lo := 0) (hi := 0) hb5) (.inr (Nat.zero_le _))
  obtain ⟨lo, hlo⟩ : ∃ l, V4.heap.size = l := ⟨_, rfl⟩
  obtain ⟨ho, hho⟩ : ∃ l, u5.heap.size = l := ⟨_, rfl⟩
  have HRo : Hid (Prow2 u5 lo ho (.slice ao2 m.os.length co2) m.os) := (show Prow2 u5 lo ho (.slice ao2 m.os.length co2) m.os by rw [← hlo, ← hho]; exact Prow2.of o5 (Nat.le_refl _))
  have HOo : Hid (w.heap.size + 3 ≤ lo ∧ lo ≤ ho ∧ hi ≤ lo) := (show _ ∧ _ ∧ _ by have q1 := HS4.out.lt; have q2 := hb5.size; have q3 := HVi.out; exact ⟨by omega, by omega, by omega⟩)
  have HHo : Hid (u5.heap.size = ho) := hho
  clear hlo hho
  clear o5 hb5 HS4 lt4
  obtain ⟨c0, c1, c2, c3, c4, c5, c6, c7, c8, c9, c10, c11, _⟩ := cel12 HT5.out.b0
  obtain ⟨d0, d1, d2, d3, d4, d5, d6, d7, d8, d9, d10, d11, df⟩ := cel12 HT5.out.b2
  have lt5 := HT5.out.lt
  have g0 : w.heap.size < u5.heap.size := by omega
  have g2 : w.heap.size + 1 + 1 < u5.heap.size := by omega
  have b1c := HT5.out.b1
  unfold zBox at b1c
  obtain ⟨k0, k1, k2, k3, k4, k5, k6, k7, k8, k9, k10, k11, kf⟩ := cel12 b1c
  have g1 : w.heap.size + 1 < u5.heap.size := by omega
  have HB1 : Hid (u5.heap[w.heap.size + 1]? = some (.cells #[.int .i64 0, .slice none 0 0, .int .i64 0, .slice none 0 0, .slice none 0 0, .string ⟨#[]⟩, .int .i64 0, .int .i64 0, .int .i64 0, .slice none 0 0, .slice none 0 0, .int .i64 0] 73 (0, 0))) := b1c
  clear b1c
  go_wp2
  have hb2 : Below w.heap.size w ((u5.setCell ⟨w.heap.size + 1 + 1, 10, none⟩ (.slice ao2 m.os.length co2)).setCell ⟨w.heap.size + 1 + 1, 11, none⟩ (.int .i64 m.tr)) := (HT5.out.bel.setCell (by simp only; omega) _).setCell (by simp only; omega) _
  have hbx : ((u5.setCell ⟨w.heap.size + 1 + 1, 10, none⟩ (.slice ao2 m.os.length co2)).setCell ⟨w.heap.size + 1 + 1, 11, none⟩ (.int .i64 m.tr)).heap[w.heap.size + 1]? = some (.cells #[.int .i64 0, .slice none 0 0, .int .i64 0, .slice none 0 0, .slice none 0 0, .string ⟨#[]⟩, .int .i64 0, .int .i64 0, .int .i64 0, .slice none 0 0, .slice none 0 0, .int .i64 0] 73 (0, 0)) := (Below.heap_setCell _ _ _ _ (by simp only; omega)).trans ((Below.heap_setCell _ _ _ _ (by simp only; omega)).trans HB1.out)
  obtain ⟨e1, e2, e3⟩ := st12 hb2 (by omega) hbx (.int .i64 m.pc) (.slice ar2 m.rs.length cr2) (.int .i64 m.md) (.slice ac2 m.cs.length cc2) (.slice av2 m.vs.length cv2) (.string m.mem) (.int .i64 m.st) (.int .i64 m.ct) (.int .i64 m.ln) (.slice ai2 m.is.length ci2) (.slice ao2 m.os.length co2) (.int .i64 m.tr) rfl
  have e4 : ∀ k, w.heap.size + 3 ≤ k → ((u5.setCell ⟨w.heap.size + 1 + 1, 10, none⟩ (.slice ao2 m.os.length co2)).setCell ⟨w.heap.size + 1 + 1, 11, none⟩ (.int .i64 m.tr)).heap[k]? = u5.heap[k]? := fun k hk => (Below.heap_setCell _ _ _ _ (by simp only; omega)).trans (Below.heap_setCell _ _ _ _ (by simp only; omega))
  have e5 := fun k (hk : w.heap.size + 3 ≤ k) => (e3 k (by omega)).trans (e4 k hk)
  obtain ⟨f0, f1, f2, f3, f4, f5, f6, f7, f8, f9, f10, f11, _⟩ := cel12 e2
  refine bodyPost_ret (v := .agg #[.int .i64 m.pc, .slice ar2 m.rs.length cr2, .int .i64 m.md, .slice ac2 m.cs.length cc2, .slice av2 m.vs.length cv2, .string m.mem, .int .i64 m.st, .int .i64 m.ct, .int .i64 m.ln, .slice ai2 m.is.length ci2, .slice ao2 m.os.length co2, .int .i64 m.tr]) ?_ rfl ⟨⟨ar2, cr2, ac2, cc2, av2, cv2, ai2, ci2, ao2, co2⟩, ⟨lr, lc, lv, li, lo, ho⟩, rfl, ⟨(show _ ∧ _ ∧ _ ∧ _ ∧ _ by have h1 := HOr.out; have h2 := HOc.out; have h3 := HOv.out; have h4 := HOi.out; have h5 := HOo.out; exact ⟨by simp only; omega, by simp only; omega, by simp only; omega, by simp only; omega, by simp only; omega⟩), (HRr.out.heap (fun k hk _ => e5 k (by have := HOr.out; omega))).weak (Nat.le_refl _) (by have := HOc.out; simp only; omega), (HRc.out.heap (fun k hk _ => e5 k (by have := HOc.out; omega))).weak (Nat.le_refl _) (by have := HOv.out; simp only; omega), (HRv.out.heap (fun k hk _ => e5 k (by have := HOv.out; omega))).weak (Nat.le_refl _) (by have := HOi.out; simp only; omega), (HRi.out.heap (fun k hk _ => e5 k (by have := HOi.out; omega))).weak (Nat.le_refl _) (by have := HOo.out; simp only; omega), (HRo.out.heap (fun k hk _ => e5 k (by have := HOo.out; omega))).weak (Nat.le_refl _) (Nat.le_refl _)⟩, (by have h1 := HOr.out; simp only; omega), (by simp only; rw [← HHo.out]; simp [World.setCell]), e1⟩
  clear e5 e4 e3 e1 hbx hb2 HT5 HOr HOc HOv HOi HOo HHo HRr HRc HRv HRi HRo HB1 e2 c0 c1 c2 c3 c4 c5 c6 c7 c8 c9 c10 c11 d0 d1 d2 d3 d4 d5 d6 d7 d8 d9 d10 d11 df k0 k1 k2 k3 k4 k5 k6 k7 k8 k9 k10 k11 kf
  simp only [results, Try.results41, go_sem]
  simp [go_sem, f0, f1, f2, f3, f4, f5, f6, f7, f8, f9, f10, f11]
end Go.Proofs.Ytjaelkagacmpkaa
