import Derived.Test.YtjaelkagacmpkaaRl2
import Derived.Deep.DeepCutAuto
namespace Go.Proofs.Ytjaelkagacmpkaa
open Go.ChangeShapes Go.WideShapes Go.ChangeAt Go.RowKit

/-- A copy under way, in its box. -/
structure CO (w u : World) (out : Array Value) : Prop where
  bel : Below w.heap.size w u
  b0 : u.heap[w.heap.size]? = some (.cells out 73 (0, 0))
  b1 : u.heap[w.heap.size + 1]? = some (.cells #[.int .i64 0, .slice none 0 0, .int .i64 0, .slice none 0 0, .slice none 0 0, .string ⟨#[]⟩, .int .i64 0, .int .i64 0, .int .i64 0, .slice none 0 0, .slice none 0 0, .int .i64 0] 73 (0, 0))
theorem CO.lt {w u : World} {out : Array Value} (h : CO w u out) : w.heap.size + 1 < u.heap.size := (Array.getElem?_eq_some_iff.1 h.b1).1
theorem CO.step {w u u' : World} {out : Array Value} (h : CO w u out) (hb : Below u.heap.size u u') : CO w u' out := by
  have := h.lt
  exact ⟨h.bel.trans (hb.mono h.bel.size), (hb.block _ (by omega)).trans h.b0, (hb.block _ (by omega)).trans h.b1⟩
theorem CO.set {w u : World} {out : Array Value} (h : CO w u out) (o : Nat) (v : Value) : CO w (u.setCell ⟨w.heap.size, o, none⟩ v) (out.setIfInBounds o v) :=
  ⟨h.bel.setCell (Nat.le_refl _) _, blk_set h.b0 o v, (Below.heap_setCell _ _ _ _ (by simp only; omega)).trans h.b1⟩
theorem CO.new (w : World) (out : Array Value) : CO w ((w.alloc (.cells out 73)).alloc (.cells #[.int .i64 0, .slice none 0 0, .int .i64 0, .slice none 0 0, .slice none 0 0, .string ⟨#[]⟩, .int .i64 0, .int .i64 0, .int .i64 0, .slice none 0 0, .slice none 0 0, .int .i64 0] 73)) out := by
  refine ⟨((Below.refl _ _).alloc (Nat.le_refl _) _).alloc (by simp) _, (Below.heap_alloc _ _ _ (by simp)).trans (heap_new _ _), ?_⟩
  simpa using heap_new (w.alloc (.cells out 73)) (.cells #[.int .i64 0, .slice none 0 0, .int .i64 0, .slice none 0 0, .slice none 0 0, .string ⟨#[]⟩, .int .i64 0, .int .i64 0, .int .i64 0, .slice none 0 0, .slice none 0 0, .int .i64 0] 73)
/-- A box's cell put leaves the rows behind it. -/
theorem setG {u : World} {p o : Nat} {x : Value} : GI p (p + 1) u (u.setCell ⟨p, o, none⟩ x) := GI.set (Nat.le_refl _) (Nat.lt_succ_self _)
/-- What a copy answers. -/
def CopyA (w : World) (m : MV) (e : Ending) (w' : World) : Prop := ∃ (a2 : MA) (n : N6), e = .returned (.agg (mC m a2)) ∧ M5 w' n m a2 ∧ w.heap.size ≤ n.a ∧ n.f ≤ w'.heap.size ∧ Below w.heap.size w w'
set_option maxRecDepth 100000 in
set_option maxHeartbeats 8000000 in
theorem ownMachine_any {w : World} {m : MV} {a : MA} (h : MRows w m a) (hl : MLen m) : Calls Try.prog 96 #[.agg (mC m a)] w fun e w' => CopyA w m e w' := by
  have HC0 : Hid (CO w ((w.alloc (.cells #[.int .i64 m.pc, .slice a.ar m.rs.length a.cr, .int .i64 m.md, .slice a.ac m.cs.length a.cc, .slice a.av m.vs.length a.cv, .string m.mem, .int .i64 m.st, .int .i64 m.ct, .int .i64 m.ln, .slice a.ai m.is.length a.ci, .slice a.ao m.os.length a.co, .int .i64 m.tr] 73)).alloc (.cells #[.int .i64 0, .slice none 0 0, .int .i64 0, .slice none 0 0, .slice none 0 0, .string ⟨#[]⟩, .int .i64 0, .int .i64 0, .int .i64 0, .slice none 0 0, .slice none 0 0, .int .i64 0] 73)) #[.int .i64 m.pc, .slice a.ar m.rs.length a.cr, .int .i64 m.md, .slice a.ac m.cs.length a.cc, .slice a.av m.vs.length a.cv, .string m.mem, .int .i64 m.st, .int .i64 m.ct, .int .i64 m.ln, .slice a.ai m.is.length a.ci, .slice a.ao m.os.length a.co, .int .i64 m.tr]) := CO.new w _
  have HM : Hid (MRows w m a) := h
  have HL : Hid (MLen m) := hl
  clear h hl
  unfold mC
  go_enter Try.func96, Try.ntmps96
  go_upto_region 1 with fail
  generalize (w.alloc (.cells #[.int .i64 m.pc, .slice a.ar m.rs.length a.cr, .int .i64 m.md, .slice a.ac m.cs.length a.cc, .slice a.av m.vs.length a.cv, .string m.mem, .int .i64 m.st, .int .i64 m.ct, .int .i64 m.ln, .slice a.ai m.is.length a.ci, .slice a.ao m.os.length a.co, .int .i64 m.tr] 73)).alloc (.cells #[.int .i64 0, .slice none 0 0, .int .i64 0, .slice none 0 0, .slice none 0 0, .string ⟨#[]⟩, .int .i64 0, .int .i64 0, .int .i64 0, .slice none 0 0, .slice none 0 0, .int .i64 0] 73) = V0 at *
  obtain ⟨c0, c1, c2, c3, c4, c5, c6, c7, c8, c9, c10, c11, cf⟩ := cel12 HC0.out.b0
  have lt0 := HC0.out.lt
  have g0 : w.heap.size < V0.heap.size := by omega
  go_upto_region 2 with (go_at_call 69; refine Calls.mono (cloneI_any (HM.out.below HC0.out.bel).r HL.out.r) ?_; rintro e u1 ⟨v9, rfl, ho, hb⟩; obtain ⟨ar2, cr2, he9⟩ := ho.irow.sl; subst he9; have HD0 : Hid (CO w u1 #[.int .i64 m.pc, .slice a.ar m.rs.length a.cr, .int .i64 m.md, .slice a.ac m.cs.length a.cc, .slice a.av m.vs.length a.cv, .string m.mem, .int .i64 m.st, .int .i64 m.ct, .int .i64 m.ln, .slice a.ai m.is.length a.ci, .slice a.ao m.os.length a.co, .int .i64 m.tr]) := HC0.out.step hb; have HRr : Hid (Orow2 u1 V0.heap.size u1.heap.size (.slice ar2 m.rs.length cr2) m.rs) := Orow2.of ho (Nat.le_refl _); have HI0 : Hid (w.heap.size + 2 ≤ V0.heap.size ∧ V0.heap.size ≤ u1.heap.size) := ⟨HC0.out.lt, hb.size⟩; clear ho hb c0 c1 c2 c3 c4 c5 c6 c7 c8 c9 c10 c11 cf; obtain ⟨d0, d1, d2, d3, d4, d5, d6, d7, d8, d9, d10, d11, df⟩ := cel12 HD0.out.b0)
  have HC1 : Hid (CO w (u1.setCell ⟨w.heap.size, 1, none⟩ (.slice ar2 m.rs.length cr2)) #[.int .i64 m.pc, .slice ar2 m.rs.length cr2, .int .i64 m.md, .slice a.ac m.cs.length a.cc, .slice a.av m.vs.length a.cv, .string m.mem, .int .i64 m.st, .int .i64 m.ct, .int .i64 m.ln, .slice a.ai m.is.length a.ci, .slice a.ao m.os.length a.co, .int .i64 m.tr]) := HD0.out.set 1 (.slice ar2 m.rs.length cr2)
  replace HRr : Hid (Orow2 (u1.setCell ⟨w.heap.size, 1, none⟩ (.slice ar2 m.rs.length cr2)) V0.heap.size u1.heap.size (.slice ar2 m.rs.length cr2) m.rs) := HRr.out.gi setG (.inr (by have := HI0.out; omega))
  have HV0 : Hid (u1.heap.size ≤ (u1.setCell ⟨w.heap.size, 1, none⟩ (.slice ar2 m.rs.length cr2)).heap.size) := (show _ ≤ _ by simp [World.setCell])
  generalize u1.setCell ⟨w.heap.size, 1, none⟩ (.slice ar2 m.rs.length cr2) = V1 at *
  obtain ⟨lr, hlr⟩ : ∃ l, V0.heap.size = l := ⟨_, rfl⟩
  obtain ⟨hr, hhr⟩ : ∃ l, u1.heap.size = l := ⟨_, rfl⟩
  rw [hlr, hhr] at HRr HI0
  rw [hhr] at HV0
  have HOr : Hid (w.heap.size + 2 ≤ lr ∧ lr ≤ hr) := HI0.out
  clear hlr hhr HI0 HC0 HD0 d0 d1 d2 d3 d4 d5 d6 d7 d8 d9 d10 d11 df lt0 g0
  obtain ⟨c0, c1, c2, c3, c4, c5, c6, c7, c8, c9, c10, c11, cf⟩ := cel12 HC1.out.b0
  have lt1 := HC1.out.lt
  have g0 : w.heap.size < V1.heap.size := by omega
  go_upto_region 3 with (go_at_call 69; refine Calls.mono (cloneI_any (HM.out.below HC1.out.bel).c HL.out.c) ?_; rintro e u2 ⟨v9, rfl, ho, hb⟩; obtain ⟨ac2, cc2, he9⟩ := ho.irow.sl; subst he9; have HD1 : Hid (CO w u2 #[.int .i64 m.pc, .slice ar2 m.rs.length cr2, .int .i64 m.md, .slice a.ac m.cs.length a.cc, .slice a.av m.vs.length a.cv, .string m.mem, .int .i64 m.st, .int .i64 m.ct, .int .i64 m.ln, .slice a.ai m.is.length a.ci, .slice a.ao m.os.length a.co, .int .i64 m.tr]) := HC1.out.step hb; have HRc : Hid (Orow2 u2 V1.heap.size u2.heap.size (.slice ac2 m.cs.length cc2) m.cs) := Orow2.of ho (Nat.le_refl _); have HI1 : Hid (w.heap.size + 2 ≤ V1.heap.size ∧ V1.heap.size ≤ u2.heap.size) := ⟨HC1.out.lt, hb.size⟩; replace HRr : Hid (Orow2 u2 lr hr (.slice ar2 m.rs.length cr2) m.rs) := HRr.out.gi (GI.of_below (lo := 0) (hi := 0) hb) (.inr (Nat.zero_le _)); clear ho hb c0 c1 c2 c3 c4 c5 c6 c7 c8 c9 c10 c11 cf; obtain ⟨d0, d1, d2, d3, d4, d5, d6, d7, d8, d9, d10, d11, df⟩ := cel12 HD1.out.b0)
  have HC2 : Hid (CO w (u2.setCell ⟨w.heap.size, 3, none⟩ (.slice ac2 m.cs.length cc2)) #[.int .i64 m.pc, .slice ar2 m.rs.length cr2, .int .i64 m.md, .slice ac2 m.cs.length cc2, .slice a.av m.vs.length a.cv, .string m.mem, .int .i64 m.st, .int .i64 m.ct, .int .i64 m.ln, .slice a.ai m.is.length a.ci, .slice a.ao m.os.length a.co, .int .i64 m.tr]) := HD1.out.set 3 (.slice ac2 m.cs.length cc2)
  replace HRr : Hid (Orow2 (u2.setCell ⟨w.heap.size, 3, none⟩ (.slice ac2 m.cs.length cc2)) lr hr (.slice ar2 m.rs.length cr2) m.rs) := HRr.out.gi setG (.inr (by have := HOr.out; omega))
  replace HRc : Hid (Orow2 (u2.setCell ⟨w.heap.size, 3, none⟩ (.slice ac2 m.cs.length cc2)) V1.heap.size u2.heap.size (.slice ac2 m.cs.length cc2) m.cs) := HRc.out.gi setG (.inr (by have := HI1.out; omega))
  have HV1 : Hid (u2.heap.size ≤ (u2.setCell ⟨w.heap.size, 3, none⟩ (.slice ac2 m.cs.length cc2)).heap.size) := (show _ ≤ _ by simp [World.setCell])
  generalize u2.setCell ⟨w.heap.size, 3, none⟩ (.slice ac2 m.cs.length cc2) = V2 at *
  obtain ⟨lc, hlc⟩ : ∃ l, V1.heap.size = l := ⟨_, rfl⟩
  obtain ⟨hc, hhc⟩ : ∃ l, u2.heap.size = l := ⟨_, rfl⟩
  rw [hlc, hhc] at HRc HI1
  rw [hhc] at HV1
  rw [hlc] at HV0
  have HOc : Hid (w.heap.size + 2 ≤ lc ∧ lc ≤ hc ∧ hr ≤ lc) := ⟨HI1.out.1, HI1.out.2, HV0.out⟩
  clear hlc hhc HI1 HC1 HD1 d0 d1 d2 d3 d4 d5 d6 d7 d8 d9 d10 d11 df lt1 g0 HV0
  obtain ⟨c0, c1, c2, c3, c4, c5, c6, c7, c8, c9, c10, c11, cf⟩ := cel12 HC2.out.b0
  have lt2 := HC2.out.lt
  have g0 : w.heap.size < V2.heap.size := by omega
  go_upto_region 4 with (go_at_call 69; refine Calls.mono (cloneI_any (HM.out.below HC2.out.bel).v HL.out.v) ?_; rintro e u3 ⟨v9, rfl, ho, hb⟩; obtain ⟨av2, cv2, he9⟩ := ho.irow.sl; subst he9; have HD2 : Hid (CO w u3 #[.int .i64 m.pc, .slice ar2 m.rs.length cr2, .int .i64 m.md, .slice ac2 m.cs.length cc2, .slice a.av m.vs.length a.cv, .string m.mem, .int .i64 m.st, .int .i64 m.ct, .int .i64 m.ln, .slice a.ai m.is.length a.ci, .slice a.ao m.os.length a.co, .int .i64 m.tr]) := HC2.out.step hb; have HRv : Hid (Orow2 u3 V2.heap.size u3.heap.size (.slice av2 m.vs.length cv2) m.vs) := Orow2.of ho (Nat.le_refl _); have HI2 : Hid (w.heap.size + 2 ≤ V2.heap.size ∧ V2.heap.size ≤ u3.heap.size) := ⟨HC2.out.lt, hb.size⟩; replace HRr : Hid (Orow2 u3 lr hr (.slice ar2 m.rs.length cr2) m.rs) := HRr.out.gi (GI.of_below (lo := 0) (hi := 0) hb) (.inr (Nat.zero_le _)); replace HRc : Hid (Orow2 u3 lc hc (.slice ac2 m.cs.length cc2) m.cs) := HRc.out.gi (GI.of_below (lo := 0) (hi := 0) hb) (.inr (Nat.zero_le _)); clear ho hb c0 c1 c2 c3 c4 c5 c6 c7 c8 c9 c10 c11 cf; obtain ⟨d0, d1, d2, d3, d4, d5, d6, d7, d8, d9, d10, d11, df⟩ := cel12 HD2.out.b0)
  have HC3 : Hid (CO w (u3.setCell ⟨w.heap.size, 4, none⟩ (.slice av2 m.vs.length cv2)) #[.int .i64 m.pc, .slice ar2 m.rs.length cr2, .int .i64 m.md, .slice ac2 m.cs.length cc2, .slice av2 m.vs.length cv2, .string m.mem, .int .i64 m.st, .int .i64 m.ct, .int .i64 m.ln, .slice a.ai m.is.length a.ci, .slice a.ao m.os.length a.co, .int .i64 m.tr]) := HD2.out.set 4 (.slice av2 m.vs.length cv2)
  replace HRr : Hid (Orow2 (u3.setCell ⟨w.heap.size, 4, none⟩ (.slice av2 m.vs.length cv2)) lr hr (.slice ar2 m.rs.length cr2) m.rs) := HRr.out.gi setG (.inr (by have := HOr.out; omega))
  replace HRc : Hid (Orow2 (u3.setCell ⟨w.heap.size, 4, none⟩ (.slice av2 m.vs.length cv2)) lc hc (.slice ac2 m.cs.length cc2) m.cs) := HRc.out.gi setG (.inr (by have := HOc.out; omega))
  replace HRv : Hid (Orow2 (u3.setCell ⟨w.heap.size, 4, none⟩ (.slice av2 m.vs.length cv2)) V2.heap.size u3.heap.size (.slice av2 m.vs.length cv2) m.vs) := HRv.out.gi setG (.inr (by have := HI2.out; omega))
  have HV2 : Hid (u3.heap.size ≤ (u3.setCell ⟨w.heap.size, 4, none⟩ (.slice av2 m.vs.length cv2)).heap.size) := (show _ ≤ _ by simp [World.setCell])
  generalize u3.setCell ⟨w.heap.size, 4, none⟩ (.slice av2 m.vs.length cv2) = V3 at *
  obtain ⟨lv, hlv⟩ : ∃ l, V2.heap.size = l := ⟨_, rfl⟩
  obtain ⟨hv, hhv⟩ : ∃ l, u3.heap.size = l := ⟨_, rfl⟩
  rw [hlv, hhv] at HRv HI2
  rw [hhv] at HV2
  rw [hlv] at HV1
  have HOv : Hid (w.heap.size + 2 ≤ lv ∧ lv ≤ hv ∧ hc ≤ lv) := ⟨HI2.out.1, HI2.out.2, HV1.out⟩
  clear hlv hhv HI2 HC2 HD2 d0 d1 d2 d3 d4 d5 d6 d7 d8 d9 d10 d11 df lt2 g0 HV1
  obtain ⟨c0, c1, c2, c3, c4, c5, c6, c7, c8, c9, c10, c11, cf⟩ := cel12 HC3.out.b0
  have lt3 := HC3.out.lt
  have g0 : w.heap.size < V3.heap.size := by omega
  go_upto_region 5 with (go_at_call 128; refine Calls.mono (cloneV_any (HM.out.below HC3.out.bel).i HL.out.i) ?_; rintro e u4 ⟨v9, rfl, ho, hb⟩; obtain ⟨ai2, ci2, he9⟩ := pv_sl ho; subst he9; have HD3 : Hid (CO w u4 #[.int .i64 m.pc, .slice ar2 m.rs.length cr2, .int .i64 m.md, .slice ac2 m.cs.length cc2, .slice av2 m.vs.length cv2, .string m.mem, .int .i64 m.st, .int .i64 m.ct, .int .i64 m.ln, .slice a.ai m.is.length a.ci, .slice a.ao m.os.length a.co, .int .i64 m.tr]) := HC3.out.step hb; have HRi : Hid (Prow2 u4 V3.heap.size u4.heap.size (.slice ai2 m.is.length ci2) m.is) := Prow2.of ho (Nat.le_refl _); have HI3 : Hid (w.heap.size + 2 ≤ V3.heap.size ∧ V3.heap.size ≤ u4.heap.size) := ⟨HC3.out.lt, hb.size⟩; replace HRr : Hid (Orow2 u4 lr hr (.slice ar2 m.rs.length cr2) m.rs) := HRr.out.gi (GI.of_below (lo := 0) (hi := 0) hb) (.inr (Nat.zero_le _)); replace HRc : Hid (Orow2 u4 lc hc (.slice ac2 m.cs.length cc2) m.cs) := HRc.out.gi (GI.of_below (lo := 0) (hi := 0) hb) (.inr (Nat.zero_le _)); replace HRv : Hid (Orow2 u4 lv hv (.slice av2 m.vs.length cv2) m.vs) := HRv.out.gi (GI.of_below (lo := 0) (hi := 0) hb) (.inr (Nat.zero_le _)); clear ho hb c0 c1 c2 c3 c4 c5 c6 c7 c8 c9 c10 c11 cf; obtain ⟨d0, d1, d2, d3, d4, d5, d6, d7, d8, d9, d10, d11, df⟩ := cel12 HD3.out.b0)
  have HC4 : Hid (CO w (u4.setCell ⟨w.heap.size, 9, none⟩ (.slice ai2 m.is.length ci2)) #[.int .i64 m.pc, .slice ar2 m.rs.length cr2, .int .i64 m.md, .slice ac2 m.cs.length cc2, .slice av2 m.vs.length cv2, .string m.mem, .int .i64 m.st, .int .i64 m.ct, .int .i64 m.ln, .slice ai2 m.is.length ci2, .slice a.ao m.os.length a.co, .int .i64 m.tr]) := HD3.out.set 9 (.slice ai2 m.is.length ci2)
  replace HRr : Hid (Orow2 (u4.setCell ⟨w.heap.size, 9, none⟩ (.slice ai2 m.is.length ci2)) lr hr (.slice ar2 m.rs.length cr2) m.rs) := HRr.out.gi setG (.inr (by have := HOr.out; omega))
  replace HRc : Hid (Orow2 (u4.setCell ⟨w.heap.size, 9, none⟩ (.slice ai2 m.is.length ci2)) lc hc (.slice ac2 m.cs.length cc2) m.cs) := HRc.out.gi setG (.inr (by have := HOc.out; omega))
  replace HRv : Hid (Orow2 (u4.setCell ⟨w.heap.size, 9, none⟩ (.slice ai2 m.is.length ci2)) lv hv (.slice av2 m.vs.length cv2) m.vs) := HRv.out.gi setG (.inr (by have := HOv.out; omega))
  replace HRi : Hid (Prow2 (u4.setCell ⟨w.heap.size, 9, none⟩ (.slice ai2 m.is.length ci2)) V3.heap.size u4.heap.size (.slice ai2 m.is.length ci2) m.is) := HRi.out.gi setG (.inr (by have := HI3.out; omega))
  have HV3 : Hid (u4.heap.size ≤ (u4.setCell ⟨w.heap.size, 9, none⟩ (.slice ai2 m.is.length ci2)).heap.size) := (show _ ≤ _ by simp [World.setCell])
  generalize u4.setCell ⟨w.heap.size, 9, none⟩ (.slice ai2 m.is.length ci2) = V4 at *
  obtain ⟨li, hli⟩ : ∃ l, V3.heap.size = l := ⟨_, rfl⟩
  obtain ⟨hi, hhi⟩ : ∃ l, u4.heap.size = l := ⟨_, rfl⟩
  rw [hli, hhi] at HRi HI3
  rw [hhi] at HV3
  rw [hli] at HV2
  have HOi : Hid (w.heap.size + 2 ≤ li ∧ li ≤ hi ∧ hv ≤ li) := ⟨HI3.out.1, HI3.out.2, HV2.out⟩
  clear hli hhi HI3 HC3 HD3 d0 d1 d2 d3 d4 d5 d6 d7 d8 d9 d10 d11 df lt3 g0 HV2
  obtain ⟨c0, c1, c2, c3, c4, c5, c6, c7, c8, c9, c10, c11, cf⟩ := cel12 HC4.out.b0
  have lt4 := HC4.out.lt
  have g0 : w.heap.size < V4.heap.size := by omega
  go_upto_region 6 with (go_at_call 128; refine Calls.mono (cloneV_any (HM.out.below HC4.out.bel).o HL.out.o) ?_; rintro e u5 ⟨v9, rfl, ho, hb⟩; obtain ⟨ao2, co2, he9⟩ := pv_sl ho; subst he9; have HD4 : Hid (CO w u5 #[.int .i64 m.pc, .slice ar2 m.rs.length cr2, .int .i64 m.md, .slice ac2 m.cs.length cc2, .slice av2 m.vs.length cv2, .string m.mem, .int .i64 m.st, .int .i64 m.ct, .int .i64 m.ln, .slice ai2 m.is.length ci2, .slice a.ao m.os.length a.co, .int .i64 m.tr]) := HC4.out.step hb; have HRo : Hid (Prow2 u5 V4.heap.size u5.heap.size (.slice ao2 m.os.length co2) m.os) := Prow2.of ho (Nat.le_refl _); have HI4 : Hid (w.heap.size + 2 ≤ V4.heap.size ∧ V4.heap.size ≤ u5.heap.size) := ⟨HC4.out.lt, hb.size⟩; replace HRr : Hid (Orow2 u5 lr hr (.slice ar2 m.rs.length cr2) m.rs) := HRr.out.gi (GI.of_below (lo := 0) (hi := 0) hb) (.inr (Nat.zero_le _)); replace HRc : Hid (Orow2 u5 lc hc (.slice ac2 m.cs.length cc2) m.cs) := HRc.out.gi (GI.of_below (lo := 0) (hi := 0) hb) (.inr (Nat.zero_le _)); replace HRv : Hid (Orow2 u5 lv hv (.slice av2 m.vs.length cv2) m.vs) := HRv.out.gi (GI.of_below (lo := 0) (hi := 0) hb) (.inr (Nat.zero_le _)); replace HRi : Hid (Prow2 u5 li hi (.slice ai2 m.is.length ci2) m.is) := HRi.out.gi (GI.of_below (lo := 0) (hi := 0) hb) (.inr (Nat.zero_le _)); clear ho hb c0 c1 c2 c3 c4 c5 c6 c7 c8 c9 c10 c11 cf; obtain ⟨d0, d1, d2, d3, d4, d5, d6, d7, d8, d9, d10, d11, df⟩ := cel12 HD4.out.b0)
  have HC5 : Hid (CO w (u5.setCell ⟨w.heap.size, 10, none⟩ (.slice ao2 m.os.length co2)) #[.int .i64 m.pc, .slice ar2 m.rs.length cr2, .int .i64 m.md, .slice ac2 m.cs.length cc2, .slice av2 m.vs.length cv2, .string m.mem, .int .i64 m.st, .int .i64 m.ct, .int .i64 m.ln, .slice ai2 m.is.length ci2, .slice ao2 m.os.length co2, .int .i64 m.tr]) := HD4.out.set 10 (.slice ao2 m.os.length co2)
  replace HRr : Hid (Orow2 (u5.setCell ⟨w.heap.size, 10, none⟩ (.slice ao2 m.os.length co2)) lr hr (.slice ar2 m.rs.length cr2) m.rs) := HRr.out.gi setG (.inr (by have := HOr.out; omega))
  replace HRc : Hid (Orow2 (u5.setCell ⟨w.heap.size, 10, none⟩ (.slice ao2 m.os.length co2)) lc hc (.slice ac2 m.cs.length cc2) m.cs) := HRc.out.gi setG (.inr (by have := HOc.out; omega))
  replace HRv : Hid (Orow2 (u5.setCell ⟨w.heap.size, 10, none⟩ (.slice ao2 m.os.length co2)) lv hv (.slice av2 m.vs.length cv2) m.vs) := HRv.out.gi setG (.inr (by have := HOv.out; omega))
  replace HRi : Hid (Prow2 (u5.setCell ⟨w.heap.size, 10, none⟩ (.slice ao2 m.os.length co2)) li hi (.slice ai2 m.is.length ci2) m.is) := HRi.out.gi setG (.inr (by have := HOi.out; omega))
  replace HRo : Hid (Prow2 (u5.setCell ⟨w.heap.size, 10, none⟩ (.slice ao2 m.os.length co2)) V4.heap.size u5.heap.size (.slice ao2 m.os.length co2) m.os) := HRo.out.gi setG (.inr (by have := HI4.out; omega))
  have HV4 : Hid (u5.heap.size ≤ (u5.setCell ⟨w.heap.size, 10, none⟩ (.slice ao2 m.os.length co2)).heap.size) := (show _ ≤ _ by simp [World.setCell])
  generalize u5.setCell ⟨w.heap.size, 10, none⟩ (.slice ao2 m.os.length co2) = V5 at *
  obtain ⟨lo, hlo⟩ : ∃ l, V4.heap.size = l := ⟨_, rfl⟩
  obtain ⟨ho, hho⟩ : ∃ l, u5.heap.size = l := ⟨_, rfl⟩
  rw [hlo, hho] at HRo HI4
  rw [hho] at HV4
  rw [hlo] at HV3
  have HOo : Hid (w.heap.size + 2 ≤ lo ∧ lo ≤ ho ∧ hi ≤ lo) := ⟨HI4.out.1, HI4.out.2, HV3.out⟩
  clear hlo hho HI4 HC4 HD4 d0 d1 d2 d3 d4 d5 d6 d7 d8 d9 d10 d11 df lt4 g0 HV3
  obtain ⟨c0, c1, c2, c3, c4, c5, c6, c7, c8, c9, c10, c11, cf⟩ := cel12 HC5.out.b0
  have HCA : Hid (CO w (V5.alloc (.cells #[.string m.mem] 9)) #[.int .i64 m.pc, .slice ar2 m.rs.length cr2, .int .i64 m.md, .slice ac2 m.cs.length cc2, .slice av2 m.vs.length cv2, .string m.mem, .int .i64 m.st, .int .i64 m.ct, .int .i64 m.ln, .slice ai2 m.is.length ci2, .slice ao2 m.os.length co2, .int .i64 m.tr]) := HC5.out.step ((Below.refl _ _).alloc (Nat.le_refl _) _)
  obtain ⟨x0, x1, x2, x3, x4, x5, x6, x7, x8, x9, x10, x11, xf⟩ := cel12 HCA.out.b0
  have HJ : Hid _ := joined1 m.mem V5.heap.size (V5.alloc (.cells #[.string m.mem] 9)) (heap_new _ _) HL.out.s
  have HBA : Hid (Below V5.heap.size V5 (V5.alloc (.cells #[.string m.mem] 9))) := (Below.refl _ _).alloc (Nat.le_refl _) _
  go_upto_region 7 with (go_at_call 129; refine Calls.mono HJ.out ?_; rintro e u6 ⟨rfl, hb⟩; have HD5 : Hid (CO w u6 #[.int .i64 m.pc, .slice ar2 m.rs.length cr2, .int .i64 m.md, .slice ac2 m.cs.length cc2, .slice av2 m.vs.length cv2, .string m.mem, .int .i64 m.st, .int .i64 m.ct, .int .i64 m.ln, .slice ai2 m.is.length ci2, .slice ao2 m.os.length co2, .int .i64 m.tr]) := HCA.out.step hb; replace HRr : Hid (Orow2 u6 lr hr (.slice ar2 m.rs.length cr2) m.rs) := (HRr.out.gi (GI.of_below (lo := 0) (hi := 0) HBA.out) (.inr (Nat.zero_le _))).gi (GI.of_below (lo := 0) (hi := 0) hb) (.inr (Nat.zero_le _)); replace HRc : Hid (Orow2 u6 lc hc (.slice ac2 m.cs.length cc2) m.cs) := (HRc.out.gi (GI.of_below (lo := 0) (hi := 0) HBA.out) (.inr (Nat.zero_le _))).gi (GI.of_below (lo := 0) (hi := 0) hb) (.inr (Nat.zero_le _)); replace HRv : Hid (Orow2 u6 lv hv (.slice av2 m.vs.length cv2) m.vs) := (HRv.out.gi (GI.of_below (lo := 0) (hi := 0) HBA.out) (.inr (Nat.zero_le _))).gi (GI.of_below (lo := 0) (hi := 0) hb) (.inr (Nat.zero_le _)); replace HRi : Hid (Prow2 u6 li hi (.slice ai2 m.is.length ci2) m.is) := (HRi.out.gi (GI.of_below (lo := 0) (hi := 0) HBA.out) (.inr (Nat.zero_le _))).gi (GI.of_below (lo := 0) (hi := 0) hb) (.inr (Nat.zero_le _)); replace HRo : Hid (Prow2 u6 lo ho (.slice ao2 m.os.length co2) m.os) := (HRo.out.gi (GI.of_below (lo := 0) (hi := 0) HBA.out) (.inr (Nat.zero_le _))).gi (GI.of_below (lo := 0) (hi := 0) hb) (.inr (Nat.zero_le _)); have HV5 : Hid (ho ≤ u6.heap.size) := (show ho ≤ u6.heap.size by have h1 := HV4.out; have h2 := HBA.out.size; have h3 := hb.size; omega); clear hb c0 c1 c2 c3 c4 c5 c6 c7 c8 c9 c10 c11 cf x0 x1 x2 x3 x4 x5 x6 x7 x8 x9 x10 x11 xf; obtain ⟨d0, d1, d2, d3, d4, d5, d6, d7, d8, d9, d10, d11, df⟩ := cel12 HD5.out.b0)
  have HC6 : Hid (CO w (u6.setCell ⟨w.heap.size, 5, none⟩ (.string m.mem)) #[.int .i64 m.pc, .slice ar2 m.rs.length cr2, .int .i64 m.md, .slice ac2 m.cs.length cc2, .slice av2 m.vs.length cv2, .string m.mem, .int .i64 m.st, .int .i64 m.ct, .int .i64 m.ln, .slice ai2 m.is.length ci2, .slice ao2 m.os.length co2, .int .i64 m.tr]) := HD5.out.set 5 (.string m.mem)
  replace HRr : Hid (Orow2 (u6.setCell ⟨w.heap.size, 5, none⟩ (.string m.mem)) lr hr (.slice ar2 m.rs.length cr2) m.rs) := HRr.out.gi setG (.inr (by have := HOr.out; omega))
  replace HRc : Hid (Orow2 (u6.setCell ⟨w.heap.size, 5, none⟩ (.string m.mem)) lc hc (.slice ac2 m.cs.length cc2) m.cs) := HRc.out.gi setG (.inr (by have := HOc.out; omega))
  replace HRv : Hid (Orow2 (u6.setCell ⟨w.heap.size, 5, none⟩ (.string m.mem)) lv hv (.slice av2 m.vs.length cv2) m.vs) := HRv.out.gi setG (.inr (by have := HOv.out; omega))
  replace HRi : Hid (Prow2 (u6.setCell ⟨w.heap.size, 5, none⟩ (.string m.mem)) li hi (.slice ai2 m.is.length ci2) m.is) := HRi.out.gi setG (.inr (by have := HOi.out; omega))
  replace HRo : Hid (Prow2 (u6.setCell ⟨w.heap.size, 5, none⟩ (.string m.mem)) lo ho (.slice ao2 m.os.length co2) m.os) := HRo.out.gi setG (.inr (by have := HOo.out; omega))
  have HV6 : Hid (ho ≤ (u6.setCell ⟨w.heap.size, 5, none⟩ (.string m.mem)).heap.size) := (show ho ≤ _ by simpa [World.setCell] using HV5.out)
  generalize u6.setCell ⟨w.heap.size, 5, none⟩ (.string m.mem) = V6 at *
  clear HC5 HD5 HCA HJ HBA HV4 HV5 d0 d1 d2 d3 d4 d5 d6 d7 d8 d9 d10 d11 df
  obtain ⟨c0, c1, c2, c3, c4, c5, c6, c7, c8, c9, c10, c11, cf⟩ := cel12 HC6.out.b0
  obtain ⟨k0, k1, k2, k3, k4, k5, k6, k7, k8, k9, k10, k11, kf⟩ := cel12 HC6.out.b1
  have g0 : w.heap.size < V6.heap.size := by have := HC6.out.lt; omega
  have g1 : w.heap.size + 1 < V6.heap.size := HC6.out.lt
  go_wp2
  obtain ⟨e1, e2, e3⟩ := st12 HC6.out.bel (Nat.le_succ _) HC6.out.b1 (.int .i64 m.pc) (.slice ar2 m.rs.length cr2) (.int .i64 m.md) (.slice ac2 m.cs.length cc2) (.slice av2 m.vs.length cv2) (.string m.mem) (.int .i64 m.st) (.int .i64 m.ct) (.int .i64 m.ln) (.slice ai2 m.is.length ci2) (.slice ao2 m.os.length co2) (.int .i64 m.tr) rfl
  obtain ⟨f0, f1, f2, f3, f4, f5, f6, f7, f8, f9, f10, f11, _⟩ := cel12 e2
  have e4 : ∀ k, w.heap.size + 2 ≤ k → _ := fun k (hk : w.heap.size + 2 ≤ k) => e3 k (by omega)
  refine bodyPost_ret (v := .agg #[.int .i64 m.pc, .slice ar2 m.rs.length cr2, .int .i64 m.md, .slice ac2 m.cs.length cc2, .slice av2 m.vs.length cv2, .string m.mem, .int .i64 m.st, .int .i64 m.ct, .int .i64 m.ln, .slice ai2 m.is.length ci2, .slice ao2 m.os.length co2, .int .i64 m.tr]) ?_ rfl ⟨⟨ar2, cr2, ac2, cc2, av2, cv2, ai2, ci2, ao2, co2⟩, ⟨lr, lc, lv, li, lo, ho⟩, rfl, ⟨?_, ?_, ?_, ?_, ?_, ?_⟩, ?_, ?_, e1⟩
  · simp only [results, Try.results96, go_sem]
    simp [go_sem, f0, f1, f2, f3, f4, f5, f6, f7, f8, f9, f10, f11]
  · have h1 := HOr.out
    have h2 := HOc.out
    have h3 := HOv.out
    have h4 := HOi.out
    have h5 := HOo.out
    exact ⟨by simp only; omega, by simp only; omega, by simp only; omega, by simp only; omega, by simp only; omega⟩
  · exact (HRr.out.heap (fun k hk _ => e4 k (by have := HOr.out; omega))).weak (Nat.le_refl _) (by have := HOc.out; simp only; omega)
  · exact (HRc.out.heap (fun k hk _ => e4 k (by have := HOc.out; omega))).weak (Nat.le_refl _) (by have := HOv.out; simp only; omega)
  · exact (HRv.out.heap (fun k hk _ => e4 k (by have := HOv.out; omega))).weak (Nat.le_refl _) (by have := HOi.out; simp only; omega)
  · exact (HRi.out.heap (fun k hk _ => e4 k (by have := HOi.out; omega))).weak (Nat.le_refl _) (by have := HOo.out; simp only; omega)
  · exact (HRo.out.heap (fun k hk _ => e4 k (by have := HOo.out; omega))).weak (Nat.le_refl _) (Nat.le_refl _)
  · have h1 := HOr.out
    simp only
    omega
  · have h1 := HV6.out
    simp only
    simpa [World.setCell] using h1
set_option maxRecDepth 100000 in
set_option maxHeartbeats 8000000 in
theorem l04Copy_any {w : World} {m : MV} {a : MA} (h : MRows w m a) (hl : MLen m) : Calls Try.prog 93 #[.agg (mC m a)] w fun e w' => CopyA w m e w' := by
  have HC0 : Hid (CO w ((w.alloc (.cells #[.int .i64 m.pc, .slice a.ar m.rs.length a.cr, .int .i64 m.md, .slice a.ac m.cs.length a.cc, .slice a.av m.vs.length a.cv, .string m.mem, .int .i64 m.st, .int .i64 m.ct, .int .i64 m.ln, .slice a.ai m.is.length a.ci, .slice a.ao m.os.length a.co, .int .i64 m.tr] 73)).alloc (.cells #[.int .i64 0, .slice none 0 0, .int .i64 0, .slice none 0 0, .slice none 0 0, .string ⟨#[]⟩, .int .i64 0, .int .i64 0, .int .i64 0, .slice none 0 0, .slice none 0 0, .int .i64 0] 73)) #[.int .i64 m.pc, .slice a.ar m.rs.length a.cr, .int .i64 m.md, .slice a.ac m.cs.length a.cc, .slice a.av m.vs.length a.cv, .string m.mem, .int .i64 m.st, .int .i64 m.ct, .int .i64 m.ln, .slice a.ai m.is.length a.ci, .slice a.ao m.os.length a.co, .int .i64 m.tr]) := CO.new w _
  have HM : Hid (MRows w m a) := h
  have HL : Hid (MLen m) := hl
  clear h hl
  unfold mC
  go_enter Try.func93, Try.ntmps93
  go_upto_region 1 with fail
  generalize (w.alloc (.cells #[.int .i64 m.pc, .slice a.ar m.rs.length a.cr, .int .i64 m.md, .slice a.ac m.cs.length a.cc, .slice a.av m.vs.length a.cv, .string m.mem, .int .i64 m.st, .int .i64 m.ct, .int .i64 m.ln, .slice a.ai m.is.length a.ci, .slice a.ao m.os.length a.co, .int .i64 m.tr] 73)).alloc (.cells #[.int .i64 0, .slice none 0 0, .int .i64 0, .slice none 0 0, .slice none 0 0, .string ⟨#[]⟩, .int .i64 0, .int .i64 0, .int .i64 0, .slice none 0 0, .slice none 0 0, .int .i64 0] 73) = V0 at *
  obtain ⟨c0, c1, c2, c3, c4, c5, c6, c7, c8, c9, c10, c11, cf⟩ := cel12 HC0.out.b0
  have lt0 := HC0.out.lt
  have g0 : w.heap.size < V0.heap.size := by omega
  go_upto_region 2 with (go_at_call 65; refine Calls.mono (l01Ints_any (HM.out.below HC0.out.bel).r HL.out.r) ?_; rintro e u1 ⟨v9, rfl, ho, hb⟩; obtain ⟨ar2, cr2, he9⟩ := ho.irow.sl; subst he9; have HD0 : Hid (CO w u1 #[.int .i64 m.pc, .slice a.ar m.rs.length a.cr, .int .i64 m.md, .slice a.ac m.cs.length a.cc, .slice a.av m.vs.length a.cv, .string m.mem, .int .i64 m.st, .int .i64 m.ct, .int .i64 m.ln, .slice a.ai m.is.length a.ci, .slice a.ao m.os.length a.co, .int .i64 m.tr]) := HC0.out.step hb; have HRr : Hid (Orow2 u1 V0.heap.size u1.heap.size (.slice ar2 m.rs.length cr2) m.rs) := Orow2.of ho (Nat.le_refl _); have HI0 : Hid (w.heap.size + 2 ≤ V0.heap.size ∧ V0.heap.size ≤ u1.heap.size) := ⟨HC0.out.lt, hb.size⟩; clear ho hb c0 c1 c2 c3 c4 c5 c6 c7 c8 c9 c10 c11 cf; obtain ⟨d0, d1, d2, d3, d4, d5, d6, d7, d8, d9, d10, d11, df⟩ := cel12 HD0.out.b0)
  have HC1 : Hid (CO w (u1.setCell ⟨w.heap.size, 1, none⟩ (.slice ar2 m.rs.length cr2)) #[.int .i64 m.pc, .slice ar2 m.rs.length cr2, .int .i64 m.md, .slice a.ac m.cs.length a.cc, .slice a.av m.vs.length a.cv, .string m.mem, .int .i64 m.st, .int .i64 m.ct, .int .i64 m.ln, .slice a.ai m.is.length a.ci, .slice a.ao m.os.length a.co, .int .i64 m.tr]) := HD0.out.set 1 (.slice ar2 m.rs.length cr2)
  replace HRr : Hid (Orow2 (u1.setCell ⟨w.heap.size, 1, none⟩ (.slice ar2 m.rs.length cr2)) V0.heap.size u1.heap.size (.slice ar2 m.rs.length cr2) m.rs) := HRr.out.gi setG (.inr (by have := HI0.out; omega))
  have HV0 : Hid (u1.heap.size ≤ (u1.setCell ⟨w.heap.size, 1, none⟩ (.slice ar2 m.rs.length cr2)).heap.size) := (show _ ≤ _ by simp [World.setCell])
  generalize u1.setCell ⟨w.heap.size, 1, none⟩ (.slice ar2 m.rs.length cr2) = V1 at *
  obtain ⟨lr, hlr⟩ : ∃ l, V0.heap.size = l := ⟨_, rfl⟩
  obtain ⟨hr, hhr⟩ : ∃ l, u1.heap.size = l := ⟨_, rfl⟩
  rw [hlr, hhr] at HRr HI0
  rw [hhr] at HV0
  have HOr : Hid (w.heap.size + 2 ≤ lr ∧ lr ≤ hr) := HI0.out
  clear hlr hhr HI0 HC0 HD0 d0 d1 d2 d3 d4 d5 d6 d7 d8 d9 d10 d11 df lt0 g0
  obtain ⟨c0, c1, c2, c3, c4, c5, c6, c7, c8, c9, c10, c11, cf⟩ := cel12 HC1.out.b0
  have lt1 := HC1.out.lt
  have g0 : w.heap.size < V1.heap.size := by omega
  go_upto_region 3 with (go_at_call 65; refine Calls.mono (l01Ints_any (HM.out.below HC1.out.bel).c HL.out.c) ?_; rintro e u2 ⟨v9, rfl, ho, hb⟩; obtain ⟨ac2, cc2, he9⟩ := ho.irow.sl; subst he9; have HD1 : Hid (CO w u2 #[.int .i64 m.pc, .slice ar2 m.rs.length cr2, .int .i64 m.md, .slice a.ac m.cs.length a.cc, .slice a.av m.vs.length a.cv, .string m.mem, .int .i64 m.st, .int .i64 m.ct, .int .i64 m.ln, .slice a.ai m.is.length a.ci, .slice a.ao m.os.length a.co, .int .i64 m.tr]) := HC1.out.step hb; have HRc : Hid (Orow2 u2 V1.heap.size u2.heap.size (.slice ac2 m.cs.length cc2) m.cs) := Orow2.of ho (Nat.le_refl _); have HI1 : Hid (w.heap.size + 2 ≤ V1.heap.size ∧ V1.heap.size ≤ u2.heap.size) := ⟨HC1.out.lt, hb.size⟩; replace HRr : Hid (Orow2 u2 lr hr (.slice ar2 m.rs.length cr2) m.rs) := HRr.out.gi (GI.of_below (lo := 0) (hi := 0) hb) (.inr (Nat.zero_le _)); clear ho hb c0 c1 c2 c3 c4 c5 c6 c7 c8 c9 c10 c11 cf; obtain ⟨d0, d1, d2, d3, d4, d5, d6, d7, d8, d9, d10, d11, df⟩ := cel12 HD1.out.b0)
  have HC2 : Hid (CO w (u2.setCell ⟨w.heap.size, 3, none⟩ (.slice ac2 m.cs.length cc2)) #[.int .i64 m.pc, .slice ar2 m.rs.length cr2, .int .i64 m.md, .slice ac2 m.cs.length cc2, .slice a.av m.vs.length a.cv, .string m.mem, .int .i64 m.st, .int .i64 m.ct, .int .i64 m.ln, .slice a.ai m.is.length a.ci, .slice a.ao m.os.length a.co, .int .i64 m.tr]) := HD1.out.set 3 (.slice ac2 m.cs.length cc2)
  replace HRr : Hid (Orow2 (u2.setCell ⟨w.heap.size, 3, none⟩ (.slice ac2 m.cs.length cc2)) lr hr (.slice ar2 m.rs.length cr2) m.rs) := HRr.out.gi setG (.inr (by have := HOr.out; omega))
  replace HRc : Hid (Orow2 (u2.setCell ⟨w.heap.size, 3, none⟩ (.slice ac2 m.cs.length cc2)) V1.heap.size u2.heap.size (.slice ac2 m.cs.length cc2) m.cs) := HRc.out.gi setG (.inr (by have := HI1.out; omega))
  have HV1 : Hid (u2.heap.size ≤ (u2.setCell ⟨w.heap.size, 3, none⟩ (.slice ac2 m.cs.length cc2)).heap.size) := (show _ ≤ _ by simp [World.setCell])
  generalize u2.setCell ⟨w.heap.size, 3, none⟩ (.slice ac2 m.cs.length cc2) = V2 at *
  obtain ⟨lc, hlc⟩ : ∃ l, V1.heap.size = l := ⟨_, rfl⟩
  obtain ⟨hc, hhc⟩ : ∃ l, u2.heap.size = l := ⟨_, rfl⟩
  rw [hlc, hhc] at HRc HI1
  rw [hhc] at HV1
  rw [hlc] at HV0
  have HOc : Hid (w.heap.size + 2 ≤ lc ∧ lc ≤ hc ∧ hr ≤ lc) := ⟨HI1.out.1, HI1.out.2, HV0.out⟩
  clear hlc hhc HI1 HC1 HD1 d0 d1 d2 d3 d4 d5 d6 d7 d8 d9 d10 d11 df lt1 g0 HV0
  obtain ⟨c0, c1, c2, c3, c4, c5, c6, c7, c8, c9, c10, c11, cf⟩ := cel12 HC2.out.b0
  have lt2 := HC2.out.lt
  have g0 : w.heap.size < V2.heap.size := by omega
  go_upto_region 4 with (go_at_call 65; refine Calls.mono (l01Ints_any (HM.out.below HC2.out.bel).v HL.out.v) ?_; rintro e u3 ⟨v9, rfl, ho, hb⟩; obtain ⟨av2, cv2, he9⟩ := ho.irow.sl; subst he9; have HD2 : Hid (CO w u3 #[.int .i64 m.pc, .slice ar2 m.rs.length cr2, .int .i64 m.md, .slice ac2 m.cs.length cc2, .slice a.av m.vs.length a.cv, .string m.mem, .int .i64 m.st, .int .i64 m.ct, .int .i64 m.ln, .slice a.ai m.is.length a.ci, .slice a.ao m.os.length a.co, .int .i64 m.tr]) := HC2.out.step hb; have HRv : Hid (Orow2 u3 V2.heap.size u3.heap.size (.slice av2 m.vs.length cv2) m.vs) := Orow2.of ho (Nat.le_refl _); have HI2 : Hid (w.heap.size + 2 ≤ V2.heap.size ∧ V2.heap.size ≤ u3.heap.size) := ⟨HC2.out.lt, hb.size⟩; replace HRr : Hid (Orow2 u3 lr hr (.slice ar2 m.rs.length cr2) m.rs) := HRr.out.gi (GI.of_below (lo := 0) (hi := 0) hb) (.inr (Nat.zero_le _)); replace HRc : Hid (Orow2 u3 lc hc (.slice ac2 m.cs.length cc2) m.cs) := HRc.out.gi (GI.of_below (lo := 0) (hi := 0) hb) (.inr (Nat.zero_le _)); clear ho hb c0 c1 c2 c3 c4 c5 c6 c7 c8 c9 c10 c11 cf; obtain ⟨d0, d1, d2, d3, d4, d5, d6, d7, d8, d9, d10, d11, df⟩ := cel12 HD2.out.b0)
  have HC3 : Hid (CO w (u3.setCell ⟨w.heap.size, 4, none⟩ (.slice av2 m.vs.length cv2)) #[.int .i64 m.pc, .slice ar2 m.rs.length cr2, .int .i64 m.md, .slice ac2 m.cs.length cc2, .slice av2 m.vs.length cv2, .string m.mem, .int .i64 m.st, .int .i64 m.ct, .int .i64 m.ln, .slice a.ai m.is.length a.ci, .slice a.ao m.os.length a.co, .int .i64 m.tr]) := HD2.out.set 4 (.slice av2 m.vs.length cv2)
  replace HRr : Hid (Orow2 (u3.setCell ⟨w.heap.size, 4, none⟩ (.slice av2 m.vs.length cv2)) lr hr (.slice ar2 m.rs.length cr2) m.rs) := HRr.out.gi setG (.inr (by have := HOr.out; omega))
  replace HRc : Hid (Orow2 (u3.setCell ⟨w.heap.size, 4, none⟩ (.slice av2 m.vs.length cv2)) lc hc (.slice ac2 m.cs.length cc2) m.cs) := HRc.out.gi setG (.inr (by have := HOc.out; omega))
  replace HRv : Hid (Orow2 (u3.setCell ⟨w.heap.size, 4, none⟩ (.slice av2 m.vs.length cv2)) V2.heap.size u3.heap.size (.slice av2 m.vs.length cv2) m.vs) := HRv.out.gi setG (.inr (by have := HI2.out; omega))
  have HV2 : Hid (u3.heap.size ≤ (u3.setCell ⟨w.heap.size, 4, none⟩ (.slice av2 m.vs.length cv2)).heap.size) := (show _ ≤ _ by simp [World.setCell])
  generalize u3.setCell ⟨w.heap.size, 4, none⟩ (.slice av2 m.vs.length cv2) = V3 at *
  obtain ⟨lv, hlv⟩ : ∃ l, V2.heap.size = l := ⟨_, rfl⟩
  obtain ⟨hv, hhv⟩ : ∃ l, u3.heap.size = l := ⟨_, rfl⟩
  rw [hlv, hhv] at HRv HI2
  rw [hhv] at HV2
  rw [hlv] at HV1
  have HOv : Hid (w.heap.size + 2 ≤ lv ∧ lv ≤ hv ∧ hc ≤ lv) := ⟨HI2.out.1, HI2.out.2, HV1.out⟩
  clear hlv hhv HI2 HC2 HD2 d0 d1 d2 d3 d4 d5 d6 d7 d8 d9 d10 d11 df lt2 g0 HV1
  obtain ⟨c0, c1, c2, c3, c4, c5, c6, c7, c8, c9, c10, c11, cf⟩ := cel12 HC3.out.b0
  have lt3 := HC3.out.lt
  have g0 : w.heap.size < V3.heap.size := by omega
  have HAP : Hid _ := appV (w := V3) (HM.out.below HC3.out.bel).i HL.out.i
  have HCA : Hid (CO w (V3.alloc (.cells #[] 155)) #[.int .i64 m.pc, .slice ar2 m.rs.length cr2, .int .i64 m.md, .slice ac2 m.cs.length cc2, .slice av2 m.vs.length cv2, .string m.mem, .int .i64 m.st, .int .i64 m.ct, .int .i64 m.ln, .slice a.ai m.is.length a.ci, .slice a.ao m.os.length a.co, .int .i64 m.tr]) := HC3.out.step ((Below.refl _ _).alloc (Nat.le_refl _) _)
  obtain ⟨x0, x1, x2, x3, x4, x5, x6, x7, x8, x9, x10, x11, xf⟩ := cel12 HCA.out.b0
  go_upto_region 5 with (at_builtin; (refine wl_append_ex rfl _ _ 71 rfl _ _ rfl rfl HAP.out ?_; rintro v9 u4 ⟨ho, hg⟩; obtain ⟨ai2, ci2, he9⟩ := pv_sl ho; subst he9; have hb : Below V3.heap.size V3 u4 := ((Below.refl V3.heap.size V3).alloc (Nat.le_refl _) _).grown hg (by simp) (fun j hj => by cases hj; exact Nat.le_refl _); have HD3 : Hid (CO w u4 #[.int .i64 m.pc, .slice ar2 m.rs.length cr2, .int .i64 m.md, .slice ac2 m.cs.length cc2, .slice av2 m.vs.length cv2, .string m.mem, .int .i64 m.st, .int .i64 m.ct, .int .i64 m.ln, .slice a.ai m.is.length a.ci, .slice a.ao m.os.length a.co, .int .i64 m.tr]) := HC3.out.step hb; have HRi : Hid (Prow2 u4 V3.heap.size u4.heap.size (.slice ai2 m.is.length ci2) m.is) := Prow2.of ho (Nat.le_refl _); have HI3 : Hid (w.heap.size + 2 ≤ V3.heap.size ∧ V3.heap.size ≤ u4.heap.size) := ⟨HC3.out.lt, hb.size⟩; replace HRr : Hid (Orow2 u4 lr hr (.slice ar2 m.rs.length cr2) m.rs) := HRr.out.gi (GI.of_below (lo := 0) (hi := 0) hb) (.inr (Nat.zero_le _)); replace HRc : Hid (Orow2 u4 lc hc (.slice ac2 m.cs.length cc2) m.cs) := HRc.out.gi (GI.of_below (lo := 0) (hi := 0) hb) (.inr (Nat.zero_le _)); replace HRv : Hid (Orow2 u4 lv hv (.slice av2 m.vs.length cv2) m.vs) := HRv.out.gi (GI.of_below (lo := 0) (hi := 0) hb) (.inr (Nat.zero_le _)); clear ho hb c0 c1 c2 c3 c4 c5 c6 c7 c8 c9 c10 c11 cf x0 x1 x2 x3 x4 x5 x6 x7 x8 x9 x10 x11 xf HAP HCA; obtain ⟨d0, d1, d2, d3, d4, d5, d6, d7, d8, d9, d10, d11, df⟩ := cel12 HD3.out.b0))
  have HC4 : Hid (CO w (u4.setCell ⟨w.heap.size, 9, none⟩ (.slice ai2 m.is.length ci2)) #[.int .i64 m.pc, .slice ar2 m.rs.length cr2, .int .i64 m.md, .slice ac2 m.cs.length cc2, .slice av2 m.vs.length cv2, .string m.mem, .int .i64 m.st, .int .i64 m.ct, .int .i64 m.ln, .slice ai2 m.is.length ci2, .slice a.ao m.os.length a.co, .int .i64 m.tr]) := HD3.out.set 9 (.slice ai2 m.is.length ci2)
  replace HRr : Hid (Orow2 (u4.setCell ⟨w.heap.size, 9, none⟩ (.slice ai2 m.is.length ci2)) lr hr (.slice ar2 m.rs.length cr2) m.rs) := HRr.out.gi setG (.inr (by have := HOr.out; omega))
  replace HRc : Hid (Orow2 (u4.setCell ⟨w.heap.size, 9, none⟩ (.slice ai2 m.is.length ci2)) lc hc (.slice ac2 m.cs.length cc2) m.cs) := HRc.out.gi setG (.inr (by have := HOc.out; omega))
  replace HRv : Hid (Orow2 (u4.setCell ⟨w.heap.size, 9, none⟩ (.slice ai2 m.is.length ci2)) lv hv (.slice av2 m.vs.length cv2) m.vs) := HRv.out.gi setG (.inr (by have := HOv.out; omega))
  replace HRi : Hid (Prow2 (u4.setCell ⟨w.heap.size, 9, none⟩ (.slice ai2 m.is.length ci2)) V3.heap.size u4.heap.size (.slice ai2 m.is.length ci2) m.is) := HRi.out.gi setG (.inr (by have := HI3.out; omega))
  have HV3 : Hid (u4.heap.size ≤ (u4.setCell ⟨w.heap.size, 9, none⟩ (.slice ai2 m.is.length ci2)).heap.size) := (show _ ≤ _ by simp [World.setCell])
  generalize u4.setCell ⟨w.heap.size, 9, none⟩ (.slice ai2 m.is.length ci2) = V4 at *
  obtain ⟨li, hli⟩ : ∃ l, V3.heap.size = l := ⟨_, rfl⟩
  obtain ⟨hi, hhi⟩ : ∃ l, u4.heap.size = l := ⟨_, rfl⟩
  rw [hli, hhi] at HRi HI3
  rw [hhi] at HV3
  rw [hli] at HV2
  have HOi : Hid (w.heap.size + 2 ≤ li ∧ li ≤ hi ∧ hv ≤ li) := ⟨HI3.out.1, HI3.out.2, HV2.out⟩
  clear hli hhi HI3 HC3 HD3 d0 d1 d2 d3 d4 d5 d6 d7 d8 d9 d10 d11 df lt3 g0 HV2
  obtain ⟨c0, c1, c2, c3, c4, c5, c6, c7, c8, c9, c10, c11, cf⟩ := cel12 HC4.out.b0
  have lt4 := HC4.out.lt
  have g0 : w.heap.size < V4.heap.size := by omega
  have HAP : Hid _ := appV (w := V4) (HM.out.below HC4.out.bel).o HL.out.o
  have HCA : Hid (CO w (V4.alloc (.cells #[] 155)) #[.int .i64 m.pc, .slice ar2 m.rs.length cr2, .int .i64 m.md, .slice ac2 m.cs.length cc2, .slice av2 m.vs.length cv2, .string m.mem, .int .i64 m.st, .int .i64 m.ct, .int .i64 m.ln, .slice ai2 m.is.length ci2, .slice a.ao m.os.length a.co, .int .i64 m.tr]) := HC4.out.step ((Below.refl _ _).alloc (Nat.le_refl _) _)
  obtain ⟨x0, x1, x2, x3, x4, x5, x6, x7, x8, x9, x10, x11, xf⟩ := cel12 HCA.out.b0
  go_upto_region 6 with (at_builtin; (refine wl_append_ex rfl _ _ 71 rfl _ _ rfl rfl HAP.out ?_; rintro v9 u5 ⟨ho, hg⟩; obtain ⟨ao2, co2, he9⟩ := pv_sl ho; subst he9; have hb : Below V4.heap.size V4 u5 := ((Below.refl V4.heap.size V4).alloc (Nat.le_refl _) _).grown hg (by simp) (fun j hj => by cases hj; exact Nat.le_refl _); have HD4 : Hid (CO w u5 #[.int .i64 m.pc, .slice ar2 m.rs.length cr2, .int .i64 m.md, .slice ac2 m.cs.length cc2, .slice av2 m.vs.length cv2, .string m.mem, .int .i64 m.st, .int .i64 m.ct, .int .i64 m.ln, .slice ai2 m.is.length ci2, .slice a.ao m.os.length a.co, .int .i64 m.tr]) := HC4.out.step hb; have HRo : Hid (Prow2 u5 V4.heap.size u5.heap.size (.slice ao2 m.os.length co2) m.os) := Prow2.of ho (Nat.le_refl _); have HI4 : Hid (w.heap.size + 2 ≤ V4.heap.size ∧ V4.heap.size ≤ u5.heap.size) := ⟨HC4.out.lt, hb.size⟩; replace HRr : Hid (Orow2 u5 lr hr (.slice ar2 m.rs.length cr2) m.rs) := HRr.out.gi (GI.of_below (lo := 0) (hi := 0) hb) (.inr (Nat.zero_le _)); replace HRc : Hid (Orow2 u5 lc hc (.slice ac2 m.cs.length cc2) m.cs) := HRc.out.gi (GI.of_below (lo := 0) (hi := 0) hb) (.inr (Nat.zero_le _)); replace HRv : Hid (Orow2 u5 lv hv (.slice av2 m.vs.length cv2) m.vs) := HRv.out.gi (GI.of_below (lo := 0) (hi := 0) hb) (.inr (Nat.zero_le _)); replace HRi : Hid (Prow2 u5 li hi (.slice ai2 m.is.length ci2) m.is) := HRi.out.gi (GI.of_below (lo := 0) (hi := 0) hb) (.inr (Nat.zero_le _)); clear ho hb c0 c1 c2 c3 c4 c5 c6 c7 c8 c9 c10 c11 cf x0 x1 x2 x3 x4 x5 x6 x7 x8 x9 x10 x11 xf HAP HCA; obtain ⟨d0, d1, d2, d3, d4, d5, d6, d7, d8, d9, d10, d11, df⟩ := cel12 HD4.out.b0))
  have HC5 : Hid (CO w (u5.setCell ⟨w.heap.size, 10, none⟩ (.slice ao2 m.os.length co2)) #[.int .i64 m.pc, .slice ar2 m.rs.length cr2, .int .i64 m.md, .slice ac2 m.cs.length cc2, .slice av2 m.vs.length cv2, .string m.mem, .int .i64 m.st, .int .i64 m.ct, .int .i64 m.ln, .slice ai2 m.is.length ci2, .slice ao2 m.os.length co2, .int .i64 m.tr]) := HD4.out.set 10 (.slice ao2 m.os.length co2)
  replace HRr : Hid (Orow2 (u5.setCell ⟨w.heap.size, 10, none⟩ (.slice ao2 m.os.length co2)) lr hr (.slice ar2 m.rs.length cr2) m.rs) := HRr.out.gi setG (.inr (by have := HOr.out; omega))
  replace HRc : Hid (Orow2 (u5.setCell ⟨w.heap.size, 10, none⟩ (.slice ao2 m.os.length co2)) lc hc (.slice ac2 m.cs.length cc2) m.cs) := HRc.out.gi setG (.inr (by have := HOc.out; omega))
  replace HRv : Hid (Orow2 (u5.setCell ⟨w.heap.size, 10, none⟩ (.slice ao2 m.os.length co2)) lv hv (.slice av2 m.vs.length cv2) m.vs) := HRv.out.gi setG (.inr (by have := HOv.out; omega))
  replace HRi : Hid (Prow2 (u5.setCell ⟨w.heap.size, 10, none⟩ (.slice ao2 m.os.length co2)) li hi (.slice ai2 m.is.length ci2) m.is) := HRi.out.gi setG (.inr (by have := HOi.out; omega))
  replace HRo : Hid (Prow2 (u5.setCell ⟨w.heap.size, 10, none⟩ (.slice ao2 m.os.length co2)) V4.heap.size u5.heap.size (.slice ao2 m.os.length co2) m.os) := HRo.out.gi setG (.inr (by have := HI4.out; omega))
  have HV4 : Hid (u5.heap.size ≤ (u5.setCell ⟨w.heap.size, 10, none⟩ (.slice ao2 m.os.length co2)).heap.size) := (show _ ≤ _ by simp [World.setCell])
  generalize u5.setCell ⟨w.heap.size, 10, none⟩ (.slice ao2 m.os.length co2) = V5 at *
  obtain ⟨lo, hlo⟩ : ∃ l, V4.heap.size = l := ⟨_, rfl⟩
  obtain ⟨ho, hho⟩ : ∃ l, u5.heap.size = l := ⟨_, rfl⟩
  rw [hlo, hho] at HRo HI4
  rw [hho] at HV4
  rw [hlo] at HV3
  have HOo : Hid (w.heap.size + 2 ≤ lo ∧ lo ≤ ho ∧ hi ≤ lo) := ⟨HI4.out.1, HI4.out.2, HV3.out⟩
  clear hlo hho HI4 HC4 HD4 d0 d1 d2 d3 d4 d5 d6 d7 d8 d9 d10 d11 df lt4 g0 HV3
  obtain ⟨c0, c1, c2, c3, c4, c5, c6, c7, c8, c9, c10, c11, cf⟩ := cel12 HC5.out.b0
  obtain ⟨k0, k1, k2, k3, k4, k5, k6, k7, k8, k9, k10, k11, kf⟩ := cel12 HC5.out.b1
  have g0 : w.heap.size < V5.heap.size := by have := HC5.out.lt; omega
  have g1 : w.heap.size + 1 < V5.heap.size := HC5.out.lt
  go_wp2
  obtain ⟨e1, e2, e3⟩ := st12 HC5.out.bel (Nat.le_succ _) HC5.out.b1 (.int .i64 m.pc) (.slice ar2 m.rs.length cr2) (.int .i64 m.md) (.slice ac2 m.cs.length cc2) (.slice av2 m.vs.length cv2) (.string m.mem) (.int .i64 m.st) (.int .i64 m.ct) (.int .i64 m.ln) (.slice ai2 m.is.length ci2) (.slice ao2 m.os.length co2) (.int .i64 m.tr) rfl
  obtain ⟨f0, f1, f2, f3, f4, f5, f6, f7, f8, f9, f10, f11, _⟩ := cel12 e2
  have e4 : ∀ k, w.heap.size + 2 ≤ k → _ := fun k (hk : w.heap.size + 2 ≤ k) => e3 k (by omega)
  refine bodyPost_ret (v := .agg #[.int .i64 m.pc, .slice ar2 m.rs.length cr2, .int .i64 m.md, .slice ac2 m.cs.length cc2, .slice av2 m.vs.length cv2, .string m.mem, .int .i64 m.st, .int .i64 m.ct, .int .i64 m.ln, .slice ai2 m.is.length ci2, .slice ao2 m.os.length co2, .int .i64 m.tr]) ?_ rfl ⟨⟨ar2, cr2, ac2, cc2, av2, cv2, ai2, ci2, ao2, co2⟩, ⟨lr, lc, lv, li, lo, ho⟩, rfl, ⟨?_, ?_, ?_, ?_, ?_, ?_⟩, ?_, ?_, e1⟩
  · simp only [results, Try.results93, go_sem]
    simp [go_sem, f0, f1, f2, f3, f4, f5, f6, f7, f8, f9, f10, f11]
  · have h1 := HOr.out
    have h2 := HOc.out
    have h3 := HOv.out
    have h4 := HOi.out
    have h5 := HOo.out
    exact ⟨by simp only; omega, by simp only; omega, by simp only; omega, by simp only; omega, by simp only; omega⟩
  · exact (HRr.out.heap (fun k hk _ => e4 k (by have := HOr.out; omega))).weak (Nat.le_refl _) (by have := HOc.out; simp only; omega)
  · exact (HRc.out.heap (fun k hk _ => e4 k (by have := HOc.out; omega))).weak (Nat.le_refl _) (by have := HOv.out; simp only; omega)
  · exact (HRv.out.heap (fun k hk _ => e4 k (by have := HOv.out; omega))).weak (Nat.le_refl _) (by have := HOi.out; simp only; omega)
  · exact (HRi.out.heap (fun k hk _ => e4 k (by have := HOi.out; omega))).weak (Nat.le_refl _) (by have := HOo.out; simp only; omega)
  · exact (HRo.out.heap (fun k hk _ => e4 k (by have := HOo.out; omega))).weak (Nat.le_refl _) (Nat.le_refl _)
  · have h1 := HOr.out
    simp only
    omega
  · have h1 := HV4.out
    simp only
    simpa [World.setCell] using h1
end Go.Proofs.Ytjaelkagacmpkaa
