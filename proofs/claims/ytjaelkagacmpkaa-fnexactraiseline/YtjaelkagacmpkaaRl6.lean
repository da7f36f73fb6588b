import Derived.Test.YtjaelkagacmpkaaRl5
import Derived.Test.YtjaelkagacmpkaaMEq
namespace Go.Proofs.Ytjaelkagacmpkaa
open Go.ChangeShapes Go.WideShapes Go.ChangeAt Go.RowKit

/-- A machine's rows marked. -/
def mkM (m : MV) : MV := { m with rs := mkK (1 : Int) m.rs.length, cs := mkK (1 + (m.rs.length : Int)) m.cs.length, vs := mkK (1 + (m.rs.length : Int) + (m.cs.length : Int)) m.vs.length, is := mkV (1 + (m.rs.length : Int) + (m.cs.length : Int) + (m.vs.length : Int)) m.is.length, os := mkV (1 + (m.rs.length : Int) + (m.cs.length : Int) + (m.vs.length : Int) + 2 * (m.is.length : Int)) m.os.length }
def mkN (m : MV) : Int := (1 + (m.rs.length : Int) + (m.cs.length : Int) + (m.vs.length : Int) + 2 * (m.is.length : Int) + 2 * (m.os.length : Int))
theorem mkM_C (m : MV) (a : MA) : mC (mkM m) a = mC m a := by
  simp [mC, mkM, mkK_len, mkV_len]
theorem GI.widen {lo hi a b : Nat} {w u : World} (h : GI a b w u) (h1 : lo ≤ a) (h2 : b ≤ hi) : GI lo hi w u := ⟨h.os, h.tape, h.output, h.size, fun k hk q => h.block k hk (by omega)⟩
set_option maxRecDepth 100000 in
set_option maxHeartbeats 8000000 in
theorem markMachine_ok {w : World} {n : N6} {m : MV} {a : MA} (h : M5 w n m a) (hl : MLen m) (hn : n.f ≤ w.heap.size) : Calls Try.prog 44 #[.agg (mC m a), .int .i64 1] w fun e u => e = .returned (.int .i64 (mkN m)) ∧ M5 u n (mkM m) a ∧ GI n.a n.f w u := by
  have HB0 : Hid ((w.alloc (.cells #[.int .i64 m.pc, .slice a.ar m.rs.length a.cr, .int .i64 m.md, .slice a.ac m.cs.length a.cc, .slice a.av m.vs.length a.cv, .string m.mem, .int .i64 m.st, .int .i64 m.ct, .int .i64 m.ln, .slice a.ai m.is.length a.ci, .slice a.ao m.os.length a.co, .int .i64 m.tr] 73)).heap[w.heap.size]? = some (.cells #[.int .i64 m.pc, .slice a.ar m.rs.length a.cr, .int .i64 m.md, .slice a.ac m.cs.length a.cc, .slice a.av m.vs.length a.cv, .string m.mem, .int .i64 m.st, .int .i64 m.ct, .int .i64 m.ln, .slice a.ai m.is.length a.ci, .slice a.ao m.os.length a.co, .int .i64 m.tr] 73 (0, 0))) := heap_new _ _
  have hb := (Below.refl w.heap.size w).alloc (Nat.le_refl _) (.cells #[.int .i64 m.pc, .slice a.ar m.rs.length a.cr, .int .i64 m.md, .slice a.ac m.cs.length a.cc, .slice a.av m.vs.length a.cv, .string m.mem, .int .i64 m.st, .int .i64 m.ct, .int .i64 m.ln, .slice a.ai m.is.length a.ci, .slice a.ao m.os.length a.co, .int .i64 m.tr] 73)
  have HM0 : Hid (M5 (w.alloc (.cells #[.int .i64 m.pc, .slice a.ar m.rs.length a.cr, .int .i64 m.md, .slice a.ac m.cs.length a.cc, .slice a.av m.vs.length a.cv, .string m.mem, .int .i64 m.st, .int .i64 m.ct, .int .i64 m.ln, .slice a.ai m.is.length a.ci, .slice a.ao m.os.length a.co, .int .i64 m.tr] 73)) n m a) := h.step hb
  have HG0 : Hid (GI n.a n.f w (w.alloc (.cells #[.int .i64 m.pc, .slice a.ar m.rs.length a.cr, .int .i64 m.md, .slice a.ac m.cs.length a.cc, .slice a.av m.vs.length a.cv, .string m.mem, .int .i64 m.st, .int .i64 m.ct, .int .i64 m.ln, .slice a.ai m.is.length a.ci, .slice a.ao m.os.length a.co, .int .i64 m.tr] 73))) := GI.of_below hb
  have HL : Hid (MLen m) := hl
  have HLE : Hid _ := h.le
  have HNF : Hid (n.f ≤ w.heap.size) := hn
  clear h hb hl hn
  unfold mC
  go_enter Try.func44, Try.ntmps44
  go_upto_region 1 with fail
  generalize w.alloc (.cells #[.int .i64 m.pc, .slice a.ar m.rs.length a.cr, .int .i64 m.md, .slice a.ac m.cs.length a.cc, .slice a.av m.vs.length a.cv, .string m.mem, .int .i64 m.st, .int .i64 m.ct, .int .i64 m.ln, .slice a.ai m.is.length a.ci, .slice a.ao m.os.length a.co, .int .i64 m.tr] 73) = V0 at *
  obtain ⟨c0, c1, c2, c3, c4, c5, c6, c7, c8, c9, c10, c11, cf⟩ := cel12 HB0.out
  have g0 : w.heap.size < V0.heap.size := (Array.getElem?_eq_some_iff.1 HB0.out).1
  have HK0 : Hid (0 ≤ (1 : Int) ∧ (1 : Int) ≤ 1099511627776) := (show _ ∧ _ by have h1 := HL.out.r; have h2 := HL.out.c; have h3 := HL.out.v; have h4 := HL.out.i; have h5 := HL.out.o; exact ⟨by omega, by omega⟩)
  go_upto_region 2 with (go_at_call 26; refine Calls.mono (markO_ok (1 : Int) HM0.out.r HL.out.r HK0.out.1 HK0.out.2) ?_; rintro e V1 ⟨rfl, hr, hg⟩; clear c0 c1 c2 c3 c4 c5 c6 c7 c8 c9 c10 c11 cf g0; have Hr_1 : Hid (Orow2 V1 n.a n.b (.slice a.ar m.rs.length a.cr) (mkK (1 : Int) m.rs.length)) := hr; have HB1 : Hid (V1.heap[w.heap.size]? = some (.cells #[.int .i64 m.pc, .slice a.ar m.rs.length a.cr, .int .i64 m.md, .slice a.ac m.cs.length a.cc, .slice a.av m.vs.length a.cv, .string m.mem, .int .i64 m.st, .int .i64 m.ct, .int .i64 m.ln, .slice a.ai m.is.length a.ci, .slice a.ao m.os.length a.co, .int .i64 m.tr] 73 (0, 0))) := (hg.block _ (Array.getElem?_eq_some_iff.1 HB0.out).1 (by have h1 := HLE.out; have h2 := HNF.out; omega)).trans HB0.out; have HG1 : Hid (GI n.a n.f w V1) := HG0.out.trans (hg.widen (by have h1 := HLE.out; omega) (by have h1 := HLE.out; omega)); have Hc_1 : Hid (Orow2 V1 n.b n.c (.slice a.ac m.cs.length a.cc) m.cs) := (HM0.out.c).gi hg (by have h1 := HLE.out; omega); have Hv_1 : Hid (Orow2 V1 n.c n.d (.slice a.av m.vs.length a.cv) m.vs) := (HM0.out.v).gi hg (by have h1 := HLE.out; omega); have Hi_1 : Hid (Prow2 V1 n.d n.e (.slice a.ai m.is.length a.ci) m.is) := (HM0.out.i).gi hg (by have h1 := HLE.out; omega); have Ho_1 : Hid (Prow2 V1 n.e n.f (.slice a.ao m.os.length a.co) m.os) := (HM0.out.o).gi hg (by have h1 := HLE.out; omega); clear hr hg)
  clear HM0
  clear HB0 HG0 HK0
  obtain ⟨c0, c1, c2, c3, c4, c5, c6, c7, c8, c9, c10, c11, cf⟩ := cel12 HB1.out
  have g0 : w.heap.size < V1.heap.size := (Array.getElem?_eq_some_iff.1 HB1.out).1
  have HK1 : Hid (0 ≤ (1 + (m.rs.length : Int)) ∧ (1 + (m.rs.length : Int)) ≤ 1099511627776) := (show _ ∧ _ by have h1 := HL.out.r; have h2 := HL.out.c; have h3 := HL.out.v; have h4 := HL.out.i; have h5 := HL.out.o; exact ⟨by omega, by omega⟩)
  go_upto_region 3 with (go_at_call 26; refine Calls.mono (markO_ok (1 + (m.rs.length : Int)) Hc_1.out HL.out.c HK1.out.1 HK1.out.2) ?_; rintro e V2 ⟨rfl, hr, hg⟩; clear c0 c1 c2 c3 c4 c5 c6 c7 c8 c9 c10 c11 cf g0; have Hc_2 : Hid (Orow2 V2 n.b n.c (.slice a.ac m.cs.length a.cc) (mkK (1 + (m.rs.length : Int)) m.cs.length)) := hr; have HB2 : Hid (V2.heap[w.heap.size]? = some (.cells #[.int .i64 m.pc, .slice a.ar m.rs.length a.cr, .int .i64 m.md, .slice a.ac m.cs.length a.cc, .slice a.av m.vs.length a.cv, .string m.mem, .int .i64 m.st, .int .i64 m.ct, .int .i64 m.ln, .slice a.ai m.is.length a.ci, .slice a.ao m.os.length a.co, .int .i64 m.tr] 73 (0, 0))) := (hg.block _ (Array.getElem?_eq_some_iff.1 HB1.out).1 (by have h1 := HLE.out; have h2 := HNF.out; omega)).trans HB1.out; have HG2 : Hid (GI n.a n.f w V2) := HG1.out.trans (hg.widen (by have h1 := HLE.out; omega) (by have h1 := HLE.out; omega)); have Hr_2 : Hid (Orow2 V2 n.a n.b (.slice a.ar m.rs.length a.cr) (mkK (1 : Int) m.rs.length)) := (Hr_1.out).gi hg (by have h1 := HLE.out; omega); have Hv_2 : Hid (Orow2 V2 n.c n.d (.slice a.av m.vs.length a.cv) m.vs) := (Hv_1.out).gi hg (by have h1 := HLE.out; omega); have Hi_2 : Hid (Prow2 V2 n.d n.e (.slice a.ai m.is.length a.ci) m.is) := (Hi_1.out).gi hg (by have h1 := HLE.out; omega); have Ho_2 : Hid (Prow2 V2 n.e n.f (.slice a.ao m.os.length a.co) m.os) := (Ho_1.out).gi hg (by have h1 := HLE.out; omega); clear hr hg)
  clear HB1 HG1 HK1
  clear Hr_1
  clear Hc_1
  clear Hv_1
  clear Hi_1
  clear Ho_1
  obtain ⟨c0, c1, c2, c3, c4, c5, c6, c7, c8, c9, c10, c11, cf⟩ := cel12 HB2.out
  have g0 : w.heap.size < V2.heap.size := (Array.getElem?_eq_some_iff.1 HB2.out).1
  have HK2 : Hid (0 ≤ (1 + (m.rs.length : Int) + (m.cs.length : Int)) ∧ (1 + (m.rs.length : Int) + (m.cs.length : Int)) ≤ 1099511627776) := (show _ ∧ _ by have h1 := HL.out.r; have h2 := HL.out.c; have h3 := HL.out.v; have h4 := HL.out.i; have h5 := HL.out.o; exact ⟨by omega, by omega⟩)
  go_upto_region 4 with (go_at_call 26; refine Calls.mono (markO_ok (1 + (m.rs.length : Int) + (m.cs.length : Int)) Hv_2.out HL.out.v HK2.out.1 HK2.out.2) ?_; rintro e V3 ⟨rfl, hr, hg⟩; clear c0 c1 c2 c3 c4 c5 c6 c7 c8 c9 c10 c11 cf g0; have Hv_3 : Hid (Orow2 V3 n.c n.d (.slice a.av m.vs.length a.cv) (mkK (1 + (m.rs.length : Int) + (m.cs.length : Int)) m.vs.length)) := hr; have HB3 : Hid (V3.heap[w.heap.size]? = some (.cells #[.int .i64 m.pc, .slice a.ar m.rs.length a.cr, .int .i64 m.md, .slice a.ac m.cs.length a.cc, .slice a.av m.vs.length a.cv, .string m.mem, .int .i64 m.st, .int .i64 m.ct, .int .i64 m.ln, .slice a.ai m.is.length a.ci, .slice a.ao m.os.length a.co, .int .i64 m.tr] 73 (0, 0))) := (hg.block _ (Array.getElem?_eq_some_iff.1 HB2.out).1 (by have h1 := HLE.out; have h2 := HNF.out; omega)).trans HB2.out; have HG3 : Hid (GI n.a n.f w V3) := HG2.out.trans (hg.widen (by have h1 := HLE.out; omega) (by have h1 := HLE.out; omega)); have Hr_3 : Hid (Orow2 V3 n.a n.b (.slice a.ar m.rs.length a.cr) (mkK (1 : Int) m.rs.length)) := (Hr_2.out).gi hg (by have h1 := HLE.out; omega); have Hc_3 : Hid (Orow2 V3 n.b n.c (.slice a.ac m.cs.length a.cc) (mkK (1 + (m.rs.length : Int)) m.cs.length)) := (Hc_2.out).gi hg (by have h1 := HLE.out; omega); have Hi_3 : Hid (Prow2 V3 n.d n.e (.slice a.ai m.is.length a.ci) m.is) := (Hi_2.out).gi hg (by have h1 := HLE.out; omega); have Ho_3 : Hid (Prow2 V3 n.e n.f (.slice a.ao m.os.length a.co) m.os) := (Ho_2.out).gi hg (by have h1 := HLE.out; omega); clear hr hg)
  clear HB2 HG2 HK2
  clear Hr_2
  clear Hc_2
  clear Hv_2
  clear Hi_2
  clear Ho_2
  obtain ⟨c0, c1, c2, c3, c4, c5, c6, c7, c8, c9, c10, c11, cf⟩ := cel12 HB3.out
  have g0 : w.heap.size < V3.heap.size := (Array.getElem?_eq_some_iff.1 HB3.out).1
  have HK3 : Hid (0 ≤ (1 + (m.rs.length : Int) + (m.cs.length : Int) + (m.vs.length : Int)) ∧ (1 + (m.rs.length : Int) + (m.cs.length : Int) + (m.vs.length : Int)) ≤ 1099511627776) := (show _ ∧ _ by have h1 := HL.out.r; have h2 := HL.out.c; have h3 := HL.out.v; have h4 := HL.out.i; have h5 := HL.out.o; exact ⟨by omega, by omega⟩)
  go_upto_region 5 with (go_at_call 98; refine Calls.mono (markV_ok (1 + (m.rs.length : Int) + (m.cs.length : Int) + (m.vs.length : Int)) Hi_3.out HL.out.i HK3.out.1 HK3.out.2) ?_; rintro e V4 ⟨rfl, hr, hg⟩; clear c0 c1 c2 c3 c4 c5 c6 c7 c8 c9 c10 c11 cf g0; have Hi_4 : Hid (Prow2 V4 n.d n.e (.slice a.ai m.is.length a.ci) (mkV (1 + (m.rs.length : Int) + (m.cs.length : Int) + (m.vs.length : Int)) m.is.length)) := hr; have HB4 : Hid (V4.heap[w.heap.size]? = some (.cells #[.int .i64 m.pc, .slice a.ar m.rs.length a.cr, .int .i64 m.md, .slice a.ac m.cs.length a.cc, .slice a.av m.vs.length a.cv, .string m.mem, .int .i64 m.st, .int .i64 m.ct, .int .i64 m.ln, .slice a.ai m.is.length a.ci, .slice a.ao m.os.length a.co, .int .i64 m.tr] 73 (0, 0))) := (hg.block _ (Array.getElem?_eq_some_iff.1 HB3.out).1 (by have h1 := HLE.out; have h2 := HNF.out; omega)).trans HB3.out; have HG4 : Hid (GI n.a n.f w V4) := HG3.out.trans (hg.widen (by have h1 := HLE.out; omega) (by have h1 := HLE.out; omega)); have Hr_4 : Hid (Orow2 V4 n.a n.b (.slice a.ar m.rs.length a.cr) (mkK (1 : Int) m.rs.length)) := (Hr_3.out).gi hg (by have h1 := HLE.out; omega); have Hc_4 : Hid (Orow2 V4 n.b n.c (.slice a.ac m.cs.length a.cc) (mkK (1 + (m.rs.length : Int)) m.cs.length)) := (Hc_3.out).gi hg (by have h1 := HLE.out; omega); have Hv_4 : Hid (Orow2 V4 n.c n.d (.slice a.av m.vs.length a.cv) (mkK (1 + (m.rs.length : Int) + (m.cs.length : Int)) m.vs.length)) := (Hv_3.out).gi hg (by have h1 := HLE.out; omega); have Ho_4 : Hid (Prow2 V4 n.e n.f (.slice a.ao m.os.length a.co) m.os) := (Ho_3.out).gi hg (by have h1 := HLE.out; omega); clear hr hg)
  clear HB3 HG3 HK3
  clear Hr_3
  clear Hc_3
  clear Hv_3
  clear Hi_3
  clear Ho_3
  obtain ⟨c0, c1, c2, c3, c4, c5, c6, c7, c8, c9, c10, c11, cf⟩ := cel12 HB4.out
  have g0 : w.heap.size < V4.heap.size := (Array.getElem?_eq_some_iff.1 HB4.out).1
  have HK4 : Hid (0 ≤ (1 + (m.rs.length : Int) + (m.cs.length : Int) + (m.vs.length : Int) + 2 * (m.is.length : Int)) ∧ (1 + (m.rs.length : Int) + (m.cs.length : Int) + (m.vs.length : Int) + 2 * (m.is.length : Int)) ≤ 1099511627776) := (show _ ∧ _ by have h1 := HL.out.r; have h2 := HL.out.c; have h3 := HL.out.v; have h4 := HL.out.i; have h5 := HL.out.o; exact ⟨by omega, by omega⟩)
  go_upto_region 6 with (go_at_call 98; refine Calls.mono (markV_ok (1 + (m.rs.length : Int) + (m.cs.length : Int) + (m.vs.length : Int) + 2 * (m.is.length : Int)) Ho_4.out HL.out.o HK4.out.1 HK4.out.2) ?_; rintro e V5 ⟨rfl, hr, hg⟩; clear c0 c1 c2 c3 c4 c5 c6 c7 c8 c9 c10 c11 cf g0; have Ho_5 : Hid (Prow2 V5 n.e n.f (.slice a.ao m.os.length a.co) (mkV (1 + (m.rs.length : Int) + (m.cs.length : Int) + (m.vs.length : Int) + 2 * (m.is.length : Int)) m.os.length)) := hr; have HB5 : Hid (V5.heap[w.heap.size]? = some (.cells #[.int .i64 m.pc, .slice a.ar m.rs.length a.cr, .int .i64 m.md, .slice a.ac m.cs.length a.cc, .slice a.av m.vs.length a.cv, .string m.mem, .int .i64 m.st, .int .i64 m.ct, .int .i64 m.ln, .slice a.ai m.is.length a.ci, .slice a.ao m.os.length a.co, .int .i64 m.tr] 73 (0, 0))) := (hg.block _ (Array.getElem?_eq_some_iff.1 HB4.out).1 (by have h1 := HLE.out; have h2 := HNF.out; omega)).trans HB4.out; have HG5 : Hid (GI n.a n.f w V5) := HG4.out.trans (hg.widen (by have h1 := HLE.out; omega) (by have h1 := HLE.out; omega)); have Hr_5 : Hid (Orow2 V5 n.a n.b (.slice a.ar m.rs.length a.cr) (mkK (1 : Int) m.rs.length)) := (Hr_4.out).gi hg (by have h1 := HLE.out; omega); have Hc_5 : Hid (Orow2 V5 n.b n.c (.slice a.ac m.cs.length a.cc) (mkK (1 + (m.rs.length : Int)) m.cs.length)) := (Hc_4.out).gi hg (by have h1 := HLE.out; omega); have Hv_5 : Hid (Orow2 V5 n.c n.d (.slice a.av m.vs.length a.cv) (mkK (1 + (m.rs.length : Int) + (m.cs.length : Int)) m.vs.length)) := (Hv_4.out).gi hg (by have h1 := HLE.out; omega); have Hi_5 : Hid (Prow2 V5 n.d n.e (.slice a.ai m.is.length a.ci) (mkV (1 + (m.rs.length : Int) + (m.cs.length : Int) + (m.vs.length : Int)) m.is.length)) := (Hi_4.out).gi hg (by have h1 := HLE.out; omega); clear hr hg)
  clear HB4 HG4 HK4
  clear Hr_4
  clear Hc_4
  clear Hv_4
  clear Hi_4
  clear Ho_4
  go_wp2
  go_ret
  refine ⟨rfl, ⟨HLE.out, ?_, ?_, ?_, ?_, ?_⟩, HG5.out⟩
  · unfold mkM
    simp only [mkK_len]
    exact Hr_5.out
  · unfold mkM
    simp only [mkK_len]
    exact Hc_5.out
  · unfold mkM
    simp only [mkK_len]
    exact Hv_5.out
  · unfold mkM
    simp only [mkV_len]
    exact Hi_5.out
  · unfold mkM
    simp only [mkV_len]
    exact Ho_5.out
set_option maxRecDepth 100000 in
set_option maxHeartbeats 8000000 in
theorem heldMachine_ok {w : World} {m : MV} {a : MA} (h : MRows w (mkM m) a) (hl : MLen m) : Calls Try.prog 45 #[.agg (mC m a), .int .i64 1] w fun e u => e = .returned (.int .i64 (mkN m)) ∧ Below w.heap.size w u := by
  have HB0 : Hid ((w.alloc (.cells #[.int .i64 m.pc, .slice a.ar m.rs.length a.cr, .int .i64 m.md, .slice a.ac m.cs.length a.cc, .slice a.av m.vs.length a.cv, .string m.mem, .int .i64 m.st, .int .i64 m.ct, .int .i64 m.ln, .slice a.ai m.is.length a.ci, .slice a.ao m.os.length a.co, .int .i64 m.tr] 73)).heap[w.heap.size]? = some (.cells #[.int .i64 m.pc, .slice a.ar m.rs.length a.cr, .int .i64 m.md, .slice a.ac m.cs.length a.cc, .slice a.av m.vs.length a.cv, .string m.mem, .int .i64 m.st, .int .i64 m.ct, .int .i64 m.ln, .slice a.ai m.is.length a.ci, .slice a.ao m.os.length a.co, .int .i64 m.tr] 73 (0, 0))) := heap_new _ _
  have HG0 : Hid (Below w.heap.size w (w.alloc (.cells #[.int .i64 m.pc, .slice a.ar m.rs.length a.cr, .int .i64 m.md, .slice a.ac m.cs.length a.cc, .slice a.av m.vs.length a.cv, .string m.mem, .int .i64 m.st, .int .i64 m.ct, .int .i64 m.ln, .slice a.ai m.is.length a.ci, .slice a.ao m.os.length a.co, .int .i64 m.tr] 73))) := (Below.refl w.heap.size w).alloc (Nat.le_refl _) _
  have HM : Hid (MRows w (mkM m) a) := h
  have HL : Hid (MLen m) := hl
  clear h hl
  unfold mC
  go_enter Try.func45, Try.ntmps45
  go_upto_region 1 with fail
  generalize w.alloc (.cells #[.int .i64 m.pc, .slice a.ar m.rs.length a.cr, .int .i64 m.md, .slice a.ac m.cs.length a.cc, .slice a.av m.vs.length a.cv, .string m.mem, .int .i64 m.st, .int .i64 m.ct, .int .i64 m.ln, .slice a.ai m.is.length a.ci, .slice a.ao m.os.length a.co, .int .i64 m.tr] 73) = V0 at *
  obtain ⟨c0, c1, c2, c3, c4, c5, c6, c7, c8, c9, c10, c11, cf⟩ := cel12 HB0.out
  have g0 : w.heap.size < V0.heap.size := (Array.getElem?_eq_some_iff.1 HB0.out).1
  have HK0 : Hid (0 ≤ (1 : Int) ∧ (1 : Int) ≤ 1099511627776) := (show _ ∧ _ by have h1 := HL.out.r; have h2 := HL.out.c; have h3 := HL.out.v; have h4 := HL.out.i; have h5 := HL.out.o; exact ⟨by omega, by omega⟩)
  have HRr : Hid (Irow V0 (.slice a.ar m.rs.length a.cr) (mkK (1 : Int) m.rs.length)) := (show Irow V0 (.slice a.ar m.rs.length a.cr) (mkK (1 : Int) m.rs.length) by
    have q9 := (HM.out.below HG0.out).r
    unfold mkM at q9
    simp only [mkK_len] at q9
    exact q9)
  have hp0 : ¬ (1 + (m.rs.length : Int)) < 0 := by have h1 := HK0.out; have h2 := HL.out.r; omega
  go_upto_region 4 with (go_at_call 58; refine Calls.mono (heldK_ok (1 : Int) m.rs.length HRr.out HL.out.r HK0.out.1 HK0.out.2) ?_; rintro e V1 ⟨rfl, hb⟩; clear c0 c1 c2 c3 c4 c5 c6 c7 c8 c9 c10 c11 cf g0; have HB1 : Hid (V1.heap[w.heap.size]? = some (.cells #[.int .i64 m.pc, .slice a.ar m.rs.length a.cr, .int .i64 m.md, .slice a.ac m.cs.length a.cc, .slice a.av m.vs.length a.cv, .string m.mem, .int .i64 m.st, .int .i64 m.ct, .int .i64 m.ln, .slice a.ai m.is.length a.ci, .slice a.ao m.os.length a.co, .int .i64 m.tr] 73 (0, 0))) := (hb.block _ (Array.getElem?_eq_some_iff.1 HB0.out).1).trans HB0.out; have HG1 : Hid (Below w.heap.size w V1) := HG0.out.trans (hb.mono HG0.out.size); clear hb)
  clear HB0 HG0 HK0 HRr hp0
  obtain ⟨c0, c1, c2, c3, c4, c5, c6, c7, c8, c9, c10, c11, cf⟩ := cel12 HB1.out
  have g0 : w.heap.size < V1.heap.size := (Array.getElem?_eq_some_iff.1 HB1.out).1
  have HK1 : Hid (0 ≤ (1 + (m.rs.length : Int)) ∧ (1 + (m.rs.length : Int)) ≤ 1099511627776) := (show _ ∧ _ by have h1 := HL.out.r; have h2 := HL.out.c; have h3 := HL.out.v; have h4 := HL.out.i; have h5 := HL.out.o; exact ⟨by omega, by omega⟩)
  have HRc : Hid (Irow V1 (.slice a.ac m.cs.length a.cc) (mkK (1 + (m.rs.length : Int)) m.cs.length)) := (show Irow V1 (.slice a.ac m.cs.length a.cc) (mkK (1 + (m.rs.length : Int)) m.cs.length) by
    have q9 := (HM.out.below HG1.out).c
    unfold mkM at q9
    simp only [mkK_len] at q9
    exact q9)
  have hp1 : ¬ (1 + (m.rs.length : Int) + (m.cs.length : Int)) < 0 := by have h1 := HK1.out; have h2 := HL.out.c; omega
  go_upto_region 7 with (go_at_call 58; refine Calls.mono (heldK_ok (1 + (m.rs.length : Int)) m.cs.length HRc.out HL.out.c HK1.out.1 HK1.out.2) ?_; rintro e V2 ⟨rfl, hb⟩; clear c0 c1 c2 c3 c4 c5 c6 c7 c8 c9 c10 c11 cf g0; have HB2 : Hid (V2.heap[w.heap.size]? = some (.cells #[.int .i64 m.pc, .slice a.ar m.rs.length a.cr, .int .i64 m.md, .slice a.ac m.cs.length a.cc, .slice a.av m.vs.length a.cv, .string m.mem, .int .i64 m.st, .int .i64 m.ct, .int .i64 m.ln, .slice a.ai m.is.length a.ci, .slice a.ao m.os.length a.co, .int .i64 m.tr] 73 (0, 0))) := (hb.block _ (Array.getElem?_eq_some_iff.1 HB1.out).1).trans HB1.out; have HG2 : Hid (Below w.heap.size w V2) := HG1.out.trans (hb.mono HG1.out.size); clear hb)
  clear HB1 HG1 HK1 HRc hp1
  obtain ⟨c0, c1, c2, c3, c4, c5, c6, c7, c8, c9, c10, c11, cf⟩ := cel12 HB2.out
  have g0 : w.heap.size < V2.heap.size := (Array.getElem?_eq_some_iff.1 HB2.out).1
  have HK2 : Hid (0 ≤ (1 + (m.rs.length : Int) + (m.cs.length : Int)) ∧ (1 + (m.rs.length : Int) + (m.cs.length : Int)) ≤ 1099511627776) := (show _ ∧ _ by have h1 := HL.out.r; have h2 := HL.out.c; have h3 := HL.out.v; have h4 := HL.out.i; have h5 := HL.out.o; exact ⟨by omega, by omega⟩)
  have HRv : Hid (Irow V2 (.slice a.av m.vs.length a.cv) (mkK (1 + (m.rs.length : Int) + (m.cs.length : Int)) m.vs.length)) := (show Irow V2 (.slice a.av m.vs.length a.cv) (mkK (1 + (m.rs.length : Int) + (m.cs.length : Int)) m.vs.length) by
    have q9 := (HM.out.below HG2.out).v
    unfold mkM at q9
    simp only [mkK_len] at q9
    exact q9)
  have hp2 : ¬ (1 + (m.rs.length : Int) + (m.cs.length : Int) + (m.vs.length : Int)) < 0 := by have h1 := HK2.out; have h2 := HL.out.v; omega
  go_upto_region 10 with (go_at_call 58; refine Calls.mono (heldK_ok (1 + (m.rs.length : Int) + (m.cs.length : Int)) m.vs.length HRv.out HL.out.v HK2.out.1 HK2.out.2) ?_; rintro e V3 ⟨rfl, hb⟩; clear c0 c1 c2 c3 c4 c5 c6 c7 c8 c9 c10 c11 cf g0; have HB3 : Hid (V3.heap[w.heap.size]? = some (.cells #[.int .i64 m.pc, .slice a.ar m.rs.length a.cr, .int .i64 m.md, .slice a.ac m.cs.length a.cc, .slice a.av m.vs.length a.cv, .string m.mem, .int .i64 m.st, .int .i64 m.ct, .int .i64 m.ln, .slice a.ai m.is.length a.ci, .slice a.ao m.os.length a.co, .int .i64 m.tr] 73 (0, 0))) := (hb.block _ (Array.getElem?_eq_some_iff.1 HB2.out).1).trans HB2.out; have HG3 : Hid (Below w.heap.size w V3) := HG2.out.trans (hb.mono HG2.out.size); clear hb)
  clear HB2 HG2 HK2 HRv hp2
  obtain ⟨c0, c1, c2, c3, c4, c5, c6, c7, c8, c9, c10, c11, cf⟩ := cel12 HB3.out
  have g0 : w.heap.size < V3.heap.size := (Array.getElem?_eq_some_iff.1 HB3.out).1
  have HK3 : Hid (0 ≤ (1 + (m.rs.length : Int) + (m.cs.length : Int) + (m.vs.length : Int)) ∧ (1 + (m.rs.length : Int) + (m.cs.length : Int) + (m.vs.length : Int)) ≤ 1099511627776) := (show _ ∧ _ by have h1 := HL.out.r; have h2 := HL.out.c; have h3 := HL.out.v; have h4 := HL.out.i; have h5 := HL.out.o; exact ⟨by omega, by omega⟩)
  have HRi : Hid (PVrow V3 (.slice a.ai m.is.length a.ci) (mkV (1 + (m.rs.length : Int) + (m.cs.length : Int) + (m.vs.length : Int)) m.is.length)) := (show PVrow V3 (.slice a.ai m.is.length a.ci) (mkV (1 + (m.rs.length : Int) + (m.cs.length : Int) + (m.vs.length : Int)) m.is.length) by
    have q9 := (HM.out.below HG3.out).i
    unfold mkM at q9
    simp only [mkV_len] at q9
    exact q9)
  have hp3 : ¬ (1 + (m.rs.length : Int) + (m.cs.length : Int) + (m.vs.length : Int) + 2 * (m.is.length : Int)) < 0 := by have h1 := HK3.out; have h2 := HL.out.i; omega
  go_upto_region 13 with (go_at_call 99; refine Calls.mono (heldV_ok (1 + (m.rs.length : Int) + (m.cs.length : Int) + (m.vs.length : Int)) m.is.length HRi.out HL.out.i HK3.out.1 HK3.out.2) ?_; rintro e V4 ⟨rfl, hb⟩; clear c0 c1 c2 c3 c4 c5 c6 c7 c8 c9 c10 c11 cf g0; have HB4 : Hid (V4.heap[w.heap.size]? = some (.cells #[.int .i64 m.pc, .slice a.ar m.rs.length a.cr, .int .i64 m.md, .slice a.ac m.cs.length a.cc, .slice a.av m.vs.length a.cv, .string m.mem, .int .i64 m.st, .int .i64 m.ct, .int .i64 m.ln, .slice a.ai m.is.length a.ci, .slice a.ao m.os.length a.co, .int .i64 m.tr] 73 (0, 0))) := (hb.block _ (Array.getElem?_eq_some_iff.1 HB3.out).1).trans HB3.out; have HG4 : Hid (Below w.heap.size w V4) := HG3.out.trans (hb.mono HG3.out.size); clear hb)
  clear HB3 HG3 HK3 HRi hp3
  obtain ⟨c0, c1, c2, c3, c4, c5, c6, c7, c8, c9, c10, c11, cf⟩ := cel12 HB4.out
  have g0 : w.heap.size < V4.heap.size := (Array.getElem?_eq_some_iff.1 HB4.out).1
  have HK4 : Hid (0 ≤ (1 + (m.rs.length : Int) + (m.cs.length : Int) + (m.vs.length : Int) + 2 * (m.is.length : Int)) ∧ (1 + (m.rs.length : Int) + (m.cs.length : Int) + (m.vs.length : Int) + 2 * (m.is.length : Int)) ≤ 1099511627776) := (show _ ∧ _ by have h1 := HL.out.r; have h2 := HL.out.c; have h3 := HL.out.v; have h4 := HL.out.i; have h5 := HL.out.o; exact ⟨by omega, by omega⟩)
  have HRo : Hid (PVrow V4 (.slice a.ao m.os.length a.co) (mkV (1 + (m.rs.length : Int) + (m.cs.length : Int) + (m.vs.length : Int) + 2 * (m.is.length : Int)) m.os.length)) := (show PVrow V4 (.slice a.ao m.os.length a.co) (mkV (1 + (m.rs.length : Int) + (m.cs.length : Int) + (m.vs.length : Int) + 2 * (m.is.length : Int)) m.os.length) by
    have q9 := (HM.out.below HG4.out).o
    unfold mkM at q9
    simp only [mkV_len] at q9
    exact q9)
  have hp4 : ¬ (1 + (m.rs.length : Int) + (m.cs.length : Int) + (m.vs.length : Int) + 2 * (m.is.length : Int) + 2 * (m.os.length : Int)) < 0 := by have h1 := HK4.out; have h2 := HL.out.o; omega
  go_upto_region 16 with (go_at_call 99; refine Calls.mono (heldV_ok (1 + (m.rs.length : Int) + (m.cs.length : Int) + (m.vs.length : Int) + 2 * (m.is.length : Int)) m.os.length HRo.out HL.out.o HK4.out.1 HK4.out.2) ?_; rintro e V5 ⟨rfl, hb⟩; clear c0 c1 c2 c3 c4 c5 c6 c7 c8 c9 c10 c11 cf g0; have HB5 : Hid (V5.heap[w.heap.size]? = some (.cells #[.int .i64 m.pc, .slice a.ar m.rs.length a.cr, .int .i64 m.md, .slice a.ac m.cs.length a.cc, .slice a.av m.vs.length a.cv, .string m.mem, .int .i64 m.st, .int .i64 m.ct, .int .i64 m.ln, .slice a.ai m.is.length a.ci, .slice a.ao m.os.length a.co, .int .i64 m.tr] 73 (0, 0))) := (hb.block _ (Array.getElem?_eq_some_iff.1 HB4.out).1).trans HB4.out; have HG5 : Hid (Below w.heap.size w V5) := HG4.out.trans (hb.mono HG4.out.size); clear hb)
  clear HB4 HG4 HK4 HRo hp4
  go_wp2
  go_ret
  exact ⟨rfl, HG5.out⟩
end Go.Proofs.Ytjaelkagacmpkaa
