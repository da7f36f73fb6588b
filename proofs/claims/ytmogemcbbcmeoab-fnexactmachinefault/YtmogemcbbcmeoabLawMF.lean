import Derived.Test.YtmogemcbbcmeoabMTo2
import Derived.Test.YtmogemcbbcmeoabMEq
import Derived.Test.YtmogemcbbcmeoabMFd
import Derived.Test.YtmogemcbbcmeoabMFe
import Derived.Deep.RegionHeld3
namespace Go.Proofs.Ytmogemcbbcmeoab
open Go.ChangeShapes Go.WideShapes Go.ChangeAt Go.RowKit

theorem szM_len {m : MV} (h : szM m = true) : MLen m := by
  unfold szM at h
  have h2 := of_decide_eq_true h
  exact ⟨by omega, by omega, by omega, by omega, by omega, by omega⟩
def BoxM (u : World) (b : Nat) (m : MV) (a : MA) : Prop := u.heap[b]? = some (.cells (mC m a) 48 (0, 0))
theorem BoxM.lt {u : World} {b : Nat} {m : MV} {a : MA} (h : BoxM u b m a) : b < u.heap.size := (Array.getElem?_eq_some_iff.1 h).1
theorem BoxM.below {u u' : World} {b B : Nat} {m : MV} {a : MA} (h : BoxM u b m a) (hb : Below B u u') (hB : b < B) : BoxM u' b m a := (hb.block b hB).trans h
set_option maxRecDepth 100000 in
set_option maxHeartbeats 4000000 in
theorem walkMF {w : World} {m : MV} {a : MA} (h : MRows w m a) (hm : MMax m) : Calls Try.prog 7 #[.agg (mC m a)] w fun e w' => e = .returned (.bool true) ∧ Below w.heap.size w w' := by
  have HL1 : Hid (MX w (w.alloc (.cells #[.int .i64 m.pc, .slice a.ar m.rs.length a.cr, .int .i64 m.md, .slice a.ac m.cs.length a.cc, .slice a.av m.vs.length a.cv, .string m.mem, .int .i64 m.st, .int .i64 m.ct, .int .i64 m.ln, .slice a.ai m.is.length a.ci, .slice a.ao m.os.length a.co, .int .i64 m.tr] 55)) 55 m a) := MX.new h
  have HS : Hid _ := szMachine_any (w.alloc (.cells #[.int .i64 m.pc, .slice a.ar m.rs.length a.cr, .int .i64 m.md, .slice a.ac m.cs.length a.cc, .slice a.av m.vs.length a.cv, .string m.mem, .int .i64 m.st, .int .i64 m.ct, .int .i64 m.ln, .slice a.ai m.is.length a.ci, .slice a.ao m.os.length a.co, .int .i64 m.tr] 55)) m a hm
  clear h hm
  cases hsz : szM m
  · rw [hsz] at HS
    unfold mC at HS ⊢
    go_enter Try.func7, Try.ntmps7
    go_wp2_with (go_at_call 27; refine Calls.mono HS.out ?_; rintro e u1 ⟨r, rfl, hr, hu1⟩; have HL2 : Hid (MX w u1 55 m a) := HL1.out.step hu1; have hr2 : r < 0 := (by simpa using hr); clear hu1 HS hr)
    go_ret
    exact ⟨rfl, HL2.out.bel⟩
  · rw [hsz] at HS
    have HL : Hid (MLen m) := szM_len hsz
    have HTO : Hid (∀ {u : World} {b : MA}, MRows u m b → Calls Try.prog 29 #[.agg (mC m b)] u fun e w' => ∃ a2 : MA, e = .returned (.agg (mC m a2)) ∧ MOwn w' u.heap.size m a2 ∧ Below u.heap.size u w') := fun hr => toMachine_any hr HL.out
    clear hsz
    unfold mC at HS ⊢
    go_enter Try.func7, Try.ntmps7
    go_wp2_with (first
      | (go_at_call 27; refine Calls.mono HS.out ?_; rintro e u1 ⟨r, rfl, hr, hu1⟩; have HL2 : Hid (MX w u1 55 m a) := HL1.out.step hu1; have hr2 : ¬ r < 0 := (by simpa using hr); obtain ⟨c0, c1, c2, c3, c4, c5, c6, c7, c8, c9, c10, c11, _⟩ := cel12 HL2.out.box; clear hu1 HS hr)
      | (go_at_call 29; have hA := HTO.out HL2.out.row; refine Calls.mono hA ?_; clear hA; rintro e u2 ⟨a1, rfl, ho, hb⟩; have HL3 : Hid (MX w u2 55 m a) := HL2.out.step hb; have HR : Hid (MRows u2 m a1) := ho.rows; clear ho hb HL2; unfold mC)
      | (go_at_call 28; have hA := specMF_any HR.out HL.out; refine Calls.mono hA ?_; clear hA; rintro e u3 ⟨rfl, hb⟩; have HL4 : Hid (MX w u3 55 m a) := HL3.out.step hb; obtain ⟨k0, k1, k2, k3, k4, k5, k6, k7, k8, k9, k10, k11, _⟩ := cel12 HL4.out.box; clear hb HL3 HR)
      | (go_at_call 29; have hA := HTO.out HL4.out.row; refine Calls.mono hA ?_; clear hA; rintro e u4 ⟨a2, rfl, ho, hb⟩; have HL5 : Hid (MX w (u4.alloc (.cells #[.int .i64 m.pc, .slice a2.ar m.rs.length a2.cr, .int .i64 m.md, .slice a2.ac m.cs.length a2.cc, .slice a2.av m.vs.length a2.cv, .string m.mem, .int .i64 m.st, .int .i64 m.ct, .int .i64 m.ln, .slice a2.ai m.is.length a2.ci, .slice a2.ao m.os.length a2.co, .int .i64 m.tr] 48)) 55 m a) := (HL4.out.step hb).step ((Below.refl _ _).alloc (Nat.le_refl _) _); have HR5 : Hid (MRows (u4.alloc (.cells #[.int .i64 m.pc, .slice a2.ar m.rs.length a2.cr, .int .i64 m.md, .slice a2.ac m.cs.length a2.cc, .slice a2.av m.vs.length a2.cv, .string m.mem, .int .i64 m.st, .int .i64 m.ct, .int .i64 m.ln, .slice a2.ai m.is.length a2.ci, .slice a2.ao m.os.length a2.co, .int .i64 m.tr] 48)) m a2) := ho.rows.below ((Below.refl _ _).alloc (Nat.le_refl _) _); have HX5 : Hid (BoxM (u4.alloc (.cells #[.int .i64 m.pc, .slice a2.ar m.rs.length a2.cr, .int .i64 m.md, .slice a2.ac m.cs.length a2.cc, .slice a2.av m.vs.length a2.cv, .string m.mem, .int .i64 m.st, .int .i64 m.ct, .int .i64 m.ln, .slice a2.ai m.is.length a2.ci, .slice a2.ao m.os.length a2.co, .int .i64 m.tr] 48)) u4.heap.size m a2) := heap_new _ _; clear ho hb HL4; unfold mC)
      | (go_at_call 30; have hA := implMF_any HR5.out HL.out; refine Calls.mono hA ?_; clear hA; rintro e u5 ⟨rfl, hb⟩; have HL6 : Hid (MX w u5 55 m a) := HL5.out.step hb; have HR6 : Hid (MRows u5 m a2) := HR5.out.below hb; have HX6 : Hid (BoxM u5 u4.heap.size m a2) := HX5.out.below hb HX5.out.lt; clear hb HL5 HR5 HX5))
    obtain ⟨p0, p1, p2, p3, p4, p5, p6, p7, p8, p9, p10, p11, _⟩ := cel12 HL6.out.box
    obtain ⟨q0, q1, q2, q3, q4, q5, q6, q7, q8, q9, q10, q11, _⟩ := cel12 HX6.out
    have hq := HX6.out.lt
    have hp := HL6.out.lt
    go_region_held3 (fun w' => w'.cell? ⟨w.heap.size, 0, none⟩ = some (.int .i64 m.pc) ∧ w'.cell? ⟨w.heap.size, 1, none⟩ = some (.slice a.ar m.rs.length a.cr) ∧ w'.cell? ⟨w.heap.size, 2, none⟩ = some (.int .i64 m.md) ∧ w'.cell? ⟨w.heap.size, 3, none⟩ = some (.slice a.ac m.cs.length a.cc) ∧ w'.cell? ⟨w.heap.size, 4, none⟩ = some (.slice a.av m.vs.length a.cv) ∧ w'.cell? ⟨w.heap.size, 5, none⟩ = some (.string m.mem) ∧ w'.cell? ⟨w.heap.size, 6, none⟩ = some (.int .i64 m.st) ∧ w'.cell? ⟨w.heap.size, 7, none⟩ = some (.int .i64 m.ct) ∧ w'.cell? ⟨w.heap.size, 8, none⟩ = some (.int .i64 m.ln) ∧ w'.cell? ⟨w.heap.size, 9, none⟩ = some (.slice a.ai m.is.length a.ci) ∧ w'.cell? ⟨w.heap.size, 10, none⟩ = some (.slice a.ao m.os.length a.co) ∧ w'.cell? ⟨w.heap.size, 11, none⟩ = some (.int .i64 m.tr) ∧ w'.cell? ⟨u4.heap.size, 0, none⟩ = some (.int .i64 m.pc) ∧ w'.cell? ⟨u4.heap.size, 1, none⟩ = some (.slice a2.ar m.rs.length a2.cr) ∧ w'.cell? ⟨u4.heap.size, 2, none⟩ = some (.int .i64 m.md) ∧ w'.cell? ⟨u4.heap.size, 3, none⟩ = some (.slice a2.ac m.cs.length a2.cc) ∧ w'.cell? ⟨u4.heap.size, 4, none⟩ = some (.slice a2.av m.vs.length a2.cv) ∧ w'.cell? ⟨u4.heap.size, 5, none⟩ = some (.string m.mem) ∧ w'.cell? ⟨u4.heap.size, 6, none⟩ = some (.int .i64 m.st) ∧ w'.cell? ⟨u4.heap.size, 7, none⟩ = some (.int .i64 m.ct) ∧ w'.cell? ⟨u4.heap.size, 8, none⟩ = some (.int .i64 m.ln) ∧ w'.cell? ⟨u4.heap.size, 9, none⟩ = some (.slice a2.ai m.is.length a2.ci) ∧ w'.cell? ⟨u4.heap.size, 10, none⟩ = some (.slice a2.ao m.os.length a2.co) ∧ w'.cell? ⟨u4.heap.size, 11, none⟩ = some (.int .i64 m.tr)) (go_keep) ((first
      | (go_at_call 29; have hA := HTO.out (u := u5.drew) (HL6.out.row.below (Below.refl _ _).drew); refine Calls.mono hA ?_; clear hA; rintro e u6 ⟨a3, rfl, ho, hb⟩; have hb6 : Below u5.heap.size u5 u6 := ⟨hb.os, hb.tape, hb.output, hb.size, hb.block⟩; have HL7 : Hid (MX w u6 55 m a) := HL6.out.step hb6; have HR7 : Hid (MRows u6 m a2) := HR6.out.below hb6; have HO7 : Hid (MRows u6 m a3) := ho.rows; have HX7 : Hid (BoxM u6 u4.heap.size m a2) := HX6.out.below hb6 hq; obtain ⟨s0, s1, s2, s3, s4, s5, s6, s7, s8, s9, s10, s11, _⟩ := cel12 HL7.out.box; obtain ⟨t0, t1, t2, t3, t4, t5, t6, t7, t8, t9, t10, t11, _⟩ := cel12 HX7.out; clear ho hb hb6 HL6 HR6; unfold mC)
      | (go_at_call 24; have hA := eqMachine_ok HR7.out HO7.out HL.out; refine Calls.mono hA ?_; clear hA; rintro e u7 ⟨rfl, hb⟩; have HL8 : Hid (MX w u7 55 m a) := HL7.out.step hb; have HX8 : Hid (BoxM u7 u4.heap.size m a2) := HX7.out.below hb HX7.out.lt; obtain ⟨x0, x1, x2, x3, x4, x5, x6, x7, x8, x9, x10, x11, _⟩ := cel12 HL8.out.box; obtain ⟨y0, y1, y2, y3, y4, y5, y6, y7, y8, y9, y10, y11, _⟩ := cel12 HX8.out; clear hb HL7 HR7)))
    all_goals go_wp2
    all_goals go_ret
    exact ⟨rfl, HL8.out.bel⟩
end Go.Proofs.Ytmogemcbbcmeoab
