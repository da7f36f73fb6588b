import Derived.Test.YtjaelkagacmpkaaRl4
import Derived.Test.YtjaelkagacmpkaaMFd
import Derived.Test.YtjaelkagacmpkaaMFe
namespace Go.Proofs.Ytjaelkagacmpkaa
open Go.ChangeShapes Go.WideShapes Go.ChangeAt Go.RowKit

def mv0 : MV := ⟨0, [], 0, [], [], ⟨#[]⟩, 0, 0, 0, [], [], 0⟩
def ma0 : MA := ⟨none, 0, none, 0, none, 0, none, 0, none, 0⟩
/-- The bit of a line. -/
def pw7 (line : Int) : Int := if line = 0 then 1 else if line = 1 then 2 else if line = 2 then 4 else if line = 3 then 8 else if line = 4 then 16 else if line = 5 then 32 else 64
def lnV (ln line : Int) : Int := if 0 ≤ line ∧ line < 7 then bits .or .i64 ln (pw7 line) else ln
/-- What RaiseLine answers. -/
def rlV (m : MV) (line : Int) : MV := if mfC m = 0 then { m with ln := lnV m.ln line } else mv0
theorem M5.zero (u : World) (n : Nat) : M5 u ⟨n, n, n, n, n, n⟩ mv0 ma0 := ⟨⟨Nat.le_refl _, Nat.le_refl _, Nat.le_refl _, Nat.le_refl _, Nat.le_refl _⟩, .inl ⟨rfl, _, _, rfl⟩, .inl ⟨rfl, _, _, rfl⟩, .inl ⟨rfl, _, _, rfl⟩, .inl ⟨rfl, _, _, rfl⟩, .inl ⟨rfl, _, _, rfl⟩⟩
theorem M5.ln {u : World} {n : N6} {m : MV} {a : MA} (h : M5 u n m a) (x : Int) : M5 u n { m with ln := x } a := ⟨h.le, h.r, h.c, h.v, h.i, h.o⟩
theorem mfC_or (m : MV) : mfC m = 0 ∨ mfC m = 1 := by unfold mfC; split <;> simp
theorem GI.sets {u : World} {p : Nat} {v0 v1 v2 v3 v4 v5 v6 v7 v8 v9 v10 v11 : Value} : GI p (p + 1) u ((((((((((((u.setCell ⟨p, 0, none⟩ v0).setCell ⟨p, 1, none⟩ v1).setCell ⟨p, 2, none⟩ v2).setCell ⟨p, 3, none⟩ v3).setCell ⟨p, 4, none⟩ v4).setCell ⟨p, 5, none⟩ v5).setCell ⟨p, 6, none⟩ v6).setCell ⟨p, 7, none⟩ v7).setCell ⟨p, 8, none⟩ v8).setCell ⟨p, 9, none⟩ v9).setCell ⟨p, 10, none⟩ v10).setCell ⟨p, 11, none⟩ v11) :=
  (((((((((((setG.trans setG).trans setG).trans setG).trans setG).trans setG).trans setG).trans setG).trans setG).trans setG).trans setG).trans setG)
theorem below_g {w u u' : World} {lo hi : Nat} (h : Below w.heap.size w u) (g : GI lo hi u u') (hl : w.heap.size ≤ lo) : Below w.heap.size w u' :=
  ⟨g.os.trans h.os, g.tape.trans h.tape, g.output.trans h.output, Nat.le_trans h.size g.size, fun k hk => (g.block k (Nat.lt_of_lt_of_le hk h.size) (by omega)).trans (h.block k hk)⟩
set_option maxRecDepth 100000 in
set_option maxHeartbeats 8000000 in
theorem implRaise_any {w : World} {m : MV} {a : MA} (h : MRows w m a) (hl : MLen m) (line : Int) : Calls Try.prog 42 #[.agg (mC m a), .int .i64 line] w fun e w' => CopyA w (rlV m line) e w' := by
  have HC0 : Hid (CO w ((w.alloc (.cells #[.int .i64 m.pc, .slice a.ar m.rs.length a.cr, .int .i64 m.md, .slice a.ac m.cs.length a.cc, .slice a.av m.vs.length a.cv, .string m.mem, .int .i64 m.st, .int .i64 m.ct, .int .i64 m.ln, .slice a.ai m.is.length a.ci, .slice a.ao m.os.length a.co, .int .i64 m.tr] 73)).alloc (.cells #[.int .i64 0, .slice none 0 0, .int .i64 0, .slice none 0 0, .slice none 0 0, .string ⟨#[]⟩, .int .i64 0, .int .i64 0, .int .i64 0, .slice none 0 0, .slice none 0 0, .int .i64 0] 73)) #[.int .i64 m.pc, .slice a.ar m.rs.length a.cr, .int .i64 m.md, .slice a.ac m.cs.length a.cc, .slice a.av m.vs.length a.cv, .string m.mem, .int .i64 m.st, .int .i64 m.ct, .int .i64 m.ln, .slice a.ai m.is.length a.ci, .slice a.ao m.os.length a.co, .int .i64 m.tr]) := CO.new w _
  have HM : Hid (MRows w m a) := h
  have HL : Hid (MLen m) := hl
  have HMFA : Hid (∀ u : World, Below w.heap.size w u → Calls Try.prog 95 #[.agg #[.int .i64 m.pc, .slice a.ar m.rs.length a.cr, .int .i64 m.md, .slice a.ac m.cs.length a.cc, .slice a.av m.vs.length a.cv, .string m.mem, .int .i64 m.st, .int .i64 m.ct, .int .i64 m.ln, .slice a.ai m.is.length a.ci, .slice a.ao m.os.length a.co, .int .i64 m.tr]] u fun e w' => e = .returned (.int .i64 (mfC m)) ∧ Below u.heap.size u w') := fun u hu => implMF_any (h.below hu) hl
  have HCPA : Hid (∀ u : World, Below w.heap.size w u → Calls Try.prog 96 #[.agg #[.int .i64 m.pc, .slice a.ar m.rs.length a.cr, .int .i64 m.md, .slice a.ac m.cs.length a.cc, .slice a.av m.vs.length a.cv, .string m.mem, .int .i64 m.st, .int .i64 m.ct, .int .i64 m.ln, .slice a.ai m.is.length a.ci, .slice a.ao m.os.length a.co, .int .i64 m.tr]] u fun e w' => CopyA u m e w') := fun u hu => ownMachine_any (h.below hu) hl
  clear h hl
  unfold mC
  go_enter Try.func42, Try.ntmps42
  go_upto_region 1 with fail
  generalize (w.alloc (.cells #[.int .i64 m.pc, .slice a.ar m.rs.length a.cr, .int .i64 m.md, .slice a.ac m.cs.length a.cc, .slice a.av m.vs.length a.cv, .string m.mem, .int .i64 m.st, .int .i64 m.ct, .int .i64 m.ln, .slice a.ai m.is.length a.ci, .slice a.ao m.os.length a.co, .int .i64 m.tr] 73)).alloc (.cells #[.int .i64 0, .slice none 0 0, .int .i64 0, .slice none 0 0, .slice none 0 0, .string ⟨#[]⟩, .int .i64 0, .int .i64 0, .int .i64 0, .slice none 0 0, .slice none 0 0, .int .i64 0] 73) = V0 at *
  obtain ⟨c0, c1, c2, c3, c4, c5, c6, c7, c8, c9, c10, c11, cf⟩ := cel12 HC0.out.b0
  have g0 : w.heap.size < V0.heap.size := by have := HC0.out.lt; omega
  by_cases hc : mfC m = 0
  · have HC : Hid (mfC m = 0) := hc
    clear hc
    go_upto_region 4 with (first
      | (go_at_call 95; refine Calls.mono (HMFA.out _ HC0.out.bel) ?_; rintro e u1 ⟨rfl, hb⟩; rw [HC.out]; have HC1 : Hid (CO w u1 #[.int .i64 m.pc, .slice a.ar m.rs.length a.cr, .int .i64 m.md, .slice a.ac m.cs.length a.cc, .slice a.av m.vs.length a.cv, .string m.mem, .int .i64 m.st, .int .i64 m.ct, .int .i64 m.ln, .slice a.ai m.is.length a.ci, .slice a.ao m.os.length a.co, .int .i64 m.tr]) := HC0.out.step hb; clear hb c0 c1 c2 c3 c4 c5 c6 c7 c8 c9 c10 c11 cf HMFA g0; obtain ⟨c0, c1, c2, c3, c4, c5, c6, c7, c8, c9, c10, c11, cf⟩ := cel12 HC1.out.b0; have g0 : w.heap.size < u1.heap.size := (by have := HC1.out.lt; omega))
      | (go_at_call 96; refine Calls.mono (HCPA.out _ HC1.out.bel) ?_; rintro e u2 ⟨a2, n, rfl, hM5, hn1, hn2, hb⟩; unfold mC; have HC2 : Hid (CO w (u2.alloc (.cells #[.int .i64 m.pc, .slice a2.ar m.rs.length a2.cr, .int .i64 m.md, .slice a2.ac m.cs.length a2.cc, .slice a2.av m.vs.length a2.cv, .string m.mem, .int .i64 m.st, .int .i64 m.ct, .int .i64 m.ln, .slice a2.ai m.is.length a2.ci, .slice a2.ao m.os.length a2.co, .int .i64 m.tr] 73)) #[.int .i64 m.pc, .slice a.ar m.rs.length a.cr, .int .i64 m.md, .slice a.ac m.cs.length a.cc, .slice a.av m.vs.length a.cv, .string m.mem, .int .i64 m.st, .int .i64 m.ct, .int .i64 m.ln, .slice a.ai m.is.length a.ci, .slice a.ao m.os.length a.co, .int .i64 m.tr]) := (HC1.out.step hb).step ((Below.refl _ _).alloc (Nat.le_refl _) _); have HP5 : Hid ((u2.alloc (.cells #[.int .i64 m.pc, .slice a2.ar m.rs.length a2.cr, .int .i64 m.md, .slice a2.ac m.cs.length a2.cc, .slice a2.av m.vs.length a2.cv, .string m.mem, .int .i64 m.st, .int .i64 m.ct, .int .i64 m.ln, .slice a2.ai m.is.length a2.ci, .slice a2.ao m.os.length a2.co, .int .i64 m.tr] 73)).heap[u2.heap.size]? = some (.cells #[.int .i64 m.pc, .slice a2.ar m.rs.length a2.cr, .int .i64 m.md, .slice a2.ac m.cs.length a2.cc, .slice a2.av m.vs.length a2.cv, .string m.mem, .int .i64 m.st, .int .i64 m.ct, .int .i64 m.ln, .slice a2.ai m.is.length a2.ci, .slice a2.ao m.os.length a2.co, .int .i64 m.tr] 73 (0, 0))) := heap_new _ _; have HM5 : Hid (M5 (u2.alloc (.cells #[.int .i64 m.pc, .slice a2.ar m.rs.length a2.cr, .int .i64 m.md, .slice a2.ac m.cs.length a2.cc, .slice a2.av m.vs.length a2.cv, .string m.mem, .int .i64 m.st, .int .i64 m.ct, .int .i64 m.ln, .slice a2.ai m.is.length a2.ci, .slice a2.ao m.os.length a2.co, .int .i64 m.tr] 73)) n m a2) := hM5.step ((Below.refl _ _).alloc (Nat.le_refl _) _); have HN : Hid (w.heap.size + 2 ≤ n.a ∧ n.f ≤ u2.heap.size) := (show _ ∧ _ from ⟨Nat.le_trans HC1.out.lt hn1, hn2⟩); clear hM5 hn1 hn2 hb HCPA c0 c1 c2 c3 c4 c5 c6 c7 c8 c9 c10 c11 cf))
    generalize u2.alloc (.cells #[.int .i64 m.pc, .slice a2.ar m.rs.length a2.cr, .int .i64 m.md, .slice a2.ac m.cs.length a2.cc, .slice a2.av m.vs.length a2.cv, .string m.mem, .int .i64 m.st, .int .i64 m.ct, .int .i64 m.ln, .slice a2.ai m.is.length a2.ci, .slice a2.ao m.os.length a2.co, .int .i64 m.tr] 73) = U at *
    generalize u2.heap.size = p5 at *
    clear HC1 HC0 g0
    by_cases hline : 0 ≤ line ∧ line < 7
    · obtain rfl | rfl | rfl | rfl | rfl | rfl | rfl : line = 0 ∨ line = 1 ∨ line = 2 ∨ line = 3 ∨ line = 4 ∨ line = 5 ∨ line = 6 := by omega
      · skip
        have EV : Hid (rlV m 0 = { m with ln := bits .or .i64 m.ln 1 }) := (show rlV m 0 = _ by unfold rlV lnV pw7; rw [if_pos HC.out, if_pos hline]; rfl)
        clear hline
        obtain ⟨d0, d1, d2, d3, d4, d5, d6, d7, d8, d9, d10, d11, df⟩ := cel12 HP5.out
        have g5 : p5 < U.heap.size := (Array.getElem?_eq_some_iff.1 HP5.out).1
        go_upto_region 5 with fail
        go_region
        go_upto_region 6 with fail
        have HPF : Hid (((U.setCell ⟨p5, 8, none⟩ (.int .i64 (bits .or .i64 m.ln 1))).drew).heap[p5]? = some (.cells #[.int .i64 m.pc, .slice a2.ar m.rs.length a2.cr, .int .i64 m.md, .slice a2.ac m.cs.length a2.cc, .slice a2.av m.vs.length a2.cv, .string m.mem, .int .i64 m.st, .int .i64 m.ct, .int .i64 (bits .or .i64 m.ln 1), .slice a2.ai m.is.length a2.ci, .slice a2.ao m.os.length a2.co, .int .i64 m.tr] 73 (0, 0))) := blk_set HP5.out 8 (.int .i64 (bits .or .i64 m.ln 1))
        have HGS : GI p5 (p5 + 1) U ((U.setCell ⟨p5, 8, none⟩ (.int .i64 (bits .or .i64 m.ln 1))).drew) := (setG (u := U) (o := 8) (x := .int .i64 (bits .or .i64 m.ln 1))).trans (GI.of_below (Below.refl _ _).drew)
        have HCF : Hid (CO w ((U.setCell ⟨p5, 8, none⟩ (.int .i64 (bits .or .i64 m.ln 1))).drew) #[.int .i64 m.pc, .slice a.ar m.rs.length a.cr, .int .i64 m.md, .slice a.ac m.cs.length a.cc, .slice a.av m.vs.length a.cv, .string m.mem, .int .i64 m.st, .int .i64 m.ct, .int .i64 m.ln, .slice a.ai m.is.length a.ci, .slice a.ao m.os.length a.co, .int .i64 m.tr]) := ⟨below_g HC2.out.bel HGS (by have := HN.out; have := HM5.out.le; omega), (HGS.block _ (by have := HC2.out.lt; omega) (by have := HN.out; have := HM5.out.le; omega)).trans HC2.out.b0, (HGS.block _ HC2.out.lt (by have := HN.out; have := HM5.out.le; omega)).trans HC2.out.b1⟩
        have HMF5 : Hid (M5 ((U.setCell ⟨p5, 8, none⟩ (.int .i64 (bits .or .i64 m.ln 1))).drew) n m a2) := HM5.out.gi HGS (.inl HN.out.2)
        have HNF : Hid (p5 < ((U.setCell ⟨p5, 8, none⟩ (.int .i64 (bits .or .i64 m.ln 1))).drew).heap.size) := (Array.getElem?_eq_some_iff.1 HPF.out).1
        generalize (U.setCell ⟨p5, 8, none⟩ (.int .i64 (bits .or .i64 m.ln 1))).drew = VF at *
        clear d0 d1 d2 d3 d4 d5 d6 d7 d8 d9 d10 d11 df g5 HGS HC2 HP5 HM5
        obtain ⟨k0, k1, k2, k3, k4, k5, k6, k7, k8, k9, k10, k11, kf⟩ := cel12 HCF.out.b1
        obtain ⟨d0, d1, d2, d3, d4, d5, d6, d7, d8, d9, d10, d11, df⟩ := cel12 HPF.out
        have g1 : w.heap.size + 1 < VF.heap.size := HCF.out.lt
        have g5 : p5 < VF.heap.size := (Array.getElem?_eq_some_iff.1 HPF.out).1
        go_wp2
        obtain ⟨e1, e2, e3⟩ := st12 HCF.out.bel (Nat.le_succ _) HCF.out.b1 (.int .i64 m.pc) (.slice a2.ar m.rs.length a2.cr) (.int .i64 m.md) (.slice a2.ac m.cs.length a2.cc) (.slice a2.av m.vs.length a2.cv) (.string m.mem) (.int .i64 m.st) (.int .i64 m.ct) (.int .i64 (bits .or .i64 m.ln 1)) (.slice a2.ai m.is.length a2.ci) (.slice a2.ao m.os.length a2.co) (.int .i64 m.tr) rfl
        obtain ⟨f0, f1, f2, f3, f4, f5, f6, f7, f8, f9, f10, f11, _⟩ := cel12 e2
        refine bodyPost_ret (v := .agg #[.int .i64 m.pc, .slice a2.ar m.rs.length a2.cr, .int .i64 m.md, .slice a2.ac m.cs.length a2.cc, .slice a2.av m.vs.length a2.cv, .string m.mem, .int .i64 m.st, .int .i64 m.ct, .int .i64 (bits .or .i64 m.ln 1), .slice a2.ai m.is.length a2.ci, .slice a2.ao m.os.length a2.co, .int .i64 m.tr]) ?_ rfl ⟨a2, n, by rw [EV.out]; rfl, ?_, ?_, ?_, e1⟩
        · simp only [results, Try.results42, go_sem]
          simp [go_sem, f0, f1, f2, f3, f4, f5, f6, f7, f8, f9, f10, f11]
        · rw [EV.out]
          exact (HMF5.out.gi GI.sets (.inr (by have := HN.out; omega))).ln _
        · have := HN.out
          omega
        · have h1 := HN.out
          have h2 := HNF.out
          simp [World.setCell]
          omega
      · skip
        have EV : Hid (rlV m 1 = { m with ln := bits .or .i64 m.ln 2 }) := (show rlV m 1 = _ by unfold rlV lnV pw7; rw [if_pos HC.out, if_pos hline]; rfl)
        clear hline
        obtain ⟨d0, d1, d2, d3, d4, d5, d6, d7, d8, d9, d10, d11, df⟩ := cel12 HP5.out
        have g5 : p5 < U.heap.size := (Array.getElem?_eq_some_iff.1 HP5.out).1
        go_upto_region 5 with fail
        go_region
        go_upto_region 6 with fail
        have HPF : Hid (((U.setCell ⟨p5, 8, none⟩ (.int .i64 (bits .or .i64 m.ln 2))).drew).heap[p5]? = some (.cells #[.int .i64 m.pc, .slice a2.ar m.rs.length a2.cr, .int .i64 m.md, .slice a2.ac m.cs.length a2.cc, .slice a2.av m.vs.length a2.cv, .string m.mem, .int .i64 m.st, .int .i64 m.ct, .int .i64 (bits .or .i64 m.ln 2), .slice a2.ai m.is.length a2.ci, .slice a2.ao m.os.length a2.co, .int .i64 m.tr] 73 (0, 0))) := blk_set HP5.out 8 (.int .i64 (bits .or .i64 m.ln 2))
        have HGS : GI p5 (p5 + 1) U ((U.setCell ⟨p5, 8, none⟩ (.int .i64 (bits .or .i64 m.ln 2))).drew) := (setG (u := U) (o := 8) (x := .int .i64 (bits .or .i64 m.ln 2))).trans (GI.of_below (Below.refl _ _).drew)
        have HCF : Hid (CO w ((U.setCell ⟨p5, 8, none⟩ (.int .i64 (bits .or .i64 m.ln 2))).drew) #[.int .i64 m.pc, .slice a.ar m.rs.length a.cr, .int .i64 m.md, .slice a.ac m.cs.length a.cc, .slice a.av m.vs.length a.cv, .string m.mem, .int .i64 m.st, .int .i64 m.ct, .int .i64 m.ln, .slice a.ai m.is.length a.ci, .slice a.ao m.os.length a.co, .int .i64 m.tr]) := ⟨below_g HC2.out.bel HGS (by have := HN.out; have := HM5.out.le; omega), (HGS.block _ (by have := HC2.out.lt; omega) (by have := HN.out; have := HM5.out.le; omega)).trans HC2.out.b0, (HGS.block _ HC2.out.lt (by have := HN.out; have := HM5.out.le; omega)).trans HC2.out.b1⟩
        have HMF5 : Hid (M5 ((U.setCell ⟨p5, 8, none⟩ (.int .i64 (bits .or .i64 m.ln 2))).drew) n m a2) := HM5.out.gi HGS (.inl HN.out.2)
        have HNF : Hid (p5 < ((U.setCell ⟨p5, 8, none⟩ (.int .i64 (bits .or .i64 m.ln 2))).drew).heap.size) := (Array.getElem?_eq_some_iff.1 HPF.out).1
        generalize (U.setCell ⟨p5, 8, none⟩ (.int .i64 (bits .or .i64 m.ln 2))).drew = VF at *
        clear d0 d1 d2 d3 d4 d5 d6 d7 d8 d9 d10 d11 df g5 HGS HC2 HP5 HM5
        obtain ⟨k0, k1, k2, k3, k4, k5, k6, k7, k8, k9, k10, k11, kf⟩ := cel12 HCF.out.b1
        obtain ⟨d0, d1, d2, d3, d4, d5, d6, d7, d8, d9, d10, d11, df⟩ := cel12 HPF.out
        have g1 : w.heap.size + 1 < VF.heap.size := HCF.out.lt
        have g5 : p5 < VF.heap.size := (Array.getElem?_eq_some_iff.1 HPF.out).1
        go_wp2
        obtain ⟨e1, e2, e3⟩ := st12 HCF.out.bel (Nat.le_succ _) HCF.out.b1 (.int .i64 m.pc) (.slice a2.ar m.rs.length a2.cr) (.int .i64 m.md) (.slice a2.ac m.cs.length a2.cc) (.slice a2.av m.vs.length a2.cv) (.string m.mem) (.int .i64 m.st) (.int .i64 m.ct) (.int .i64 (bits .or .i64 m.ln 2)) (.slice a2.ai m.is.length a2.ci) (.slice a2.ao m.os.length a2.co) (.int .i64 m.tr) rfl
        obtain ⟨f0, f1, f2, f3, f4, f5, f6, f7, f8, f9, f10, f11, _⟩ := cel12 e2
        refine bodyPost_ret (v := .agg #[.int .i64 m.pc, .slice a2.ar m.rs.length a2.cr, .int .i64 m.md, .slice a2.ac m.cs.length a2.cc, .slice a2.av m.vs.length a2.cv, .string m.mem, .int .i64 m.st, .int .i64 m.ct, .int .i64 (bits .or .i64 m.ln 2), .slice a2.ai m.is.length a2.ci, .slice a2.ao m.os.length a2.co, .int .i64 m.tr]) ?_ rfl ⟨a2, n, by rw [EV.out]; rfl, ?_, ?_, ?_, e1⟩
        · simp only [results, Try.results42, go_sem]
          simp [go_sem, f0, f1, f2, f3, f4, f5, f6, f7, f8, f9, f10, f11]
        · rw [EV.out]
          exact (HMF5.out.gi GI.sets (.inr (by have := HN.out; omega))).ln _
        · have := HN.out
          omega
        · have h1 := HN.out
          have h2 := HNF.out
          simp [World.setCell]
          omega
      · skip
        have EV : Hid (rlV m 2 = { m with ln := bits .or .i64 m.ln 4 }) := (show rlV m 2 = _ by unfold rlV lnV pw7; rw [if_pos HC.out, if_pos hline]; rfl)
        clear hline
        obtain ⟨d0, d1, d2, d3, d4, d5, d6, d7, d8, d9, d10, d11, df⟩ := cel12 HP5.out
        have g5 : p5 < U.heap.size := (Array.getElem?_eq_some_iff.1 HP5.out).1
        go_upto_region 5 with fail
        go_region
        go_upto_region 6 with fail
        have HPF : Hid (((U.setCell ⟨p5, 8, none⟩ (.int .i64 (bits .or .i64 m.ln 4))).drew).heap[p5]? = some (.cells #[.int .i64 m.pc, .slice a2.ar m.rs.length a2.cr, .int .i64 m.md, .slice a2.ac m.cs.length a2.cc, .slice a2.av m.vs.length a2.cv, .string m.mem, .int .i64 m.st, .int .i64 m.ct, .int .i64 (bits .or .i64 m.ln 4), .slice a2.ai m.is.length a2.ci, .slice a2.ao m.os.length a2.co, .int .i64 m.tr] 73 (0, 0))) := blk_set HP5.out 8 (.int .i64 (bits .or .i64 m.ln 4))
        have HGS : GI p5 (p5 + 1) U ((U.setCell ⟨p5, 8, none⟩ (.int .i64 (bits .or .i64 m.ln 4))).drew) := (setG (u := U) (o := 8) (x := .int .i64 (bits .or .i64 m.ln 4))).trans (GI.of_below (Below.refl _ _).drew)
        have HCF : Hid (CO w ((U.setCell ⟨p5, 8, none⟩ (.int .i64 (bits .or .i64 m.ln 4))).drew) #[.int .i64 m.pc, .slice a.ar m.rs.length a.cr, .int .i64 m.md, .slice a.ac m.cs.length a.cc, .slice a.av m.vs.length a.cv, .string m.mem, .int .i64 m.st, .int .i64 m.ct, .int .i64 m.ln, .slice a.ai m.is.length a.ci, .slice a.ao m.os.length a.co, .int .i64 m.tr]) := ⟨below_g HC2.out.bel HGS (by have := HN.out; have := HM5.out.le; omega), (HGS.block _ (by have := HC2.out.lt; omega) (by have := HN.out; have := HM5.out.le; omega)).trans HC2.out.b0, (HGS.block _ HC2.out.lt (by have := HN.out; have := HM5.out.le; omega)).trans HC2.out.b1⟩
        have HMF5 : Hid (M5 ((U.setCell ⟨p5, 8, none⟩ (.int .i64 (bits .or .i64 m.ln 4))).drew) n m a2) := HM5.out.gi HGS (.inl HN.out.2)
        have HNF : Hid (p5 < ((U.setCell ⟨p5, 8, none⟩ (.int .i64 (bits .or .i64 m.ln 4))).drew).heap.size) := (Array.getElem?_eq_some_iff.1 HPF.out).1
        generalize (U.setCell ⟨p5, 8, none⟩ (.int .i64 (bits .or .i64 m.ln 4))).drew = VF at *
        clear d0 d1 d2 d3 d4 d5 d6 d7 d8 d9 d10 d11 df g5 HGS HC2 HP5 HM5
        obtain ⟨k0, k1, k2, k3, k4, k5, k6, k7, k8, k9, k10, k11, kf⟩ := cel12 HCF.out.b1
        obtain ⟨d0, d1, d2, d3, d4, d5, d6, d7, d8, d9, d10, d11, df⟩ := cel12 HPF.out
        have g1 : w.heap.size + 1 < VF.heap.size := HCF.out.lt
        have g5 : p5 < VF.heap.size := (Array.getElem?_eq_some_iff.1 HPF.out).1
        go_wp2
        obtain ⟨e1, e2, e3⟩ := st12 HCF.out.bel (Nat.le_succ _) HCF.out.b1 (.int .i64 m.pc) (.slice a2.ar m.rs.length a2.cr) (.int .i64 m.md) (.slice a2.ac m.cs.length a2.cc) (.slice a2.av m.vs.length a2.cv) (.string m.mem) (.int .i64 m.st) (.int .i64 m.ct) (.int .i64 (bits .or .i64 m.ln 4)) (.slice a2.ai m.is.length a2.ci) (.slice a2.ao m.os.length a2.co) (.int .i64 m.tr) rfl
        obtain ⟨f0, f1, f2, f3, f4, f5, f6, f7, f8, f9, f10, f11, _⟩ := cel12 e2
        refine bodyPost_ret (v := .agg #[.int .i64 m.pc, .slice a2.ar m.rs.length a2.cr, .int .i64 m.md, .slice a2.ac m.cs.length a2.cc, .slice a2.av m.vs.length a2.cv, .string m.mem, .int .i64 m.st, .int .i64 m.ct, .int .i64 (bits .or .i64 m.ln 4), .slice a2.ai m.is.length a2.ci, .slice a2.ao m.os.length a2.co, .int .i64 m.tr]) ?_ rfl ⟨a2, n, by rw [EV.out]; rfl, ?_, ?_, ?_, e1⟩
        · simp only [results, Try.results42, go_sem]
          simp [go_sem, f0, f1, f2, f3, f4, f5, f6, f7, f8, f9, f10, f11]
        · rw [EV.out]
          exact (HMF5.out.gi GI.sets (.inr (by have := HN.out; omega))).ln _
        · have := HN.out
          omega
        · have h1 := HN.out
          have h2 := HNF.out
          simp [World.setCell]
          omega
      · skip
        have EV : Hid (rlV m 3 = { m with ln := bits .or .i64 m.ln 8 }) := (show rlV m 3 = _ by unfold rlV lnV pw7; rw [if_pos HC.out, if_pos hline]; rfl)
        clear hline
        obtain ⟨d0, d1, d2, d3, d4, d5, d6, d7, d8, d9, d10, d11, df⟩ := cel12 HP5.out
        have g5 : p5 < U.heap.size := (Array.getElem?_eq_some_iff.1 HP5.out).1
        go_upto_region 5 with fail
        go_region
        go_upto_region 6 with fail
        have HPF : Hid (((U.setCell ⟨p5, 8, none⟩ (.int .i64 (bits .or .i64 m.ln 8))).drew).heap[p5]? = some (.cells #[.int .i64 m.pc, .slice a2.ar m.rs.length a2.cr, .int .i64 m.md, .slice a2.ac m.cs.length a2.cc, .slice a2.av m.vs.length a2.cv, .string m.mem, .int .i64 m.st, .int .i64 m.ct, .int .i64 (bits .or .i64 m.ln 8), .slice a2.ai m.is.length a2.ci, .slice a2.ao m.os.length a2.co, .int .i64 m.tr] 73 (0, 0))) := blk_set HP5.out 8 (.int .i64 (bits .or .i64 m.ln 8))
        have HGS : GI p5 (p5 + 1) U ((U.setCell ⟨p5, 8, none⟩ (.int .i64 (bits .or .i64 m.ln 8))).drew) := (setG (u := U) (o := 8) (x := .int .i64 (bits .or .i64 m.ln 8))).trans (GI.of_below (Below.refl _ _).drew)
        have HCF : Hid (CO w ((U.setCell ⟨p5, 8, none⟩ (.int .i64 (bits .or .i64 m.ln 8))).drew) #[.int .i64 m.pc, .slice a.ar m.rs.length a.cr, .int .i64 m.md, .slice a.ac m.cs.length a.cc, .slice a.av m.vs.length a.cv, .string m.mem, .int .i64 m.st, .int .i64 m.ct, .int .i64 m.ln, .slice a.ai m.is.length a.ci, .slice a.ao m.os.length a.co, .int .i64 m.tr]) := ⟨below_g HC2.out.bel HGS (by have := HN.out; have := HM5.out.le; omega), (HGS.block _ (by have := HC2.out.lt; omega) (by have := HN.out; have := HM5.out.le; omega)).trans HC2.out.b0, (HGS.block _ HC2.out.lt (by have := HN.out; have := HM5.out.le; omega)).trans HC2.out.b1⟩
        have HMF5 : Hid (M5 ((U.setCell ⟨p5, 8, none⟩ (.int .i64 (bits .or .i64 m.ln 8))).drew) n m a2) := HM5.out.gi HGS (.inl HN.out.2)
        have HNF : Hid (p5 < ((U.setCell ⟨p5, 8, none⟩ (.int .i64 (bits .or .i64 m.ln 8))).drew).heap.size) := (Array.getElem?_eq_some_iff.1 HPF.out).1
        generalize (U.setCell ⟨p5, 8, none⟩ (.int .i64 (bits .or .i64 m.ln 8))).drew = VF at *
        clear d0 d1 d2 d3 d4 d5 d6 d7 d8 d9 d10 d11 df g5 HGS HC2 HP5 HM5
        obtain ⟨k0, k1, k2, k3, k4, k5, k6, k7, k8, k9, k10, k11, kf⟩ := cel12 HCF.out.b1
        obtain ⟨d0, d1, d2, d3, d4, d5, d6, d7, d8, d9, d10, d11, df⟩ := cel12 HPF.out
        have g1 : w.heap.size + 1 < VF.heap.size := HCF.out.lt
        have g5 : p5 < VF.heap.size := (Array.getElem?_eq_some_iff.1 HPF.out).1
        go_wp2
        obtain ⟨e1, e2, e3⟩ := st12 HCF.out.bel (Nat.le_succ _) HCF.out.b1 (.int .i64 m.pc) (.slice a2.ar m.rs.length a2.cr) (.int .i64 m.md) (.slice a2.ac m.cs.length a2.cc) (.slice a2.av m.vs.length a2.cv) (.string m.mem) (.int .i64 m.st) (.int .i64 m.ct) (.int .i64 (bits .or .i64 m.ln 8)) (.slice a2.ai m.is.length a2.ci) (.slice a2.ao m.os.length a2.co) (.int .i64 m.tr) rfl
        obtain ⟨f0, f1, f2, f3, f4, f5, f6, f7, f8, f9, f10, f11, _⟩ := cel12 e2
        refine bodyPost_ret (v := .agg #[.int .i64 m.pc, .slice a2.ar m.rs.length a2.cr, .int .i64 m.md, .slice a2.ac m.cs.length a2.cc, .slice a2.av m.vs.length a2.cv, .string m.mem, .int .i64 m.st, .int .i64 m.ct, .int .i64 (bits .or .i64 m.ln 8), .slice a2.ai m.is.length a2.ci, .slice a2.ao m.os.length a2.co, .int .i64 m.tr]) ?_ rfl ⟨a2, n, by rw [EV.out]; rfl, ?_, ?_, ?_, e1⟩
        · simp only [results, Try.results42, go_sem]
          simp [go_sem, f0, f1, f2, f3, f4, f5, f6, f7, f8, f9, f10, f11]
        · rw [EV.out]
          exact (HMF5.out.gi GI.sets (.inr (by have := HN.out; omega))).ln _
        · have := HN.out
          omega
        · have h1 := HN.out
          have h2 := HNF.out
          simp [World.setCell]
          omega
      · skip
        have EV : Hid (rlV m 4 = { m with ln := bits .or .i64 m.ln 16 }) := (show rlV m 4 = _ by unfold rlV lnV pw7; rw [if_pos HC.out, if_pos hline]; rfl)
        clear hline
        obtain ⟨d0, d1, d2, d3, d4, d5, d6, d7, d8, d9, d10, d11, df⟩ := cel12 HP5.out
        have g5 : p5 < U.heap.size := (Array.getElem?_eq_some_iff.1 HP5.out).1
        go_upto_region 5 with fail
        go_region
        go_upto_region 6 with fail
        have HPF : Hid (((U.setCell ⟨p5, 8, none⟩ (.int .i64 (bits .or .i64 m.ln 16))).drew).heap[p5]? = some (.cells #[.int .i64 m.pc, .slice a2.ar m.rs.length a2.cr, .int .i64 m.md, .slice a2.ac m.cs.length a2.cc, .slice a2.av m.vs.length a2.cv, .string m.mem, .int .i64 m.st, .int .i64 m.ct, .int .i64 (bits .or .i64 m.ln 16), .slice a2.ai m.is.length a2.ci, .slice a2.ao m.os.length a2.co, .int .i64 m.tr] 73 (0, 0))) := blk_set HP5.out 8 (.int .i64 (bits .or .i64 m.ln 16))
        have HGS : GI p5 (p5 + 1) U ((U.setCell ⟨p5, 8, none⟩ (.int .i64 (bits .or .i64 m.ln 16))).drew) := (setG (u := U) (o := 8) (x := .int .i64 (bits .or .i64 m.ln 16))).trans (GI.of_below (Below.refl _ _).drew)
        have HCF : Hid (CO w ((U.setCell ⟨p5, 8, none⟩ (.int .i64 (bits .or .i64 m.ln 16))).drew) #[.int .i64 m.pc, .slice a.ar m.rs.length a.cr, .int .i64 m.md, .slice a.ac m.cs.length a.cc, .slice a.av m.vs.length a.cv, .string m.mem, .int .i64 m.st, .int .i64 m.ct, .int .i64 m.ln, .slice a.ai m.is.length a.ci, .slice a.ao m.os.length a.co, .int .i64 m.tr]) := ⟨below_g HC2.out.bel HGS (by have := HN.out; have := HM5.out.le; omega), (HGS.block _ (by have := HC2.out.lt; omega) (by have := HN.out; have := HM5.out.le; omega)).trans HC2.out.b0, (HGS.block _ HC2.out.lt (by have := HN.out; have := HM5.out.le; omega)).trans HC2.out.b1⟩
        have HMF5 : Hid (M5 ((U.setCell ⟨p5, 8, none⟩ (.int .i64 (bits .or .i64 m.ln 16))).drew) n m a2) := HM5.out.gi HGS (.inl HN.out.2)
        have HNF : Hid (p5 < ((U.setCell ⟨p5, 8, none⟩ (.int .i64 (bits .or .i64 m.ln 16))).drew).heap.size) := (Array.getElem?_eq_some_iff.1 HPF.out).1
        generalize (U.setCell ⟨p5, 8, none⟩ (.int .i64 (bits .or .i64 m.ln 16))).drew = VF at *
        clear d0 d1 d2 d3 d4 d5 d6 d7 d8 d9 d10 d11 df g5 HGS HC2 HP5 HM5
        obtain ⟨k0, k1, k2, k3, k4, k5, k6, k7, k8, k9, k10, k11, kf⟩ := cel12 HCF.out.b1
        obtain ⟨d0, d1, d2, d3, d4, d5, d6, d7, d8, d9, d10, d11, df⟩ := cel12 HPF.out
        have g1 : w.heap.size + 1 < VF.heap.size := HCF.out.lt
        have g5 : p5 < VF.heap.size := (Array.getElem?_eq_some_iff.1 HPF.out).1
        go_wp2
        obtain ⟨e1, e2, e3⟩ := st12 HCF.out.bel (Nat.le_succ _) HCF.out.b1 (.int .i64 m.pc) (.slice a2.ar m.rs.length a2.cr) (.int .i64 m.md) (.slice a2.ac m.cs.length a2.cc) (.slice a2.av m.vs.length a2.cv) (.string m.mem) (.int .i64 m.st) (.int .i64 m.ct) (.int .i64 (bits .or .i64 m.ln 16)) (.slice a2.ai m.is.length a2.ci) (.slice a2.ao m.os.length a2.co) (.int .i64 m.tr) rfl
        obtain ⟨f0, f1, f2, f3, f4, f5, f6, f7, f8, f9, f10, f11, _⟩ := cel12 e2
        refine bodyPost_ret (v := .agg #[.int .i64 m.pc, .slice a2.ar m.rs.length a2.cr, .int .i64 m.md, .slice a2.ac m.cs.length a2.cc, .slice a2.av m.vs.length a2.cv, .string m.mem, .int .i64 m.st, .int .i64 m.ct, .int .i64 (bits .or .i64 m.ln 16), .slice a2.ai m.is.length a2.ci, .slice a2.ao m.os.length a2.co, .int .i64 m.tr]) ?_ rfl ⟨a2, n, by rw [EV.out]; rfl, ?_, ?_, ?_, e1⟩
        · simp only [results, Try.results42, go_sem]
          simp [go_sem, f0, f1, f2, f3, f4, f5, f6, f7, f8, f9, f10, f11]
        · rw [EV.out]
          exact (HMF5.out.gi GI.sets (.inr (by have := HN.out; omega))).ln _
        · have := HN.out
          omega
        · have h1 := HN.out
          have h2 := HNF.out
          simp [World.setCell]
          omega
      · skip
        have EV : Hid (rlV m 5 = { m with ln := bits .or .i64 m.ln 32 }) := (show rlV m 5 = _ by unfold rlV lnV pw7; rw [if_pos HC.out, if_pos hline]; rfl)
        clear hline
        obtain ⟨d0, d1, d2, d3, d4, d5, d6, d7, d8, d9, d10, d11, df⟩ := cel12 HP5.out
        have g5 : p5 < U.heap.size := (Array.getElem?_eq_some_iff.1 HP5.out).1
        go_upto_region 5 with fail
        go_region
        go_upto_region 6 with fail
        have HPF : Hid (((U.setCell ⟨p5, 8, none⟩ (.int .i64 (bits .or .i64 m.ln 32))).drew).heap[p5]? = some (.cells #[.int .i64 m.pc, .slice a2.ar m.rs.length a2.cr, .int .i64 m.md, .slice a2.ac m.cs.length a2.cc, .slice a2.av m.vs.length a2.cv, .string m.mem, .int .i64 m.st, .int .i64 m.ct, .int .i64 (bits .or .i64 m.ln 32), .slice a2.ai m.is.length a2.ci, .slice a2.ao m.os.length a2.co, .int .i64 m.tr] 73 (0, 0))) := blk_set HP5.out 8 (.int .i64 (bits .or .i64 m.ln 32))
        have HGS : GI p5 (p5 + 1) U ((U.setCell ⟨p5, 8, none⟩ (.int .i64 (bits .or .i64 m.ln 32))).drew) := (setG (u := U) (o := 8) (x := .int .i64 (bits .or .i64 m.ln 32))).trans (GI.of_below (Below.refl _ _).drew)
        have HCF : Hid (CO w ((U.setCell ⟨p5, 8, none⟩ (.int .i64 (bits .or .i64 m.ln 32))).drew) #[.int .i64 m.pc, .slice a.ar m.rs.length a.cr, .int .i64 m.md, .slice a.ac m.cs.length a.cc, .slice a.av m.vs.length a.cv, .string m.mem, .int .i64 m.st, .int .i64 m.ct, .int .i64 m.ln, .slice a.ai m.is.length a.ci, .slice a.ao m.os.length a.co, .int .i64 m.tr]) := ⟨below_g HC2.out.bel HGS (by have := HN.out; have := HM5.out.le; omega), (HGS.block _ (by have := HC2.out.lt; omega) (by have := HN.out; have := HM5.out.le; omega)).trans HC2.out.b0, (HGS.block _ HC2.out.lt (by have := HN.out; have := HM5.out.le; omega)).trans HC2.out.b1⟩
        have HMF5 : Hid (M5 ((U.setCell ⟨p5, 8, none⟩ (.int .i64 (bits .or .i64 m.ln 32))).drew) n m a2) := HM5.out.gi HGS (.inl HN.out.2)
        have HNF : Hid (p5 < ((U.setCell ⟨p5, 8, none⟩ (.int .i64 (bits .or .i64 m.ln 32))).drew).heap.size) := (Array.getElem?_eq_some_iff.1 HPF.out).1
        generalize (U.setCell ⟨p5, 8, none⟩ (.int .i64 (bits .or .i64 m.ln 32))).drew = VF at *
        clear d0 d1 d2 d3 d4 d5 d6 d7 d8 d9 d10 d11 df g5 HGS HC2 HP5 HM5
        obtain ⟨k0, k1, k2, k3, k4, k5, k6, k7, k8, k9, k10, k11, kf⟩ := cel12 HCF.out.b1
        obtain ⟨d0, d1, d2, d3, d4, d5, d6, d7, d8, d9, d10, d11, df⟩ := cel12 HPF.out
        have g1 : w.heap.size + 1 < VF.heap.size := HCF.out.lt
        have g5 : p5 < VF.heap.size := (Array.getElem?_eq_some_iff.1 HPF.out).1
        go_wp2
        obtain ⟨e1, e2, e3⟩ := st12 HCF.out.bel (Nat.le_succ _) HCF.out.b1 (.int .i64 m.pc) (.slice a2.ar m.rs.length a2.cr) (.int .i64 m.md) (.slice a2.ac m.cs.length a2.cc) (.slice a2.av m.vs.length a2.cv) (.string m.mem) (.int .i64 m.st) (.int .i64 m.ct) (.int .i64 (bits .or .i64 m.ln 32)) (.slice a2.ai m.is.length a2.ci) (.slice a2.ao m.os.length a2.co) (.int .i64 m.tr) rfl
        obtain ⟨f0, f1, f2, f3, f4, f5, f6, f7, f8, f9, f10, f11, _⟩ := cel12 e2
        refine bodyPost_ret (v := .agg #[.int .i64 m.pc, .slice a2.ar m.rs.length a2.cr, .int .i64 m.md, .slice a2.ac m.cs.length a2.cc, .slice a2.av m.vs.length a2.cv, .string m.mem, .int .i64 m.st, .int .i64 m.ct, .int .i64 (bits .or .i64 m.ln 32), .slice a2.ai m.is.length a2.ci, .slice a2.ao m.os.length a2.co, .int .i64 m.tr]) ?_ rfl ⟨a2, n, by rw [EV.out]; rfl, ?_, ?_, ?_, e1⟩
        · simp only [results, Try.results42, go_sem]
          simp [go_sem, f0, f1, f2, f3, f4, f5, f6, f7, f8, f9, f10, f11]
        · rw [EV.out]
          exact (HMF5.out.gi GI.sets (.inr (by have := HN.out; omega))).ln _
        · have := HN.out
          omega
        · have h1 := HN.out
          have h2 := HNF.out
          simp [World.setCell]
          omega
      · skip
        have EV : Hid (rlV m 6 = { m with ln := bits .or .i64 m.ln 64 }) := (show rlV m 6 = _ by unfold rlV lnV pw7; rw [if_pos HC.out, if_pos hline]; rfl)
        clear hline
        obtain ⟨d0, d1, d2, d3, d4, d5, d6, d7, d8, d9, d10, d11, df⟩ := cel12 HP5.out
        have g5 : p5 < U.heap.size := (Array.getElem?_eq_some_iff.1 HP5.out).1
        go_upto_region 5 with fail
        go_region
        go_upto_region 6 with fail
        have HPF : Hid (((U.setCell ⟨p5, 8, none⟩ (.int .i64 (bits .or .i64 m.ln 64))).drew).heap[p5]? = some (.cells #[.int .i64 m.pc, .slice a2.ar m.rs.length a2.cr, .int .i64 m.md, .slice a2.ac m.cs.length a2.cc, .slice a2.av m.vs.length a2.cv, .string m.mem, .int .i64 m.st, .int .i64 m.ct, .int .i64 (bits .or .i64 m.ln 64), .slice a2.ai m.is.length a2.ci, .slice a2.ao m.os.length a2.co, .int .i64 m.tr] 73 (0, 0))) := blk_set HP5.out 8 (.int .i64 (bits .or .i64 m.ln 64))
        have HGS : GI p5 (p5 + 1) U ((U.setCell ⟨p5, 8, none⟩ (.int .i64 (bits .or .i64 m.ln 64))).drew) := (setG (u := U) (o := 8) (x := .int .i64 (bits .or .i64 m.ln 64))).trans (GI.of_below (Below.refl _ _).drew)
        have HCF : Hid (CO w ((U.setCell ⟨p5, 8, none⟩ (.int .i64 (bits .or .i64 m.ln 64))).drew) #[.int .i64 m.pc, .slice a.ar m.rs.length a.cr, .int .i64 m.md, .slice a.ac m.cs.length a.cc, .slice a.av m.vs.length a.cv, .string m.mem, .int .i64 m.st, .int .i64 m.ct, .int .i64 m.ln, .slice a.ai m.is.length a.ci, .slice a.ao m.os.length a.co, .int .i64 m.tr]) := ⟨below_g HC2.out.bel HGS (by have := HN.out; have := HM5.out.le; omega), (HGS.block _ (by have := HC2.out.lt; omega) (by have := HN.out; have := HM5.out.le; omega)).trans HC2.out.b0, (HGS.block _ HC2.out.lt (by have := HN.out; have := HM5.out.le; omega)).trans HC2.out.b1⟩
        have HMF5 : Hid (M5 ((U.setCell ⟨p5, 8, none⟩ (.int .i64 (bits .or .i64 m.ln 64))).drew) n m a2) := HM5.out.gi HGS (.inl HN.out.2)
        have HNF : Hid (p5 < ((U.setCell ⟨p5, 8, none⟩ (.int .i64 (bits .or .i64 m.ln 64))).drew).heap.size) := (Array.getElem?_eq_some_iff.1 HPF.out).1
        generalize (U.setCell ⟨p5, 8, none⟩ (.int .i64 (bits .or .i64 m.ln 64))).drew = VF at *
        clear d0 d1 d2 d3 d4 d5 d6 d7 d8 d9 d10 d11 df g5 HGS HC2 HP5 HM5
        obtain ⟨k0, k1, k2, k3, k4, k5, k6, k7, k8, k9, k10, k11, kf⟩ := cel12 HCF.out.b1
        obtain ⟨d0, d1, d2, d3, d4, d5, d6, d7, d8, d9, d10, d11, df⟩ := cel12 HPF.out
        have g1 : w.heap.size + 1 < VF.heap.size := HCF.out.lt
        have g5 : p5 < VF.heap.size := (Array.getElem?_eq_some_iff.1 HPF.out).1
        go_wp2
        obtain ⟨e1, e2, e3⟩ := st12 HCF.out.bel (Nat.le_succ _) HCF.out.b1 (.int .i64 m.pc) (.slice a2.ar m.rs.length a2.cr) (.int .i64 m.md) (.slice a2.ac m.cs.length a2.cc) (.slice a2.av m.vs.length a2.cv) (.string m.mem) (.int .i64 m.st) (.int .i64 m.ct) (.int .i64 (bits .or .i64 m.ln 64)) (.slice a2.ai m.is.length a2.ci) (.slice a2.ao m.os.length a2.co) (.int .i64 m.tr) rfl
        obtain ⟨f0, f1, f2, f3, f4, f5, f6, f7, f8, f9, f10, f11, _⟩ := cel12 e2
        refine bodyPost_ret (v := .agg #[.int .i64 m.pc, .slice a2.ar m.rs.length a2.cr, .int .i64 m.md, .slice a2.ac m.cs.length a2.cc, .slice a2.av m.vs.length a2.cv, .string m.mem, .int .i64 m.st, .int .i64 m.ct, .int .i64 (bits .or .i64 m.ln 64), .slice a2.ai m.is.length a2.ci, .slice a2.ao m.os.length a2.co, .int .i64 m.tr]) ?_ rfl ⟨a2, n, by rw [EV.out]; rfl, ?_, ?_, ?_, e1⟩
        · simp only [results, Try.results42, go_sem]
          simp [go_sem, f0, f1, f2, f3, f4, f5, f6, f7, f8, f9, f10, f11]
        · rw [EV.out]
          exact (HMF5.out.gi GI.sets (.inr (by have := HN.out; omega))).ln _
        · have := HN.out
          omega
        · have h1 := HN.out
          have h2 := HNF.out
          simp [World.setCell]
          omega
    · have EV : Hid (rlV m line = { m with ln := m.ln }) := (show rlV m line = _ by unfold rlV lnV; rw [if_pos HC.out, if_neg hline])
      have HCF : Hid _ := HC2.out
      have HPF : Hid _ := HP5.out
      have HMF5 : Hid _ := HM5.out
      have HNF : Hid (p5 < U.heap.size) := (Array.getElem?_eq_some_iff.1 HP5.out).1
      by_cases h0 : 0 ≤ line
      · have h7 : ¬ line < 7 := fun q => hline ⟨h0, q⟩
        clear hline
        obtain ⟨k0, k1, k2, k3, k4, k5, k6, k7, k8, k9, k10, k11, kf⟩ := cel12 HCF.out.b1
        obtain ⟨d0, d1, d2, d3, d4, d5, d6, d7, d8, d9, d10, d11, df⟩ := cel12 HPF.out
        have g1 : w.heap.size + 1 < U.heap.size := HCF.out.lt
        have g5 : p5 < U.heap.size := (Array.getElem?_eq_some_iff.1 HPF.out).1
        go_wp2
        obtain ⟨e1, e2, e3⟩ := st12 HCF.out.bel (Nat.le_succ _) HCF.out.b1 (.int .i64 m.pc) (.slice a2.ar m.rs.length a2.cr) (.int .i64 m.md) (.slice a2.ac m.cs.length a2.cc) (.slice a2.av m.vs.length a2.cv) (.string m.mem) (.int .i64 m.st) (.int .i64 m.ct) (.int .i64 m.ln) (.slice a2.ai m.is.length a2.ci) (.slice a2.ao m.os.length a2.co) (.int .i64 m.tr) rfl
        obtain ⟨f0, f1, f2, f3, f4, f5, f6, f7, f8, f9, f10, f11, _⟩ := cel12 e2
        refine bodyPost_ret (v := .agg #[.int .i64 m.pc, .slice a2.ar m.rs.length a2.cr, .int .i64 m.md, .slice a2.ac m.cs.length a2.cc, .slice a2.av m.vs.length a2.cv, .string m.mem, .int .i64 m.st, .int .i64 m.ct, .int .i64 m.ln, .slice a2.ai m.is.length a2.ci, .slice a2.ao m.os.length a2.co, .int .i64 m.tr]) ?_ rfl ⟨a2, n, by rw [EV.out]; rfl, ?_, ?_, ?_, e1⟩
        · simp only [results, Try.results42, go_sem]
          simp [go_sem, f0, f1, f2, f3, f4, f5, f6, f7, f8, f9, f10, f11]
        · rw [EV.out]
          exact (HMF5.out.gi GI.sets (.inr (by have := HN.out; omega))).ln _
        · have := HN.out
          omega
        · have h1 := HN.out
          have h2 := HNF.out
          simp [World.setCell]
          omega
      · clear hline
        obtain ⟨k0, k1, k2, k3, k4, k5, k6, k7, k8, k9, k10, k11, kf⟩ := cel12 HCF.out.b1
        obtain ⟨d0, d1, d2, d3, d4, d5, d6, d7, d8, d9, d10, d11, df⟩ := cel12 HPF.out
        have g1 : w.heap.size + 1 < U.heap.size := HCF.out.lt
        have g5 : p5 < U.heap.size := (Array.getElem?_eq_some_iff.1 HPF.out).1
        go_wp2
        obtain ⟨e1, e2, e3⟩ := st12 HCF.out.bel (Nat.le_succ _) HCF.out.b1 (.int .i64 m.pc) (.slice a2.ar m.rs.length a2.cr) (.int .i64 m.md) (.slice a2.ac m.cs.length a2.cc) (.slice a2.av m.vs.length a2.cv) (.string m.mem) (.int .i64 m.st) (.int .i64 m.ct) (.int .i64 m.ln) (.slice a2.ai m.is.length a2.ci) (.slice a2.ao m.os.length a2.co) (.int .i64 m.tr) rfl
        obtain ⟨f0, f1, f2, f3, f4, f5, f6, f7, f8, f9, f10, f11, _⟩ := cel12 e2
        refine bodyPost_ret (v := .agg #[.int .i64 m.pc, .slice a2.ar m.rs.length a2.cr, .int .i64 m.md, .slice a2.ac m.cs.length a2.cc, .slice a2.av m.vs.length a2.cv, .string m.mem, .int .i64 m.st, .int .i64 m.ct, .int .i64 m.ln, .slice a2.ai m.is.length a2.ci, .slice a2.ao m.os.length a2.co, .int .i64 m.tr]) ?_ rfl ⟨a2, n, by rw [EV.out]; rfl, ?_, ?_, ?_, e1⟩
        · simp only [results, Try.results42, go_sem]
          simp [go_sem, f0, f1, f2, f3, f4, f5, f6, f7, f8, f9, f10, f11]
        · rw [EV.out]
          exact (HMF5.out.gi GI.sets (.inr (by have := HN.out; omega))).ln _
        · have := HN.out
          omega
        · have h1 := HN.out
          have h2 := HNF.out
          simp [World.setCell]
          omega
  · have HC : Hid (mfC m = 1) := (show mfC m = 1 from (mfC_or m).resolve_left hc)
    have EV : Hid (rlV m line = mv0) := (show rlV m line = mv0 by unfold rlV; rw [if_neg hc])
    clear hc
    go_upto_region 2 with (go_at_call 95; refine Calls.mono (HMFA.out _ HC0.out.bel) ?_; rintro e u1 ⟨rfl, hb⟩; rw [HC.out]; have HC1 : Hid (CO w u1 #[.int .i64 m.pc, .slice a.ar m.rs.length a.cr, .int .i64 m.md, .slice a.ac m.cs.length a.cc, .slice a.av m.vs.length a.cv, .string m.mem, .int .i64 m.st, .int .i64 m.ct, .int .i64 m.ln, .slice a.ai m.is.length a.ci, .slice a.ao m.os.length a.co, .int .i64 m.tr]) := HC0.out.step hb; clear hb c0 c1 c2 c3 c4 c5 c6 c7 c8 c9 c10 c11 cf HMFA g0)
    obtain ⟨k0, k1, k2, k3, k4, k5, k6, k7, k8, k9, k10, k11, kf⟩ := cel12 HC1.out.b1
    have g1 : w.heap.size + 1 < u1.heap.size := HC1.out.lt
    go_wp2
    obtain ⟨e1, e2, e3⟩ := st12 HC1.out.bel (Nat.le_succ _) HC1.out.b1 (.int .i64 0) (.slice none 0 0) (.int .i64 0) (.slice none 0 0) (.slice none 0 0) (.string ⟨#[]⟩) (.int .i64 0) (.int .i64 0) (.int .i64 0) (.slice none 0 0) (.slice none 0 0) (.int .i64 0) rfl
    obtain ⟨f0, f1, f2, f3, f4, f5, f6, f7, f8, f9, f10, f11, _⟩ := cel12 e2
    refine bodyPost_ret (v := .agg #[.int .i64 0, .slice none 0 0, .int .i64 0, .slice none 0 0, .slice none 0 0, .string ⟨#[]⟩, .int .i64 0, .int .i64 0, .int .i64 0, .slice none 0 0, .slice none 0 0, .int .i64 0]) ?_ rfl ⟨ma0, ⟨w.heap.size, w.heap.size, w.heap.size, w.heap.size, w.heap.size, w.heap.size⟩, by rw [EV.out]; rfl, by rw [EV.out]; exact M5.zero _ _, Nat.le_refl _, e1.size, e1⟩
    simp only [results, Try.results42, go_sem]
    simp [go_sem, f0, f1, f2, f3, f4, f5, f6, f7, f8, f9, f10, f11]
set_option maxRecDepth 100000 in
set_option maxHeartbeats 8000000 in
theorem specRaise_any {w : World} {m : MV} {a : MA} (h : MRows w m a) (hl : MLen m) (line : Int) : Calls Try.prog 40 #[.agg (mC m a), .int .i64 line] w fun e w' => CopyA w (rlV m line) e w' := by
  have HC0 : Hid (CO w ((w.alloc (.cells #[.int .i64 m.pc, .slice a.ar m.rs.length a.cr, .int .i64 m.md, .slice a.ac m.cs.length a.cc, .slice a.av m.vs.length a.cv, .string m.mem, .int .i64 m.st, .int .i64 m.ct, .int .i64 m.ln, .slice a.ai m.is.length a.ci, .slice a.ao m.os.length a.co, .int .i64 m.tr] 73)).alloc (.cells #[.int .i64 0, .slice none 0 0, .int .i64 0, .slice none 0 0, .slice none 0 0, .string ⟨#[]⟩, .int .i64 0, .int .i64 0, .int .i64 0, .slice none 0 0, .slice none 0 0, .int .i64 0] 73)) #[.int .i64 m.pc, .slice a.ar m.rs.length a.cr, .int .i64 m.md, .slice a.ac m.cs.length a.cc, .slice a.av m.vs.length a.cv, .string m.mem, .int .i64 m.st, .int .i64 m.ct, .int .i64 m.ln, .slice a.ai m.is.length a.ci, .slice a.ao m.os.length a.co, .int .i64 m.tr]) := CO.new w _
  have HM : Hid (MRows w m a) := h
  have HL : Hid (MLen m) := hl
  have HMFA : Hid (∀ u : World, Below w.heap.size w u → Calls Try.prog 92 #[.agg #[.int .i64 m.pc, .slice a.ar m.rs.length a.cr, .int .i64 m.md, .slice a.ac m.cs.length a.cc, .slice a.av m.vs.length a.cv, .string m.mem, .int .i64 m.st, .int .i64 m.ct, .int .i64 m.ln, .slice a.ai m.is.length a.ci, .slice a.ao m.os.length a.co, .int .i64 m.tr]] u fun e w' => e = .returned (.int .i64 (mfC m)) ∧ Below u.heap.size u w') := fun u hu => specMF_any (h.below hu) hl
  have HCPA : Hid (∀ u : World, Below w.heap.size w u → Calls Try.prog 93 #[.agg #[.int .i64 m.pc, .slice a.ar m.rs.length a.cr, .int .i64 m.md, .slice a.ac m.cs.length a.cc, .slice a.av m.vs.length a.cv, .string m.mem, .int .i64 m.st, .int .i64 m.ct, .int .i64 m.ln, .slice a.ai m.is.length a.ci, .slice a.ao m.os.length a.co, .int .i64 m.tr]] u fun e w' => CopyA u m e w') := fun u hu => l04Copy_any (h.below hu) hl
  clear h hl
  unfold mC
  go_enter Try.func40, Try.ntmps40
  go_upto_region 1 with fail
  generalize (w.alloc (.cells #[.int .i64 m.pc, .slice a.ar m.rs.length a.cr, .int .i64 m.md, .slice a.ac m.cs.length a.cc, .slice a.av m.vs.length a.cv, .string m.mem, .int .i64 m.st, .int .i64 m.ct, .int .i64 m.ln, .slice a.ai m.is.length a.ci, .slice a.ao m.os.length a.co, .int .i64 m.tr] 73)).alloc (.cells #[.int .i64 0, .slice none 0 0, .int .i64 0, .slice none 0 0, .slice none 0 0, .string ⟨#[]⟩, .int .i64 0, .int .i64 0, .int .i64 0, .slice none 0 0, .slice none 0 0, .int .i64 0] 73) = V0 at *
  obtain ⟨c0, c1, c2, c3, c4, c5, c6, c7, c8, c9, c10, c11, cf⟩ := cel12 HC0.out.b0
  have g0 : w.heap.size < V0.heap.size := by have := HC0.out.lt; omega
  by_cases hc : mfC m = 0
  · have HC : Hid (mfC m = 0) := hc
    clear hc
    go_upto_region 4 with (first
      | (go_at_call 92; refine Calls.mono (HMFA.out _ HC0.out.bel) ?_; rintro e u1 ⟨rfl, hb⟩; rw [HC.out]; have HC1 : Hid (CO w u1 #[.int .i64 m.pc, .slice a.ar m.rs.length a.cr, .int .i64 m.md, .slice a.ac m.cs.length a.cc, .slice a.av m.vs.length a.cv, .string m.mem, .int .i64 m.st, .int .i64 m.ct, .int .i64 m.ln, .slice a.ai m.is.length a.ci, .slice a.ao m.os.length a.co, .int .i64 m.tr]) := HC0.out.step hb; clear hb c0 c1 c2 c3 c4 c5 c6 c7 c8 c9 c10 c11 cf HMFA g0; obtain ⟨c0, c1, c2, c3, c4, c5, c6, c7, c8, c9, c10, c11, cf⟩ := cel12 HC1.out.b0; have g0 : w.heap.size < u1.heap.size := (by have := HC1.out.lt; omega))
      | (go_at_call 93; refine Calls.mono (HCPA.out _ HC1.out.bel) ?_; rintro e u2 ⟨a2, n, rfl, hM5, hn1, hn2, hb⟩; unfold mC; have HC2 : Hid (CO w (u2.alloc (.cells #[.int .i64 m.pc, .slice a2.ar m.rs.length a2.cr, .int .i64 m.md, .slice a2.ac m.cs.length a2.cc, .slice a2.av m.vs.length a2.cv, .string m.mem, .int .i64 m.st, .int .i64 m.ct, .int .i64 m.ln, .slice a2.ai m.is.length a2.ci, .slice a2.ao m.os.length a2.co, .int .i64 m.tr] 73)) #[.int .i64 m.pc, .slice a.ar m.rs.length a.cr, .int .i64 m.md, .slice a.ac m.cs.length a.cc, .slice a.av m.vs.length a.cv, .string m.mem, .int .i64 m.st, .int .i64 m.ct, .int .i64 m.ln, .slice a.ai m.is.length a.ci, .slice a.ao m.os.length a.co, .int .i64 m.tr]) := (HC1.out.step hb).step ((Below.refl _ _).alloc (Nat.le_refl _) _); have HP5 : Hid ((u2.alloc (.cells #[.int .i64 m.pc, .slice a2.ar m.rs.length a2.cr, .int .i64 m.md, .slice a2.ac m.cs.length a2.cc, .slice a2.av m.vs.length a2.cv, .string m.mem, .int .i64 m.st, .int .i64 m.ct, .int .i64 m.ln, .slice a2.ai m.is.length a2.ci, .slice a2.ao m.os.length a2.co, .int .i64 m.tr] 73)).heap[u2.heap.size]? = some (.cells #[.int .i64 m.pc, .slice a2.ar m.rs.length a2.cr, .int .i64 m.md, .slice a2.ac m.cs.length a2.cc, .slice a2.av m.vs.length a2.cv, .string m.mem, .int .i64 m.st, .int .i64 m.ct, .int .i64 m.ln, .slice a2.ai m.is.length a2.ci, .slice a2.ao m.os.length a2.co, .int .i64 m.tr] 73 (0, 0))) := heap_new _ _; have HM5 : Hid (M5 (u2.alloc (.cells #[.int .i64 m.pc, .slice a2.ar m.rs.length a2.cr, .int .i64 m.md, .slice a2.ac m.cs.length a2.cc, .slice a2.av m.vs.length a2.cv, .string m.mem, .int .i64 m.st, .int .i64 m.ct, .int .i64 m.ln, .slice a2.ai m.is.length a2.ci, .slice a2.ao m.os.length a2.co, .int .i64 m.tr] 73)) n m a2) := hM5.step ((Below.refl _ _).alloc (Nat.le_refl _) _); have HN : Hid (w.heap.size + 2 ≤ n.a ∧ n.f ≤ u2.heap.size) := (show _ ∧ _ from ⟨Nat.le_trans HC1.out.lt hn1, hn2⟩); clear hM5 hn1 hn2 hb HCPA c0 c1 c2 c3 c4 c5 c6 c7 c8 c9 c10 c11 cf))
    generalize u2.alloc (.cells #[.int .i64 m.pc, .slice a2.ar m.rs.length a2.cr, .int .i64 m.md, .slice a2.ac m.cs.length a2.cc, .slice a2.av m.vs.length a2.cv, .string m.mem, .int .i64 m.st, .int .i64 m.ct, .int .i64 m.ln, .slice a2.ai m.is.length a2.ci, .slice a2.ao m.os.length a2.co, .int .i64 m.tr] 73) = U at *
    generalize u2.heap.size = p5 at *
    clear HC1 HC0 g0
    by_cases hline : 0 ≤ line ∧ line < 7
    · obtain rfl | rfl | rfl | rfl | rfl | rfl | rfl : line = 0 ∨ line = 1 ∨ line = 2 ∨ line = 3 ∨ line = 4 ∨ line = 5 ∨ line = 6 := by omega
      · skip
        have EV : Hid (rlV m 0 = { m with ln := bits .or .i64 m.ln 1 }) := (show rlV m 0 = _ by unfold rlV lnV pw7; rw [if_pos HC.out, if_pos hline]; rfl)
        clear hline
        obtain ⟨d0, d1, d2, d3, d4, d5, d6, d7, d8, d9, d10, d11, df⟩ := cel12 HP5.out
        have g5 : p5 < U.heap.size := (Array.getElem?_eq_some_iff.1 HP5.out).1
        go_upto_region 6 with fail
        have HPF : Hid ((U.setCell ⟨p5, 8, none⟩ (.int .i64 (bits .or .i64 m.ln 1))).heap[p5]? = some (.cells #[.int .i64 m.pc, .slice a2.ar m.rs.length a2.cr, .int .i64 m.md, .slice a2.ac m.cs.length a2.cc, .slice a2.av m.vs.length a2.cv, .string m.mem, .int .i64 m.st, .int .i64 m.ct, .int .i64 (bits .or .i64 m.ln 1), .slice a2.ai m.is.length a2.ci, .slice a2.ao m.os.length a2.co, .int .i64 m.tr] 73 (0, 0))) := blk_set HP5.out 8 (.int .i64 (bits .or .i64 m.ln 1))
        have HGS : GI p5 (p5 + 1) U (U.setCell ⟨p5, 8, none⟩ (.int .i64 (bits .or .i64 m.ln 1))) := setG
        have HCF : Hid (CO w (U.setCell ⟨p5, 8, none⟩ (.int .i64 (bits .or .i64 m.ln 1))) #[.int .i64 m.pc, .slice a.ar m.rs.length a.cr, .int .i64 m.md, .slice a.ac m.cs.length a.cc, .slice a.av m.vs.length a.cv, .string m.mem, .int .i64 m.st, .int .i64 m.ct, .int .i64 m.ln, .slice a.ai m.is.length a.ci, .slice a.ao m.os.length a.co, .int .i64 m.tr]) := ⟨below_g HC2.out.bel HGS (by have := HN.out; have := HM5.out.le; omega), (HGS.block _ (by have := HC2.out.lt; omega) (by have := HN.out; have := HM5.out.le; omega)).trans HC2.out.b0, (HGS.block _ HC2.out.lt (by have := HN.out; have := HM5.out.le; omega)).trans HC2.out.b1⟩
        have HMF5 : Hid (M5 (U.setCell ⟨p5, 8, none⟩ (.int .i64 (bits .or .i64 m.ln 1))) n m a2) := HM5.out.gi HGS (.inl HN.out.2)
        have HNF : Hid (p5 < (U.setCell ⟨p5, 8, none⟩ (.int .i64 (bits .or .i64 m.ln 1))).heap.size) := (Array.getElem?_eq_some_iff.1 HPF.out).1
        generalize U.setCell ⟨p5, 8, none⟩ (.int .i64 (bits .or .i64 m.ln 1)) = VF at *
        clear d0 d1 d2 d3 d4 d5 d6 d7 d8 d9 d10 d11 df g5 HGS HC2 HP5 HM5
        obtain ⟨k0, k1, k2, k3, k4, k5, k6, k7, k8, k9, k10, k11, kf⟩ := cel12 HCF.out.b1
        obtain ⟨d0, d1, d2, d3, d4, d5, d6, d7, d8, d9, d10, d11, df⟩ := cel12 HPF.out
        have g1 : w.heap.size + 1 < VF.heap.size := HCF.out.lt
        have g5 : p5 < VF.heap.size := (Array.getElem?_eq_some_iff.1 HPF.out).1
        go_wp2
        obtain ⟨e1, e2, e3⟩ := st12 HCF.out.bel (Nat.le_succ _) HCF.out.b1 (.int .i64 m.pc) (.slice a2.ar m.rs.length a2.cr) (.int .i64 m.md) (.slice a2.ac m.cs.length a2.cc) (.slice a2.av m.vs.length a2.cv) (.string m.mem) (.int .i64 m.st) (.int .i64 m.ct) (.int .i64 (bits .or .i64 m.ln 1)) (.slice a2.ai m.is.length a2.ci) (.slice a2.ao m.os.length a2.co) (.int .i64 m.tr) rfl
        obtain ⟨f0, f1, f2, f3, f4, f5, f6, f7, f8, f9, f10, f11, _⟩ := cel12 e2
        refine bodyPost_ret (v := .agg #[.int .i64 m.pc, .slice a2.ar m.rs.length a2.cr, .int .i64 m.md, .slice a2.ac m.cs.length a2.cc, .slice a2.av m.vs.length a2.cv, .string m.mem, .int .i64 m.st, .int .i64 m.ct, .int .i64 (bits .or .i64 m.ln 1), .slice a2.ai m.is.length a2.ci, .slice a2.ao m.os.length a2.co, .int .i64 m.tr]) ?_ rfl ⟨a2, n, by rw [EV.out]; rfl, ?_, ?_, ?_, e1⟩
        · simp only [results, Try.results40, go_sem]
          simp [go_sem, f0, f1, f2, f3, f4, f5, f6, f7, f8, f9, f10, f11]
        · rw [EV.out]
          exact (HMF5.out.gi GI.sets (.inr (by have := HN.out; omega))).ln _
        · have := HN.out
          omega
        · have h1 := HN.out
          have h2 := HNF.out
          simp [World.setCell]
          omega
      · skip
        have EV : Hid (rlV m 1 = { m with ln := bits .or .i64 m.ln 2 }) := (show rlV m 1 = _ by unfold rlV lnV pw7; rw [if_pos HC.out, if_pos hline]; rfl)
        clear hline
        obtain ⟨d0, d1, d2, d3, d4, d5, d6, d7, d8, d9, d10, d11, df⟩ := cel12 HP5.out
        have g5 : p5 < U.heap.size := (Array.getElem?_eq_some_iff.1 HP5.out).1
        go_upto_region 6 with fail
        have HPF : Hid ((U.setCell ⟨p5, 8, none⟩ (.int .i64 (bits .or .i64 m.ln 2))).heap[p5]? = some (.cells #[.int .i64 m.pc, .slice a2.ar m.rs.length a2.cr, .int .i64 m.md, .slice a2.ac m.cs.length a2.cc, .slice a2.av m.vs.length a2.cv, .string m.mem, .int .i64 m.st, .int .i64 m.ct, .int .i64 (bits .or .i64 m.ln 2), .slice a2.ai m.is.length a2.ci, .slice a2.ao m.os.length a2.co, .int .i64 m.tr] 73 (0, 0))) := blk_set HP5.out 8 (.int .i64 (bits .or .i64 m.ln 2))
        have HGS : GI p5 (p5 + 1) U (U.setCell ⟨p5, 8, none⟩ (.int .i64 (bits .or .i64 m.ln 2))) := setG
        have HCF : Hid (CO w (U.setCell ⟨p5, 8, none⟩ (.int .i64 (bits .or .i64 m.ln 2))) #[.int .i64 m.pc, .slice a.ar m.rs.length a.cr, .int .i64 m.md, .slice a.ac m.cs.length a.cc, .slice a.av m.vs.length a.cv, .string m.mem, .int .i64 m.st, .int .i64 m.ct, .int .i64 m.ln, .slice a.ai m.is.length a.ci, .slice a.ao m.os.length a.co, .int .i64 m.tr]) := ⟨below_g HC2.out.bel HGS (by have := HN.out; have := HM5.out.le; omega), (HGS.block _ (by have := HC2.out.lt; omega) (by have := HN.out; have := HM5.out.le; omega)).trans HC2.out.b0, (HGS.block _ HC2.out.lt (by have := HN.out; have := HM5.out.le; omega)).trans HC2.out.b1⟩
        have HMF5 : Hid (M5 (U.setCell ⟨p5, 8, none⟩ (.int .i64 (bits .or .i64 m.ln 2))) n m a2) := HM5.out.gi HGS (.inl HN.out.2)
        have HNF : Hid (p5 < (U.setCell ⟨p5, 8, none⟩ (.int .i64 (bits .or .i64 m.ln 2))).heap.size) := (Array.getElem?_eq_some_iff.1 HPF.out).1
        generalize U.setCell ⟨p5, 8, none⟩ (.int .i64 (bits .or .i64 m.ln 2)) = VF at *
        clear d0 d1 d2 d3 d4 d5 d6 d7 d8 d9 d10 d11 df g5 HGS HC2 HP5 HM5
        obtain ⟨k0, k1, k2, k3, k4, k5, k6, k7, k8, k9, k10, k11, kf⟩ := cel12 HCF.out.b1
        obtain ⟨d0, d1, d2, d3, d4, d5, d6, d7, d8, d9, d10, d11, df⟩ := cel12 HPF.out
        have g1 : w.heap.size + 1 < VF.heap.size := HCF.out.lt
        have g5 : p5 < VF.heap.size := (Array.getElem?_eq_some_iff.1 HPF.out).1
        go_wp2
        obtain ⟨e1, e2, e3⟩ := st12 HCF.out.bel (Nat.le_succ _) HCF.out.b1 (.int .i64 m.pc) (.slice a2.ar m.rs.length a2.cr) (.int .i64 m.md) (.slice a2.ac m.cs.length a2.cc) (.slice a2.av m.vs.length a2.cv) (.string m.mem) (.int .i64 m.st) (.int .i64 m.ct) (.int .i64 (bits .or .i64 m.ln 2)) (.slice a2.ai m.is.length a2.ci) (.slice a2.ao m.os.length a2.co) (.int .i64 m.tr) rfl
        obtain ⟨f0, f1, f2, f3, f4, f5, f6, f7, f8, f9, f10, f11, _⟩ := cel12 e2
        refine bodyPost_ret (v := .agg #[.int .i64 m.pc, .slice a2.ar m.rs.length a2.cr, .int .i64 m.md, .slice a2.ac m.cs.length a2.cc, .slice a2.av m.vs.length a2.cv, .string m.mem, .int .i64 m.st, .int .i64 m.ct, .int .i64 (bits .or .i64 m.ln 2), .slice a2.ai m.is.length a2.ci, .slice a2.ao m.os.length a2.co, .int .i64 m.tr]) ?_ rfl ⟨a2, n, by rw [EV.out]; rfl, ?_, ?_, ?_, e1⟩
        · simp only [results, Try.results40, go_sem]
          simp [go_sem, f0, f1, f2, f3, f4, f5, f6, f7, f8, f9, f10, f11]
        · rw [EV.out]
          exact (HMF5.out.gi GI.sets (.inr (by have := HN.out; omega))).ln _
        · have := HN.out
          omega
        · have h1 := HN.out
          have h2 := HNF.out
          simp [World.setCell]
          omega
      · skip
        have EV : Hid (rlV m 2 = { m with ln := bits .or .i64 m.ln 4 }) := (show rlV m 2 = _ by unfold rlV lnV pw7; rw [if_pos HC.out, if_pos hline]; rfl)
        clear hline
        obtain ⟨d0, d1, d2, d3, d4, d5, d6, d7, d8, d9, d10, d11, df⟩ := cel12 HP5.out
        have g5 : p5 < U.heap.size := (Array.getElem?_eq_some_iff.1 HP5.out).1
        go_upto_region 6 with fail
        have HPF : Hid ((U.setCell ⟨p5, 8, none⟩ (.int .i64 (bits .or .i64 m.ln 4))).heap[p5]? = some (.cells #[.int .i64 m.pc, .slice a2.ar m.rs.length a2.cr, .int .i64 m.md, .slice a2.ac m.cs.length a2.cc, .slice a2.av m.vs.length a2.cv, .string m.mem, .int .i64 m.st, .int .i64 m.ct, .int .i64 (bits .or .i64 m.ln 4), .slice a2.ai m.is.length a2.ci, .slice a2.ao m.os.length a2.co, .int .i64 m.tr] 73 (0, 0))) := blk_set HP5.out 8 (.int .i64 (bits .or .i64 m.ln 4))
        have HGS : GI p5 (p5 + 1) U (U.setCell ⟨p5, 8, none⟩ (.int .i64 (bits .or .i64 m.ln 4))) := setG
        have HCF : Hid (CO w (U.setCell ⟨p5, 8, none⟩ (.int .i64 (bits .or .i64 m.ln 4))) #[.int .i64 m.pc, .slice a.ar m.rs.length a.cr, .int .i64 m.md, .slice a.ac m.cs.length a.cc, .slice a.av m.vs.length a.cv, .string m.mem, .int .i64 m.st, .int .i64 m.ct, .int .i64 m.ln, .slice a.ai m.is.length a.ci, .slice a.ao m.os.length a.co, .int .i64 m.tr]) := ⟨below_g HC2.out.bel HGS (by have := HN.out; have := HM5.out.le; omega), (HGS.block _ (by have := HC2.out.lt; omega) (by have := HN.out; have := HM5.out.le; omega)).trans HC2.out.b0, (HGS.block _ HC2.out.lt (by have := HN.out; have := HM5.out.le; omega)).trans HC2.out.b1⟩
        have HMF5 : Hid (M5 (U.setCell ⟨p5, 8, none⟩ (.int .i64 (bits .or .i64 m.ln 4))) n m a2) := HM5.out.gi HGS (.inl HN.out.2)
        have HNF : Hid (p5 < (U.setCell ⟨p5, 8, none⟩ (.int .i64 (bits .or .i64 m.ln 4))).heap.size) := (Array.getElem?_eq_some_iff.1 HPF.out).1
        generalize U.setCell ⟨p5, 8, none⟩ (.int .i64 (bits .or .i64 m.ln 4)) = VF at *
        clear d0 d1 d2 d3 d4 d5 d6 d7 d8 d9 d10 d11 df g5 HGS HC2 HP5 HM5
        obtain ⟨k0, k1, k2, k3, k4, k5, k6, k7, k8, k9, k10, k11, kf⟩ := cel12 HCF.out.b1
        obtain ⟨d0, d1, d2, d3, d4, d5, d6, d7, d8, d9, d10, d11, df⟩ := cel12 HPF.out
        have g1 : w.heap.size + 1 < VF.heap.size := HCF.out.lt
        have g5 : p5 < VF.heap.size := (Array.getElem?_eq_some_iff.1 HPF.out).1
        go_wp2
        obtain ⟨e1, e2, e3⟩ := st12 HCF.out.bel (Nat.le_succ _) HCF.out.b1 (.int .i64 m.pc) (.slice a2.ar m.rs.length a2.cr) (.int .i64 m.md) (.slice a2.ac m.cs.length a2.cc) (.slice a2.av m.vs.length a2.cv) (.string m.mem) (.int .i64 m.st) (.int .i64 m.ct) (.int .i64 (bits .or .i64 m.ln 4)) (.slice a2.ai m.is.length a2.ci) (.slice a2.ao m.os.length a2.co) (.int .i64 m.tr) rfl
        obtain ⟨f0, f1, f2, f3, f4, f5, f6, f7, f8, f9, f10, f11, _⟩ := cel12 e2
        refine bodyPost_ret (v := .agg #[.int .i64 m.pc, .slice a2.ar m.rs.length a2.cr, .int .i64 m.md, .slice a2.ac m.cs.length a2.cc, .slice a2.av m.vs.length a2.cv, .string m.mem, .int .i64 m.st, .int .i64 m.ct, .int .i64 (bits .or .i64 m.ln 4), .slice a2.ai m.is.length a2.ci, .slice a2.ao m.os.length a2.co, .int .i64 m.tr]) ?_ rfl ⟨a2, n, by rw [EV.out]; rfl, ?_, ?_, ?_, e1⟩
        · simp only [results, Try.results40, go_sem]
          simp [go_sem, f0, f1, f2, f3, f4, f5, f6, f7, f8, f9, f10, f11]
        · rw [EV.out]
          exact (HMF5.out.gi GI.sets (.inr (by have := HN.out; omega))).ln _
        · have := HN.out
          omega
        · have h1 := HN.out
          have h2 := HNF.out
          simp [World.setCell]
          omega
      · skip
        have EV : Hid (rlV m 3 = { m with ln := bits .or .i64 m.ln 8 }) := (show rlV m 3 = _ by unfold rlV lnV pw7; rw [if_pos HC.out, if_pos hline]; rfl)
        clear hline
        obtain ⟨d0, d1, d2, d3, d4, d5, d6, d7, d8, d9, d10, d11, df⟩ := cel12 HP5.out
        have g5 : p5 < U.heap.size := (Array.getElem?_eq_some_iff.1 HP5.out).1
        go_upto_region 6 with fail
        have HPF : Hid ((U.setCell ⟨p5, 8, none⟩ (.int .i64 (bits .or .i64 m.ln 8))).heap[p5]? = some (.cells #[.int .i64 m.pc, .slice a2.ar m.rs.length a2.cr, .int .i64 m.md, .slice a2.ac m.cs.length a2.cc, .slice a2.av m.vs.length a2.cv, .string m.mem, .int .i64 m.st, .int .i64 m.ct, .int .i64 (bits .or .i64 m.ln 8), .slice a2.ai m.is.length a2.ci, .slice a2.ao m.os.length a2.co, .int .i64 m.tr] 73 (0, 0))) := blk_set HP5.out 8 (.int .i64 (bits .or .i64 m.ln 8))
        have HGS : GI p5 (p5 + 1) U (U.setCell ⟨p5, 8, none⟩ (.int .i64 (bits .or .i64 m.ln 8))) := setG
        have HCF : Hid (CO w (U.setCell ⟨p5, 8, none⟩ (.int .i64 (bits .or .i64 m.ln 8))) #[.int .i64 m.pc, .slice a.ar m.rs.length a.cr, .int .i64 m.md, .slice a.ac m.cs.length a.cc, .slice a.av m.vs.length a.cv, .string m.mem, .int .i64 m.st, .int .i64 m.ct, .int .i64 m.ln, .slice a.ai m.is.length a.ci, .slice a.ao m.os.length a.co, .int .i64 m.tr]) := ⟨below_g HC2.out.bel HGS (by have := HN.out; have := HM5.out.le; omega), (HGS.block _ (by have := HC2.out.lt; omega) (by have := HN.out; have := HM5.out.le; omega)).trans HC2.out.b0, (HGS.block _ HC2.out.lt (by have := HN.out; have := HM5.out.le; omega)).trans HC2.out.b1⟩
        have HMF5 : Hid (M5 (U.setCell ⟨p5, 8, none⟩ (.int .i64 (bits .or .i64 m.ln 8))) n m a2) := HM5.out.gi HGS (.inl HN.out.2)
        have HNF : Hid (p5 < (U.setCell ⟨p5, 8, none⟩ (.int .i64 (bits .or .i64 m.ln 8))).heap.size) := (Array.getElem?_eq_some_iff.1 HPF.out).1
        generalize U.setCell ⟨p5, 8, none⟩ (.int .i64 (bits .or .i64 m.ln 8)) = VF at *
        clear d0 d1 d2 d3 d4 d5 d6 d7 d8 d9 d10 d11 df g5 HGS HC2 HP5 HM5
        obtain ⟨k0, k1, k2, k3, k4, k5, k6, k7, k8, k9, k10, k11, kf⟩ := cel12 HCF.out.b1
        obtain ⟨d0, d1, d2, d3, d4, d5, d6, d7, d8, d9, d10, d11, df⟩ := cel12 HPF.out
        have g1 : w.heap.size + 1 < VF.heap.size := HCF.out.lt
        have g5 : p5 < VF.heap.size := (Array.getElem?_eq_some_iff.1 HPF.out).1
        go_wp2
        obtain ⟨e1, e2, e3⟩ := st12 HCF.out.bel (Nat.le_succ _) HCF.out.b1 (.int .i64 m.pc) (.slice a2.ar m.rs.length a2.cr) (.int .i64 m.md) (.slice a2.ac m.cs.length a2.cc) (.slice a2.av m.vs.length a2.cv) (.string m.mem) (.int .i64 m.st) (.int .i64 m.ct) (.int .i64 (bits .or .i64 m.ln 8)) (.slice a2.ai m.is.length a2.ci) (.slice a2.ao m.os.length a2.co) (.int .i64 m.tr) rfl
        obtain ⟨f0, f1, f2, f3, f4, f5, f6, f7, f8, f9, f10, f11, _⟩ := cel12 e2
        refine bodyPost_ret (v := .agg #[.int .i64 m.pc, .slice a2.ar m.rs.length a2.cr, .int .i64 m.md, .slice a2.ac m.cs.length a2.cc, .slice a2.av m.vs.length a2.cv, .string m.mem, .int .i64 m.st, .int .i64 m.ct, .int .i64 (bits .or .i64 m.ln 8), .slice a2.ai m.is.length a2.ci, .slice a2.ao m.os.length a2.co, .int .i64 m.tr]) ?_ rfl ⟨a2, n, by rw [EV.out]; rfl, ?_, ?_, ?_, e1⟩
        · simp only [results, Try.results40, go_sem]
          simp [go_sem, f0, f1, f2, f3, f4, f5, f6, f7, f8, f9, f10, f11]
        · rw [EV.out]
          exact (HMF5.out.gi GI.sets (.inr (by have := HN.out; omega))).ln _
        · have := HN.out
          omega
        · have h1 := HN.out
          have h2 := HNF.out
          simp [World.setCell]
          omega
      · skip
        have EV : Hid (rlV m 4 = { m with ln := bits .or .i64 m.ln 16 }) := (show rlV m 4 = _ by unfold rlV lnV pw7; rw [if_pos HC.out, if_pos hline]; rfl)
        clear hline
        obtain ⟨d0, d1, d2, d3, d4, d5, d6, d7, d8, d9, d10, d11, df⟩ := cel12 HP5.out
        have g5 : p5 < U.heap.size := (Array.getElem?_eq_some_iff.1 HP5.out).1
        go_upto_region 6 with fail
        have HPF : Hid ((U.setCell ⟨p5, 8, none⟩ (.int .i64 (bits .or .i64 m.ln 16))).heap[p5]? = some (.cells #[.int .i64 m.pc, .slice a2.ar m.rs.length a2.cr, .int .i64 m.md, .slice a2.ac m.cs.length a2.cc, .slice a2.av m.vs.length a2.cv, .string m.mem, .int .i64 m.st, .int .i64 m.ct, .int .i64 (bits .or .i64 m.ln 16), .slice a2.ai m.is.length a2.ci, .slice a2.ao m.os.length a2.co, .int .i64 m.tr] 73 (0, 0))) := blk_set HP5.out 8 (.int .i64 (bits .or .i64 m.ln 16))
        have HGS : GI p5 (p5 + 1) U (U.setCell ⟨p5, 8, none⟩ (.int .i64 (bits .or .i64 m.ln 16))) := setG
        have HCF : Hid (CO w (U.setCell ⟨p5, 8, none⟩ (.int .i64 (bits .or .i64 m.ln 16))) #[.int .i64 m.pc, .slice a.ar m.rs.length a.cr, .int .i64 m.md, .slice a.ac m.cs.length a.cc, .slice a.av m.vs.length a.cv, .string m.mem, .int .i64 m.st, .int .i64 m.ct, .int .i64 m.ln, .slice a.ai m.is.length a.ci, .slice a.ao m.os.length a.co, .int .i64 m.tr]) := ⟨below_g HC2.out.bel HGS (by have := HN.out; have := HM5.out.le; omega), (HGS.block _ (by have := HC2.out.lt; omega) (by have := HN.out; have := HM5.out.le; omega)).trans HC2.out.b0, (HGS.block _ HC2.out.lt (by have := HN.out; have := HM5.out.le; omega)).trans HC2.out.b1⟩
        have HMF5 : Hid (M5 (U.setCell ⟨p5, 8, none⟩ (.int .i64 (bits .or .i64 m.ln 16))) n m a2) := HM5.out.gi HGS (.inl HN.out.2)
        have HNF : Hid (p5 < (U.setCell ⟨p5, 8, none⟩ (.int .i64 (bits .or .i64 m.ln 16))).heap.size) := (Array.getElem?_eq_some_iff.1 HPF.out).1
        generalize U.setCell ⟨p5, 8, none⟩ (.int .i64 (bits .or .i64 m.ln 16)) = VF at *
        clear d0 d1 d2 d3 d4 d5 d6 d7 d8 d9 d10 d11 df g5 HGS HC2 HP5 HM5
        obtain ⟨k0, k1, k2, k3, k4, k5, k6, k7, k8, k9, k10, k11, kf⟩ := cel12 HCF.out.b1
        obtain ⟨d0, d1, d2, d3, d4, d5, d6, d7, d8, d9, d10, d11, df⟩ := cel12 HPF.out
        have g1 : w.heap.size + 1 < VF.heap.size := HCF.out.lt
        have g5 : p5 < VF.heap.size := (Array.getElem?_eq_some_iff.1 HPF.out).1
        go_wp2
        obtain ⟨e1, e2, e3⟩ := st12 HCF.out.bel (Nat.le_succ _) HCF.out.b1 (.int .i64 m.pc) (.slice a2.ar m.rs.length a2.cr) (.int .i64 m.md) (.slice a2.ac m.cs.length a2.cc) (.slice a2.av m.vs.length a2.cv) (.string m.mem) (.int .i64 m.st) (.int .i64 m.ct) (.int .i64 (bits .or .i64 m.ln 16)) (.slice a2.ai m.is.length a2.ci) (.slice a2.ao m.os.length a2.co) (.int .i64 m.tr) rfl
        obtain ⟨f0, f1, f2, f3, f4, f5, f6, f7, f8, f9, f10, f11, _⟩ := cel12 e2
        refine bodyPost_ret (v := .agg #[.int .i64 m.pc, .slice a2.ar m.rs.length a2.cr, .int .i64 m.md, .slice a2.ac m.cs.length a2.cc, .slice a2.av m.vs.length a2.cv, .string m.mem, .int .i64 m.st, .int .i64 m.ct, .int .i64 (bits .or .i64 m.ln 16), .slice a2.ai m.is.length a2.ci, .slice a2.ao m.os.length a2.co, .int .i64 m.tr]) ?_ rfl ⟨a2, n, by rw [EV.out]; rfl, ?_, ?_, ?_, e1⟩
        · simp only [results, Try.results40, go_sem]
          simp [go_sem, f0, f1, f2, f3, f4, f5, f6, f7, f8, f9, f10, f11]
        · rw [EV.out]
          exact (HMF5.out.gi GI.sets (.inr (by have := HN.out; omega))).ln _
        · have := HN.out
          omega
        · have h1 := HN.out
          have h2 := HNF.out
          simp [World.setCell]
          omega
      · skip
        have EV : Hid (rlV m 5 = { m with ln := bits .or .i64 m.ln 32 }) := (show rlV m 5 = _ by unfold rlV lnV pw7; rw [if_pos HC.out, if_pos hline]; rfl)
        clear hline
        obtain ⟨d0, d1, d2, d3, d4, d5, d6, d7, d8, d9, d10, d11, df⟩ := cel12 HP5.out
        have g5 : p5 < U.heap.size := (Array.getElem?_eq_some_iff.1 HP5.out).1
        go_upto_region 6 with fail
        have HPF : Hid ((U.setCell ⟨p5, 8, none⟩ (.int .i64 (bits .or .i64 m.ln 32))).heap[p5]? = some (.cells #[.int .i64 m.pc, .slice a2.ar m.rs.length a2.cr, .int .i64 m.md, .slice a2.ac m.cs.length a2.cc, .slice a2.av m.vs.length a2.cv, .string m.mem, .int .i64 m.st, .int .i64 m.ct, .int .i64 (bits .or .i64 m.ln 32), .slice a2.ai m.is.length a2.ci, .slice a2.ao m.os.length a2.co, .int .i64 m.tr] 73 (0, 0))) := blk_set HP5.out 8 (.int .i64 (bits .or .i64 m.ln 32))
        have HGS : GI p5 (p5 + 1) U (U.setCell ⟨p5, 8, none⟩ (.int .i64 (bits .or .i64 m.ln 32))) := setG
        have HCF : Hid (CO w (U.setCell ⟨p5, 8, none⟩ (.int .i64 (bits .or .i64 m.ln 32))) #[.int .i64 m.pc, .slice a.ar m.rs.length a.cr, .int .i64 m.md, .slice a.ac m.cs.length a.cc, .slice a.av m.vs.length a.cv, .string m.mem, .int .i64 m.st, .int .i64 m.ct, .int .i64 m.ln, .slice a.ai m.is.length a.ci, .slice a.ao m.os.length a.co, .int .i64 m.tr]) := ⟨below_g HC2.out.bel HGS (by have := HN.out; have := HM5.out.le; omega), (HGS.block _ (by have := HC2.out.lt; omega) (by have := HN.out; have := HM5.out.le; omega)).trans HC2.out.b0, (HGS.block _ HC2.out.lt (by have := HN.out; have := HM5.out.le; omega)).trans HC2.out.b1⟩
        have HMF5 : Hid (M5 (U.setCell ⟨p5, 8, none⟩ (.int .i64 (bits .or .i64 m.ln 32))) n m a2) := HM5.out.gi HGS (.inl HN.out.2)
        have HNF : Hid (p5 < (U.setCell ⟨p5, 8, none⟩ (.int .i64 (bits .or .i64 m.ln 32))).heap.size) := (Array.getElem?_eq_some_iff.1 HPF.out).1
        generalize U.setCell ⟨p5, 8, none⟩ (.int .i64 (bits .or .i64 m.ln 32)) = VF at *
        clear d0 d1 d2 d3 d4 d5 d6 d7 d8 d9 d10 d11 df g5 HGS HC2 HP5 HM5
        obtain ⟨k0, k1, k2, k3, k4, k5, k6, k7, k8, k9, k10, k11, kf⟩ := cel12 HCF.out.b1
        obtain ⟨d0, d1, d2, d3, d4, d5, d6, d7, d8, d9, d10, d11, df⟩ := cel12 HPF.out
        have g1 : w.heap.size + 1 < VF.heap.size := HCF.out.lt
        have g5 : p5 < VF.heap.size := (Array.getElem?_eq_some_iff.1 HPF.out).1
        go_wp2
        obtain ⟨e1, e2, e3⟩ := st12 HCF.out.bel (Nat.le_succ _) HCF.out.b1 (.int .i64 m.pc) (.slice a2.ar m.rs.length a2.cr) (.int .i64 m.md) (.slice a2.ac m.cs.length a2.cc) (.slice a2.av m.vs.length a2.cv) (.string m.mem) (.int .i64 m.st) (.int .i64 m.ct) (.int .i64 (bits .or .i64 m.ln 32)) (.slice a2.ai m.is.length a2.ci) (.slice a2.ao m.os.length a2.co) (.int .i64 m.tr) rfl
        obtain ⟨f0, f1, f2, f3, f4, f5, f6, f7, f8, f9, f10, f11, _⟩ := cel12 e2
        refine bodyPost_ret (v := .agg #[.int .i64 m.pc, .slice a2.ar m.rs.length a2.cr, .int .i64 m.md, .slice a2.ac m.cs.length a2.cc, .slice a2.av m.vs.length a2.cv, .string m.mem, .int .i64 m.st, .int .i64 m.ct, .int .i64 (bits .or .i64 m.ln 32), .slice a2.ai m.is.length a2.ci, .slice a2.ao m.os.length a2.co, .int .i64 m.tr]) ?_ rfl ⟨a2, n, by rw [EV.out]; rfl, ?_, ?_, ?_, e1⟩
        · simp only [results, Try.results40, go_sem]
          simp [go_sem, f0, f1, f2, f3, f4, f5, f6, f7, f8, f9, f10, f11]
        · rw [EV.out]
          exact (HMF5.out.gi GI.sets (.inr (by have := HN.out; omega))).ln _
        · have := HN.out
          omega
        · have h1 := HN.out
          have h2 := HNF.out
          simp [World.setCell]
          omega
      · skip
        have EV : Hid (rlV m 6 = { m with ln := bits .or .i64 m.ln 64 }) := (show rlV m 6 = _ by unfold rlV lnV pw7; rw [if_pos HC.out, if_pos hline]; rfl)
        clear hline
        obtain ⟨d0, d1, d2, d3, d4, d5, d6, d7, d8, d9, d10, d11, df⟩ := cel12 HP5.out
        have g5 : p5 < U.heap.size := (Array.getElem?_eq_some_iff.1 HP5.out).1
        go_upto_region 6 with fail
        have HPF : Hid ((U.setCell ⟨p5, 8, none⟩ (.int .i64 (bits .or .i64 m.ln 64))).heap[p5]? = some (.cells #[.int .i64 m.pc, .slice a2.ar m.rs.length a2.cr, .int .i64 m.md, .slice a2.ac m.cs.length a2.cc, .slice a2.av m.vs.length a2.cv, .string m.mem, .int .i64 m.st, .int .i64 m.ct, .int .i64 (bits .or .i64 m.ln 64), .slice a2.ai m.is.length a2.ci, .slice a2.ao m.os.length a2.co, .int .i64 m.tr] 73 (0, 0))) := blk_set HP5.out 8 (.int .i64 (bits .or .i64 m.ln 64))
        have HGS : GI p5 (p5 + 1) U (U.setCell ⟨p5, 8, none⟩ (.int .i64 (bits .or .i64 m.ln 64))) := setG
        have HCF : Hid (CO w (U.setCell ⟨p5, 8, none⟩ (.int .i64 (bits .or .i64 m.ln 64))) #[.int .i64 m.pc, .slice a.ar m.rs.length a.cr, .int .i64 m.md, .slice a.ac m.cs.length a.cc, .slice a.av m.vs.length a.cv, .string m.mem, .int .i64 m.st, .int .i64 m.ct, .int .i64 m.ln, .slice a.ai m.is.length a.ci, .slice a.ao m.os.length a.co, .int .i64 m.tr]) := ⟨below_g HC2.out.bel HGS (by have := HN.out; have := HM5.out.le; omega), (HGS.block _ (by have := HC2.out.lt; omega) (by have := HN.out; have := HM5.out.le; omega)).trans HC2.out.b0, (HGS.block _ HC2.out.lt (by have := HN.out; have := HM5.out.le; omega)).trans HC2.out.b1⟩
        have HMF5 : Hid (M5 (U.setCell ⟨p5, 8, none⟩ (.int .i64 (bits .or .i64 m.ln 64))) n m a2) := HM5.out.gi HGS (.inl HN.out.2)
        have HNF : Hid (p5 < (U.setCell ⟨p5, 8, none⟩ (.int .i64 (bits .or .i64 m.ln 64))).heap.size) := (Array.getElem?_eq_some_iff.1 HPF.out).1
        generalize U.setCell ⟨p5, 8, none⟩ (.int .i64 (bits .or .i64 m.ln 64)) = VF at *
        clear d0 d1 d2 d3 d4 d5 d6 d7 d8 d9 d10 d11 df g5 HGS HC2 HP5 HM5
        obtain ⟨k0, k1, k2, k3, k4, k5, k6, k7, k8, k9, k10, k11, kf⟩ := cel12 HCF.out.b1
        obtain ⟨d0, d1, d2, d3, d4, d5, d6, d7, d8, d9, d10, d11, df⟩ := cel12 HPF.out
        have g1 : w.heap.size + 1 < VF.heap.size := HCF.out.lt
        have g5 : p5 < VF.heap.size := (Array.getElem?_eq_some_iff.1 HPF.out).1
        go_wp2
        obtain ⟨e1, e2, e3⟩ := st12 HCF.out.bel (Nat.le_succ _) HCF.out.b1 (.int .i64 m.pc) (.slice a2.ar m.rs.length a2.cr) (.int .i64 m.md) (.slice a2.ac m.cs.length a2.cc) (.slice a2.av m.vs.length a2.cv) (.string m.mem) (.int .i64 m.st) (.int .i64 m.ct) (.int .i64 (bits .or .i64 m.ln 64)) (.slice a2.ai m.is.length a2.ci) (.slice a2.ao m.os.length a2.co) (.int .i64 m.tr) rfl
        obtain ⟨f0, f1, f2, f3, f4, f5, f6, f7, f8, f9, f10, f11, _⟩ := cel12 e2
        refine bodyPost_ret (v := .agg #[.int .i64 m.pc, .slice a2.ar m.rs.length a2.cr, .int .i64 m.md, .slice a2.ac m.cs.length a2.cc, .slice a2.av m.vs.length a2.cv, .string m.mem, .int .i64 m.st, .int .i64 m.ct, .int .i64 (bits .or .i64 m.ln 64), .slice a2.ai m.is.length a2.ci, .slice a2.ao m.os.length a2.co, .int .i64 m.tr]) ?_ rfl ⟨a2, n, by rw [EV.out]; rfl, ?_, ?_, ?_, e1⟩
        · simp only [results, Try.results40, go_sem]
          simp [go_sem, f0, f1, f2, f3, f4, f5, f6, f7, f8, f9, f10, f11]
        · rw [EV.out]
          exact (HMF5.out.gi GI.sets (.inr (by have := HN.out; omega))).ln _
        · have := HN.out
          omega
        · have h1 := HN.out
          have h2 := HNF.out
          simp [World.setCell]
          omega
    · have EV : Hid (rlV m line = { m with ln := m.ln }) := (show rlV m line = _ by unfold rlV lnV; rw [if_pos HC.out, if_neg hline])
      have HCF : Hid _ := HC2.out
      have HPF : Hid _ := HP5.out
      have HMF5 : Hid _ := HM5.out
      have HNF : Hid (p5 < U.heap.size) := (Array.getElem?_eq_some_iff.1 HP5.out).1
      by_cases h0 : 0 ≤ line
      · have h7 : ¬ line < 7 := fun q => hline ⟨h0, q⟩
        clear hline
        obtain ⟨k0, k1, k2, k3, k4, k5, k6, k7, k8, k9, k10, k11, kf⟩ := cel12 HCF.out.b1
        obtain ⟨d0, d1, d2, d3, d4, d5, d6, d7, d8, d9, d10, d11, df⟩ := cel12 HPF.out
        have g1 : w.heap.size + 1 < U.heap.size := HCF.out.lt
        have g5 : p5 < U.heap.size := (Array.getElem?_eq_some_iff.1 HPF.out).1
        go_wp2
        obtain ⟨e1, e2, e3⟩ := st12 HCF.out.bel (Nat.le_succ _) HCF.out.b1 (.int .i64 m.pc) (.slice a2.ar m.rs.length a2.cr) (.int .i64 m.md) (.slice a2.ac m.cs.length a2.cc) (.slice a2.av m.vs.length a2.cv) (.string m.mem) (.int .i64 m.st) (.int .i64 m.ct) (.int .i64 m.ln) (.slice a2.ai m.is.length a2.ci) (.slice a2.ao m.os.length a2.co) (.int .i64 m.tr) rfl
        obtain ⟨f0, f1, f2, f3, f4, f5, f6, f7, f8, f9, f10, f11, _⟩ := cel12 e2
        refine bodyPost_ret (v := .agg #[.int .i64 m.pc, .slice a2.ar m.rs.length a2.cr, .int .i64 m.md, .slice a2.ac m.cs.length a2.cc, .slice a2.av m.vs.length a2.cv, .string m.mem, .int .i64 m.st, .int .i64 m.ct, .int .i64 m.ln, .slice a2.ai m.is.length a2.ci, .slice a2.ao m.os.length a2.co, .int .i64 m.tr]) ?_ rfl ⟨a2, n, by rw [EV.out]; rfl, ?_, ?_, ?_, e1⟩
        · simp only [results, Try.results40, go_sem]
          simp [go_sem, f0, f1, f2, f3, f4, f5, f6, f7, f8, f9, f10, f11]
        · rw [EV.out]
          exact (HMF5.out.gi GI.sets (.inr (by have := HN.out; omega))).ln _
        · have := HN.out
          omega
        · have h1 := HN.out
          have h2 := HNF.out
          simp [World.setCell]
          omega
      · clear hline
        obtain ⟨k0, k1, k2, k3, k4, k5, k6, k7, k8, k9, k10, k11, kf⟩ := cel12 HCF.out.b1
        obtain ⟨d0, d1, d2, d3, d4, d5, d6, d7, d8, d9, d10, d11, df⟩ := cel12 HPF.out
        have g1 : w.heap.size + 1 < U.heap.size := HCF.out.lt
        have g5 : p5 < U.heap.size := (Array.getElem?_eq_some_iff.1 HPF.out).1
        go_wp2
        obtain ⟨e1, e2, e3⟩ := st12 HCF.out.bel (Nat.le_succ _) HCF.out.b1 (.int .i64 m.pc) (.slice a2.ar m.rs.length a2.cr) (.int .i64 m.md) (.slice a2.ac m.cs.length a2.cc) (.slice a2.av m.vs.length a2.cv) (.string m.mem) (.int .i64 m.st) (.int .i64 m.ct) (.int .i64 m.ln) (.slice a2.ai m.is.length a2.ci) (.slice a2.ao m.os.length a2.co) (.int .i64 m.tr) rfl
        obtain ⟨f0, f1, f2, f3, f4, f5, f6, f7, f8, f9, f10, f11, _⟩ := cel12 e2
        refine bodyPost_ret (v := .agg #[.int .i64 m.pc, .slice a2.ar m.rs.length a2.cr, .int .i64 m.md, .slice a2.ac m.cs.length a2.cc, .slice a2.av m.vs.length a2.cv, .string m.mem, .int .i64 m.st, .int .i64 m.ct, .int .i64 m.ln, .slice a2.ai m.is.length a2.ci, .slice a2.ao m.os.length a2.co, .int .i64 m.tr]) ?_ rfl ⟨a2, n, by rw [EV.out]; rfl, ?_, ?_, ?_, e1⟩
        · simp only [results, Try.results40, go_sem]
          simp [go_sem, f0, f1, f2, f3, f4, f5, f6, f7, f8, f9, f10, f11]
        · rw [EV.out]
          exact (HMF5.out.gi GI.sets (.inr (by have := HN.out; omega))).ln _
        · have := HN.out
          omega
        · have h1 := HN.out
          have h2 := HNF.out
          simp [World.setCell]
          omega
  · have HC : Hid (mfC m = 1) := (show mfC m = 1 from (mfC_or m).resolve_left hc)
    have EV : Hid (rlV m line = mv0) := (show rlV m line = mv0 by unfold rlV; rw [if_neg hc])
    clear hc
    go_upto_region 2 with (go_at_call 92; refine Calls.mono (HMFA.out _ HC0.out.bel) ?_; rintro e u1 ⟨rfl, hb⟩; rw [HC.out]; have HC1 : Hid (CO w u1 #[.int .i64 m.pc, .slice a.ar m.rs.length a.cr, .int .i64 m.md, .slice a.ac m.cs.length a.cc, .slice a.av m.vs.length a.cv, .string m.mem, .int .i64 m.st, .int .i64 m.ct, .int .i64 m.ln, .slice a.ai m.is.length a.ci, .slice a.ao m.os.length a.co, .int .i64 m.tr]) := HC0.out.step hb; clear hb c0 c1 c2 c3 c4 c5 c6 c7 c8 c9 c10 c11 cf HMFA g0)
    obtain ⟨k0, k1, k2, k3, k4, k5, k6, k7, k8, k9, k10, k11, kf⟩ := cel12 HC1.out.b1
    have g1 : w.heap.size + 1 < u1.heap.size := HC1.out.lt
    go_wp2
    obtain ⟨e1, e2, e3⟩ := st12 HC1.out.bel (Nat.le_succ _) HC1.out.b1 (.int .i64 0) (.slice none 0 0) (.int .i64 0) (.slice none 0 0) (.slice none 0 0) (.string ⟨#[]⟩) (.int .i64 0) (.int .i64 0) (.int .i64 0) (.slice none 0 0) (.slice none 0 0) (.int .i64 0) rfl
    obtain ⟨f0, f1, f2, f3, f4, f5, f6, f7, f8, f9, f10, f11, _⟩ := cel12 e2
    refine bodyPost_ret (v := .agg #[.int .i64 0, .slice none 0 0, .int .i64 0, .slice none 0 0, .slice none 0 0, .string ⟨#[]⟩, .int .i64 0, .int .i64 0, .int .i64 0, .slice none 0 0, .slice none 0 0, .int .i64 0]) ?_ rfl ⟨ma0, ⟨w.heap.size, w.heap.size, w.heap.size, w.heap.size, w.heap.size, w.heap.size⟩, by rw [EV.out]; rfl, by rw [EV.out]; exact M5.zero _ _, Nat.le_refl _, e1.size, e1⟩
    simp only [results, Try.results40, go_sem]
    simp [go_sem, f0, f1, f2, f3, f4, f5, f6, f7, f8, f9, f10, f11]
end Go.Proofs.Ytjaelkagacmpkaa
