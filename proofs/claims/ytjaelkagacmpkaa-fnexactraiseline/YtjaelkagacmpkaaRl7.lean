import Derived.Test.YtjaelkagacmpkaaRl6
import Derived.OrdersHeld
namespace Go.Proofs.Ytjaelkagacmpkaa
open Go.ChangeShapes Go.WideShapes Go.ChangeAt Go.RowKit

theorem szM_len5 {m : MV} (h : szM m = true) : MLen m := by
  unfold szM at h
  have h2 := of_decide_eq_true h
  exact ⟨by omega, by omega, by omega, by omega, by omega, by omega⟩
theorem rlV_len {m : MV} (h : MLen m) (line : Int) : MLen (rlV m line) := by
  unfold rlV
  split
  · exact ⟨h.r, h.c, h.v, h.i, h.o, h.s⟩
  · exact ⟨by decide, by decide, by decide, by decide, by decide, by decide⟩
/-- A machine in its box; its rows lie below that, each apart. -/
structure MBx (u : World) (lo p : Nat) (n : N6) (m m2 : MV) (a : MA) : Prop where
  box : u.heap[p]? = some (.cells (mC m a) 73 (0, 0))
  row : M5 u n m2 a
  lo : lo ≤ n.a
  hi : n.f ≤ p
theorem MBx.le {u : World} {lo p : Nat} {n : N6} {m m2 : MV} {a : MA} (h : MBx u lo p n m m2 a) : lo ≤ p := by
  have h1 := h.lo
  have h2 := h.hi
  have h3 := h.row.le
  omega
theorem MBx.lt {u : World} {lo p : Nat} {n : N6} {m m2 : MV} {a : MA} (h : MBx u lo p n m m2 a) : p < u.heap.size := (Array.getElem?_eq_some_iff.1 h.box).1
theorem MBx.gi {u u' : World} {lo p x y : Nat} {n : N6} {m m2 : MV} {a : MA} (h : MBx u lo p n m m2 a) (g : GI x y u u') (hd : p < x ∨ y ≤ lo) : MBx u' lo p n m m2 a := by
  have h1 := h.le
  have h2 := h.hi
  have h3 := h.lo
  exact ⟨(g.block p h.lt (by omega)).trans h.box, h.row.gi g (by omega), h.lo, h.hi⟩
theorem MBx.step {u u' : World} {lo p : Nat} {n : N6} {m m2 : MV} {a : MA} (h : MBx u lo p n m m2 a) (hb : Below u.heap.size u u') : MBx u' lo p n m m2 a := h.gi (GI.of_below (lo := 0) (hi := 0) hb) (.inr (Nat.zero_le _))
theorem MBx.new {u : World} {lo : Nat} {n : N6} {m : MV} {a : MA} (h : M5 u n m a) (h1 : lo ≤ n.a) (h2 : n.f ≤ u.heap.size) : MBx (u.alloc (.cells (mC m a) 73)) lo u.heap.size n m m a :=
  ⟨heap_new _ _, h.step ((Below.refl _ _).alloc (Nat.le_refl _) _), h1, h2⟩
theorem MBx.mark {u u' : World} {lo p : Nat} {n : N6} {m m2 m3 : MV} {a : MA} (h : MBx u lo p n m m2 a) (g : GI n.a n.f u u') (hr : M5 u' n m3 a) : MBx u' lo p n m m3 a :=
  ⟨(g.block p h.lt (.inr h.hi)).trans h.box, hr, h.lo, h.hi⟩
/-- What the law keeps. -/
structure LRL (w u : World) (m M mX mG : MV) (a a1 a2 a3 : MA) (l1 p1 l2 p2 l3 p3 : Nat) (n1 n2 n3 : N6) : Prop where
  bel : Below w.heap.size w u
  b0 : u.heap[w.heap.size]? = some (.cells (mC m a) 69 (0, 0))
  rw : MRows w m a
  A : MBx u l1 p1 n1 M M a1
  X : MBx u l2 p2 n2 m mX a2
  G : MBx u l3 p3 n3 M mG a3
  o : w.heap.size < l1 ∧ p1 < l2 ∧ p2 < l3
theorem LRL.step {w u u' : World} {m M mX mG : MV} {a a1 a2 a3 : MA} {l1 p1 l2 p2 l3 p3 : Nat} {n1 n2 n3 : N6} (h : LRL w u m M mX mG a a1 a2 a3 l1 p1 l2 p2 l3 p3 n1 n2 n3) (hb : Below u.heap.size u u') : LRL w u' m M mX mG a a1 a2 a3 l1 p1 l2 p2 l3 p3 n1 n2 n3 :=
  ⟨h.bel.trans (hb.mono h.bel.size), (hb.block _ (Array.getElem?_eq_some_iff.1 h.b0).1).trans h.b0, h.rw, h.A.step hb, h.X.step hb, h.G.step hb, h.o⟩
theorem LRL.markX {w u u' : World} {m M mX mG m3 : MV} {a a1 a2 a3 : MA} {l1 p1 l2 p2 l3 p3 : Nat} {n1 n2 n3 : N6} (h : LRL w u m M mX mG a a1 a2 a3 l1 p1 l2 p2 l3 p3 n1 n2 n3) (g : GI n2.a n2.f u u') (hr : M5 u' n2 m3 a2) : LRL w u' m M m3 mG a a1 a2 a3 l1 p1 l2 p2 l3 p3 n1 n2 n3 := by
  have h1 := h.o
  have h2 := h.A.le
  have h3 := h.X.lo
  have h4 := h.X.hi
  exact ⟨below_g h.bel g (by omega), (g.block _ (Array.getElem?_eq_some_iff.1 h.b0).1 (by omega)).trans h.b0, h.rw, h.A.gi g (by omega), h.X.mark g hr, h.G.gi g (by omega), h.o⟩
theorem LRL.markG {w u u' : World} {m M mX mG m3 : MV} {a a1 a2 a3 : MA} {l1 p1 l2 p2 l3 p3 : Nat} {n1 n2 n3 : N6} (h : LRL w u m M mX mG a a1 a2 a3 l1 p1 l2 p2 l3 p3 n1 n2 n3) (g : GI n3.a n3.f u u') (hr : M5 u' n3 m3 a3) : LRL w u' m M mX m3 a a1 a2 a3 l1 p1 l2 p2 l3 p3 n1 n2 n3 := by
  have h1 := h.o
  have h2 := h.A.le
  have h3 := h.X.le
  have h4 := h.G.lo
  have h5 := h.G.hi
  exact ⟨below_g h.bel g (by omega), (g.block _ (Array.getElem?_eq_some_iff.1 h.b0).1 (by omega)).trans h.b0, h.rw, h.A.gi g (by omega), h.X.gi g (by omega), h.G.mark g hr, h.o⟩
theorem held_stepR {P : Program} {md : Region.Mode} {ops : Array Oper} {Q : Exit → Act → World → Prop} {S : World → Prop} {fuel : Nat} {listed : Array Bool} {a : Act} {w : World} {i : Nat} {o : Oper} (ho : ops[i]? = some o)
    (hw : Region.wanted o (yielded ops a.tmps) = true) (h : ∀ K : Act → World → Prop, (∀ a' w', S w' → wpAnyH P md ops Q S fuel (listed.setIfInBounds i true) a' w' → K a' w') → o.wp P a w K Q) :
    wpOp P ops Q i (fun a' w' => S w' ∧ wpAnyH P md ops Q S fuel (listed.setIfInBounds i true) a' w') a w := by
  unfold wpOp
  rw [ho]
  simp only [hw, if_true]
  exact Or.inl (h _ fun a' w' h1 h2 => ⟨h1, h2⟩)
theorem all_oneR {p : Nat → Prop} {i : Nat} (h1 : p i) : ∀ k ∈ [i], p k := by
  intro k hk
  rw [List.mem_singleton.1 hk]
  exact h1
theorem mkN_b {m : MV} (h : MLen m) : ¬ mkN m < 0 := by
  have h1 := h.r
  unfold mkN
  omega
set_option maxRecDepth 100000 in
set_option maxHeartbeats 8000000 in
theorem walkRL {w : World} {m : MV} {a : MA} (h : MRows w m a) (hm : MMax m) (line : Int) : Calls Try.prog 8 #[.agg (mC m a), .int .i64 line] w fun e w' => e = .returned (.bool true) ∧ Below w.heap.size w w' := by
  have HL1 : Hid (MX w (w.alloc (.cells #[.int .i64 m.pc, .slice a.ar m.rs.length a.cr, .int .i64 m.md, .slice a.ac m.cs.length a.cc, .slice a.av m.vs.length a.cv, .string m.mem, .int .i64 m.st, .int .i64 m.ct, .int .i64 m.ln, .slice a.ai m.is.length a.ci, .slice a.ao m.os.length a.co, .int .i64 m.tr] 69)) 69 m a) := MX.new h
  have HS : Hid _ := szMachine_any (w.alloc (.cells #[.int .i64 m.pc, .slice a.ar m.rs.length a.cr, .int .i64 m.md, .slice a.ac m.cs.length a.cc, .slice a.av m.vs.length a.cv, .string m.mem, .int .i64 m.st, .int .i64 m.ct, .int .i64 m.ln, .slice a.ai m.is.length a.ci, .slice a.ao m.os.length a.co, .int .i64 m.tr] 69)) m a hm
  have HRW : Hid (MRows w m a) := h
  clear h hm
  cases hsz : szM m
  · rw [hsz] at HS
    unfold mC at HS ⊢
    go_enter Try.func8, Try.ntmps8
    go_wp2_with (go_at_call 39; refine Calls.mono HS.out ?_; rintro e u1 ⟨r, rfl, hr, hu1⟩; have HL2 : Hid (MX w u1 69 m a) := HL1.out.step hu1; have hr2 : r < 0 := (by simpa using hr); clear hu1 HS hr)
    go_ret
    exact ⟨rfl, HL2.out.bel⟩
  · rw [hsz] at HS
    have HL : Hid (MLen m) := szM_len5 hsz
    have HLM0 : Hid (MLen (rlV m line)) := rlV_len HL.out line
    have HSP0 : Hid (∀ (u : World) (b : MA), MRows u m b → Calls Try.prog 40 #[.agg (mC m b), .int .i64 line] u fun e w' => CopyA u (rlV m line) e w') := fun u b hr => specRaise_any hr HL.out line
    have HIM0 : Hid (∀ (u : World) (b : MA), MRows u m b → Calls Try.prog 42 #[.agg (mC m b), .int .i64 line] u fun e w' => CopyA u (rlV m line) e w') := fun u b hr => implRaise_any hr HL.out line
    clear hsz
    obtain ⟨M, hM⟩ : ∃ M, rlV m line = M := ⟨_, rfl⟩
    rw [hM] at HLM0 HSP0 HIM0
    have HLM : Hid (MLen M) := HLM0.out
    have HSP : Hid _ := HSP0.out
    have HIM : Hid _ := HIM0.out
    have hkM : ¬ mkN M < 0 := mkN_b HLM.out
    have hkm : ¬ mkN m < 0 := mkN_b HL.out
    clear hM HLM0 HSP0 HIM0
    have EN : Hid (∀ {u : World} {n : N6} {b : MA}, M5 u n M b → n.f ≤ u.heap.size → Calls Try.prog 44 #[.agg (mC M b), .int .i64 1] u fun e w' => e = .returned (.int .i64 (mkN M)) ∧ M5 w' n (mkM M) b ∧ GI n.a n.f u w') := fun hr hn => markMachine_ok hr HLM.out hn
    have EX : Hid (∀ {u : World} {n : N6} {b : MA}, M5 u n m b → n.f ≤ u.heap.size → Calls Try.prog 44 #[.agg (mC m b), .int .i64 1] u fun e w' => e = .returned (.int .i64 (mkN m)) ∧ M5 w' n (mkM m) b ∧ GI n.a n.f u w') := fun hr hn => markMachine_ok hr HL.out hn
    have EH : Hid (∀ {u : World} {b : MA}, MRows u (mkM M) b → Calls Try.prog 45 #[.agg (mC M b), .int .i64 1] u fun e w' => e = .returned (.int .i64 (mkN M)) ∧ Below u.heap.size u w') := fun hr => heldMachine_ok hr HLM.out
    generalize mkN M = kM at *
    generalize mkN m = km at *
    unfold mC at HS ⊢
    go_enter Try.func8, Try.ntmps8
    go_upto_region 6 with (first
      | (go_at_call 39; refine Calls.mono HS.out ?_; rintro e u1 ⟨r, rfl, hr, hu1⟩; have HL2 : Hid (MX w u1 69 m a) := HL1.out.step hu1; have hr2 : ¬ r < 0 := (by simpa using hr); obtain ⟨c0, c1, c2, c3, c4, c5, c6, c7, c8, c9, c10, c11, _⟩ := cel12 HL2.out.box; clear hu1 HS hr HL1)
      | (go_at_call 41; have hA := toMachine5 HL2.out.row HL.out; refine Calls.mono hA ?_; clear hA; rintro e u2 ⟨a0, n0, rfl, hM, _, _, hb⟩; have HL3 : Hid (MX w u2 69 m a) := HL2.out.step hb; have HR2 : Hid (MRows u2 m a0) := hM.rows; clear hM hb HL2; unfold mC)
      | (go_at_call 40; have hA := HSP.out _ _ HR2.out; refine Calls.mono hA ?_; clear hA; rintro e u3 ⟨a1, n1, rfl, hM, h1, h2, hb⟩; have HA4 : Hid (MBx (u3.alloc (.cells #[.int .i64 M.pc, .slice a1.ar M.rs.length a1.cr, .int .i64 M.md, .slice a1.ac M.cs.length a1.cc, .slice a1.av M.vs.length a1.cv, .string M.mem, .int .i64 M.st, .int .i64 M.ct, .int .i64 M.ln, .slice a1.ai M.is.length a1.ci, .slice a1.ao M.os.length a1.co, .int .i64 M.tr] 73)) u2.heap.size u3.heap.size n1 M M a1) := MBx.new hM h1 h2; have HL4 : Hid (MX w (u3.alloc (.cells #[.int .i64 M.pc, .slice a1.ar M.rs.length a1.cr, .int .i64 M.md, .slice a1.ac M.cs.length a1.cc, .slice a1.av M.vs.length a1.cv, .string M.mem, .int .i64 M.st, .int .i64 M.ct, .int .i64 M.ln, .slice a1.ai M.is.length a1.ci, .slice a1.ao M.os.length a1.co, .int .i64 M.tr] 73)) 69 m a) := (HL3.out.step hb).step ((Below.refl _ _).alloc (Nat.le_refl _) _); have HO4 : Hid (w.heap.size < u2.heap.size) := HL3.out.lt; clear hM h1 h2 hb HL3 HR2; clear c0 c1 c2 c3 c4 c5 c6 c7 c8 c9 c10 c11; unfold mC))
    generalize u3.alloc (.cells #[.int .i64 M.pc, .slice a1.ar M.rs.length a1.cr, .int .i64 M.md, .slice a1.ac M.cs.length a1.cc, .slice a1.av M.vs.length a1.cv, .string M.mem, .int .i64 M.st, .int .i64 M.ct, .int .i64 M.ln, .slice a1.ai M.is.length a1.ci, .slice a1.ao M.os.length a1.co, .int .i64 M.tr] 73) = U3 at *
    generalize u3.heap.size = p1 at *
    generalize u2.heap.size = l1 at *
    obtain ⟨c0, c1, c2, c3, c4, c5, c6, c7, c8, c9, c10, c11, _⟩ := cel12 HL4.out.box
    clear HSP
    go_upto_region 7 with (go_at_call 41; have hA := toMachine5 HL4.out.row HL.out; refine Calls.mono hA ?_; clear hA; rintro e u4 ⟨a2, n2, rfl, hM, h1, h2, hb⟩; have HX5 : Hid (MBx (u4.alloc (.cells #[.int .i64 m.pc, .slice a2.ar m.rs.length a2.cr, .int .i64 m.md, .slice a2.ac m.cs.length a2.cc, .slice a2.av m.vs.length a2.cv, .string m.mem, .int .i64 m.st, .int .i64 m.ct, .int .i64 m.ln, .slice a2.ai m.is.length a2.ci, .slice a2.ao m.os.length a2.co, .int .i64 m.tr] 73)) U3.heap.size u4.heap.size n2 m m a2) := MBx.new hM h1 h2; have hbb : Below U3.heap.size U3 (u4.alloc (.cells #[.int .i64 m.pc, .slice a2.ar m.rs.length a2.cr, .int .i64 m.md, .slice a2.ac m.cs.length a2.cc, .slice a2.av m.vs.length a2.cv, .string m.mem, .int .i64 m.st, .int .i64 m.ct, .int .i64 m.ln, .slice a2.ai m.is.length a2.ci, .slice a2.ao m.os.length a2.co, .int .i64 m.tr] 73)) := hb.alloc hb.size _; have HA5 : Hid (MBx (u4.alloc (.cells #[.int .i64 m.pc, .slice a2.ar m.rs.length a2.cr, .int .i64 m.md, .slice a2.ac m.cs.length a2.cc, .slice a2.av m.vs.length a2.cv, .string m.mem, .int .i64 m.st, .int .i64 m.ct, .int .i64 m.ln, .slice a2.ai m.is.length a2.ci, .slice a2.ao m.os.length a2.co, .int .i64 m.tr] 73)) l1 p1 n1 M M a1) := HA4.out.step hbb; have HL5 : Hid (MX w (u4.alloc (.cells #[.int .i64 m.pc, .slice a2.ar m.rs.length a2.cr, .int .i64 m.md, .slice a2.ac m.cs.length a2.cc, .slice a2.av m.vs.length a2.cv, .string m.mem, .int .i64 m.st, .int .i64 m.ct, .int .i64 m.ln, .slice a2.ai m.is.length a2.ci, .slice a2.ao m.os.length a2.co, .int .i64 m.tr] 73)) 69 m a) := HL4.out.step hbb; have HO5 : Hid (p1 < U3.heap.size) := HA4.out.lt; clear hM h1 h2 hb hbb HL4 HA4; clear c0 c1 c2 c3 c4 c5 c6 c7 c8 c9 c10 c11; unfold mC)
    generalize u4.alloc (.cells #[.int .i64 m.pc, .slice a2.ar m.rs.length a2.cr, .int .i64 m.md, .slice a2.ac m.cs.length a2.cc, .slice a2.av m.vs.length a2.cv, .string m.mem, .int .i64 m.st, .int .i64 m.ct, .int .i64 m.ln, .slice a2.ai m.is.length a2.ci, .slice a2.ao m.os.length a2.co, .int .i64 m.tr] 73) = U4 at *
    generalize u4.heap.size = p2 at *
    generalize U3.heap.size = l2 at *
    obtain ⟨y0, y1, y2, y3, y4, y5, y6, y7, y8, y9, y10, y11, _⟩ := cel12 HX5.out.box
    go_upto_region 8 with (go_at_call 42; have hA := HIM.out _ _ HX5.out.row.rows; refine Calls.mono hA ?_; clear hA; rintro e u5 ⟨a3, n3, rfl, hM, h1, h2, hb⟩; have hbb : Below U4.heap.size U4 (u5.alloc (.cells #[.int .i64 M.pc, .slice a3.ar M.rs.length a3.cr, .int .i64 M.md, .slice a3.ac M.cs.length a3.cc, .slice a3.av M.vs.length a3.cv, .string M.mem, .int .i64 M.st, .int .i64 M.ct, .int .i64 M.ln, .slice a3.ai M.is.length a3.ci, .slice a3.ao M.os.length a3.co, .int .i64 M.tr] 73)) := hb.alloc hb.size _; have HL6 : Hid (LRL w (u5.alloc (.cells #[.int .i64 M.pc, .slice a3.ar M.rs.length a3.cr, .int .i64 M.md, .slice a3.ac M.cs.length a3.cc, .slice a3.av M.vs.length a3.cv, .string M.mem, .int .i64 M.st, .int .i64 M.ct, .int .i64 M.ln, .slice a3.ai M.is.length a3.ci, .slice a3.ao M.os.length a3.co, .int .i64 M.tr] 73)) m M m M a a1 a2 a3 l1 p1 l2 p2 U4.heap.size u5.heap.size n1 n2 n3) := ⟨(HL5.out.step hbb).bel, (HL5.out.step hbb).box, HRW.out, HA5.out.step hbb, HX5.out.step hbb, MBx.new hM h1 h2, ⟨HO4.out, HO5.out, HX5.out.lt⟩⟩; clear hM h1 h2 hb hbb HL5 HA5 HX5 HO4 HO5; clear y0 y1 y2 y3 y4 y5 y6 y7 y8 y9 y10 y11; unfold mC)
    generalize u5.alloc (.cells #[.int .i64 M.pc, .slice a3.ar M.rs.length a3.cr, .int .i64 M.md, .slice a3.ac M.cs.length a3.cc, .slice a3.av M.vs.length a3.cv, .string M.mem, .int .i64 M.st, .int .i64 M.ct, .int .i64 M.ln, .slice a3.ai M.is.length a3.ci, .slice a3.ao M.os.length a3.co, .int .i64 M.tr] 73) = U5 at *
    generalize u5.heap.size = p3 at *
    generalize U4.heap.size = l3 at *
    obtain ⟨z0, z1, z2, z3, z4, z5, z6, z7, z8, z9, z10, z11, _⟩ := cel12 HL6.out.G.box
    obtain ⟨y0, y1, y2, y3, y4, y5, y6, y7, y8, y9, y10, y11, _⟩ := cel12 HL6.out.A.box
    go_upto_region 10 with (go_at_call 43; have hA := eqMachine_ok HL6.out.G.row.rows HL6.out.A.row.rows HLM.out; refine Calls.mono hA ?_; clear hA; rintro e u6 ⟨rfl, hb⟩; clear z0 z1 z2 z3 z4 z5 z6 z7 z8 z9 z10 z11; clear y0 y1 y2 y3 y4 y5 y6 y7 y8 y9 y10 y11; have HL7 : Hid (LRL w u6 m M m M a a1 a2 a3 l1 p1 l2 p2 l3 p3 n1 n2 n3) := HL6.out.step hb; clear hb HL6)
    have HT : Hid (LRL w u6.drew m M m M a a1 a2 a3 l1 p1 l2 p2 l3 p3 n1 n2 n3) := HL7.out.step (Below.refl _ _).drew
    have HSB : Hid (∀ w' : World, (w'.heap[w.heap.size]? = some (.cells (mC m a) 69 (0, 0)) ∧ w'.heap[p2]? = some (.cells (mC m a2) 73 (0, 0))) → (w'.cell? ⟨w.heap.size, 0, none⟩ = some (.int .i64 m.pc) ∧ w'.cell? ⟨w.heap.size, 1, none⟩ = some (.slice a.ar m.rs.length a.cr) ∧ w'.cell? ⟨w.heap.size, 2, none⟩ = some (.int .i64 m.md) ∧ w'.cell? ⟨w.heap.size, 3, none⟩ = some (.slice a.ac m.cs.length a.cc) ∧ w'.cell? ⟨w.heap.size, 4, none⟩ = some (.slice a.av m.vs.length a.cv) ∧ w'.cell? ⟨w.heap.size, 5, none⟩ = some (.string m.mem) ∧ w'.cell? ⟨w.heap.size, 6, none⟩ = some (.int .i64 m.st) ∧ w'.cell? ⟨w.heap.size, 7, none⟩ = some (.int .i64 m.ct) ∧ w'.cell? ⟨w.heap.size, 8, none⟩ = some (.int .i64 m.ln) ∧ w'.cell? ⟨w.heap.size, 9, none⟩ = some (.slice a.ai m.is.length a.ci) ∧ w'.cell? ⟨w.heap.size, 10, none⟩ = some (.slice a.ao m.os.length a.co) ∧ w'.cell? ⟨w.heap.size, 11, none⟩ = some (.int .i64 m.tr)) ∧ (w'.cell? ⟨p2, 0, none⟩ = some (.int .i64 m.pc) ∧ w'.cell? ⟨p2, 1, none⟩ = some (.slice a2.ar m.rs.length a2.cr) ∧ w'.cell? ⟨p2, 2, none⟩ = some (.int .i64 m.md) ∧ w'.cell? ⟨p2, 3, none⟩ = some (.slice a2.ac m.cs.length a2.cc) ∧ w'.cell? ⟨p2, 4, none⟩ = some (.slice a2.av m.vs.length a2.cv) ∧ w'.cell? ⟨p2, 5, none⟩ = some (.string m.mem) ∧ w'.cell? ⟨p2, 6, none⟩ = some (.int .i64 m.st) ∧ w'.cell? ⟨p2, 7, none⟩ = some (.int .i64 m.ct) ∧ w'.cell? ⟨p2, 8, none⟩ = some (.int .i64 m.ln) ∧ w'.cell? ⟨p2, 9, none⟩ = some (.slice a2.ai m.is.length a2.ci) ∧ w'.cell? ⟨p2, 10, none⟩ = some (.slice a2.ao m.os.length a2.co) ∧ w'.cell? ⟨p2, 11, none⟩ = some (.int .i64 m.tr))) := fun w' hW => by
      obtain ⟨hW1, hW2⟩ := hW
      unfold mC at hW1 hW2
      obtain ⟨c0, c1, c2, c3, c4, c5, c6, c7, c8, c9, c10, c11, _⟩ := cel12 hW1
      obtain ⟨y0, y1, y2, y3, y4, y5, y6, y7, y8, y9, y10, y11, _⟩ := cel12 hW2
      exact ⟨⟨c0, c1, c2, c3, c4, c5, c6, c7, c8, c9, c10, c11⟩, ⟨y0, y1, y2, y3, y4, y5, y6, y7, y8, y9, y10, y11⟩⟩
    refine wp_region_held (S := fun w' => (w'.cell? ⟨w.heap.size, 0, none⟩ = some (.int .i64 m.pc) ∧ w'.cell? ⟨w.heap.size, 1, none⟩ = some (.slice a.ar m.rs.length a.cr) ∧ w'.cell? ⟨w.heap.size, 2, none⟩ = some (.int .i64 m.md) ∧ w'.cell? ⟨w.heap.size, 3, none⟩ = some (.slice a.ac m.cs.length a.cc) ∧ w'.cell? ⟨w.heap.size, 4, none⟩ = some (.slice a.av m.vs.length a.cv) ∧ w'.cell? ⟨w.heap.size, 5, none⟩ = some (.string m.mem) ∧ w'.cell? ⟨w.heap.size, 6, none⟩ = some (.int .i64 m.st) ∧ w'.cell? ⟨w.heap.size, 7, none⟩ = some (.int .i64 m.ct) ∧ w'.cell? ⟨w.heap.size, 8, none⟩ = some (.int .i64 m.ln) ∧ w'.cell? ⟨w.heap.size, 9, none⟩ = some (.slice a.ai m.is.length a.ci) ∧ w'.cell? ⟨w.heap.size, 10, none⟩ = some (.slice a.ao m.os.length a.co) ∧ w'.cell? ⟨w.heap.size, 11, none⟩ = some (.int .i64 m.tr)) ∧ (w'.cell? ⟨p2, 0, none⟩ = some (.int .i64 m.pc) ∧ w'.cell? ⟨p2, 1, none⟩ = some (.slice a2.ar m.rs.length a2.cr) ∧ w'.cell? ⟨p2, 2, none⟩ = some (.int .i64 m.md) ∧ w'.cell? ⟨p2, 3, none⟩ = some (.slice a2.ac m.cs.length a2.cc) ∧ w'.cell? ⟨p2, 4, none⟩ = some (.slice a2.av m.vs.length a2.cv) ∧ w'.cell? ⟨p2, 5, none⟩ = some (.string m.mem) ∧ w'.cell? ⟨p2, 6, none⟩ = some (.int .i64 m.st) ∧ w'.cell? ⟨p2, 7, none⟩ = some (.int .i64 m.ct) ∧ w'.cell? ⟨p2, 8, none⟩ = some (.int .i64 m.ln) ∧ w'.cell? ⟨p2, 9, none⟩ = some (.slice a2.ai m.is.length a2.ci) ∧ w'.cell? ⟨p2, 10, none⟩ = some (.slice a2.ao m.os.length a2.co) ∧ w'.cell? ⟨p2, 11, none⟩ = some (.int .i64 m.tr))) (by kernel_rfl) ?_
    change wpAnyH _ _ _ _ _ _ _ _ (World.drew _)
    clear HL7
    generalize World.drew u6 = s0 at *
    refine wpAnyH_take (i := 0) (v := .agg #[.int .i64 m.pc, .slice a2.ar m.rs.length a2.cr, .int .i64 m.md, .slice a2.ac m.cs.length a2.cc, .slice a2.av m.vs.length a2.cv, .string m.mem, .int .i64 m.st, .int .i64 m.ct, .int .i64 m.ln, .slice a2.ai m.is.length a2.ci, .slice a2.ao m.os.length a2.co, .int .i64 m.tr]) rfl (by kernel_rfl) (by kernel_rfl) (by kernel_rfl) (fun _ _ _ h => h) (Or.inl ⟨by rfl, fun w9 h9 => ?_⟩) (HSB.out _ ⟨HT.out.b0, HT.out.X.box⟩) ?_
    · obtain ⟨y0, y1, y2, y3, y4, y5, y6, y7, y8, y9, y10, y11⟩ := h9.2
      go_simp
    refine wpAnyH_take (i := 1) (v := .agg #[.int .i64 m.pc, .slice a.ar m.rs.length a.cr, .int .i64 m.md, .slice a.ac m.cs.length a.cc, .slice a.av m.vs.length a.cv, .string m.mem, .int .i64 m.st, .int .i64 m.ct, .int .i64 m.ln, .slice a.ai m.is.length a.ci, .slice a.ao m.os.length a.co, .int .i64 m.tr]) rfl (by kernel_rfl) (by kernel_rfl) (by kernel_rfl) (fun _ _ _ h => h) (Or.inl ⟨by rfl, fun w9 h9 => ?_⟩) (HSB.out _ ⟨HT.out.b0, HT.out.X.box⟩) ?_
    · obtain ⟨y0, y1, y2, y3, y4, y5, y6, y7, y8, y9, y10, y11⟩ := h9.1
      go_simp
    refine wpAnyH_all (rs := [2]) (by kernel_rfl) (by simp) (all_oneR (held_stepR rfl (by rfl) fun K hK => ?_))
    have HAH : Hid _ := toMachine5 (HT.out.rw.below HT.out.bel) HL.out
    go_simp
    refine Calls.mono HAH.out ?_
    clear HAH
    rintro e W1 ⟨a4, n4, rfl, hM, _, _, hb⟩
    have HT1 : Hid (LRL w W1 m M m M a a1 a2 a3 l1 p1 l2 p2 l3 p3 n1 n2 n3) := HT.out.step hb
    have HR4 : Hid (MRows W1 m a4) := hM.rows
    clear hM hb HT
    unfold mC
    refine hK _ _ (HSB.out _ ⟨HT1.out.b0, HT1.out.X.box⟩) ?_
    clear hK K
    refine wpAnyH_all (rs := [3]) (by kernel_rfl) (by simp) (all_oneR (held_stepR rfl (by rfl) fun K hK => ?_))
    have HAH : Hid _ := eqMachine_ok HT1.out.X.row.rows HR4.out HL.out
    go_simp
    refine Calls.mono HAH.out ?_
    clear HAH HR4
    rintro e W2 ⟨rfl, hb⟩
    have HV4 : Hid (LRL w W2 m M m M a a1 a2 a3 l1 p1 l2 p2 l3 p3 n1 n2 n3) := HT1.out.step hb
    clear hb HT1
    refine hK _ _ (HSB.out _ ⟨HV4.out.b0, HV4.out.X.box⟩) ?_
    clear hK K
    refine wpAnyH_take (i := 4) (v := .bool false) rfl (by kernel_rfl) (by kernel_rfl) (by kernel_rfl) (fun _ _ _ h => h) (Or.inl ⟨by rfl, fun w9 _ => ?_⟩) (HSB.out _ ⟨HV4.out.b0, HV4.out.X.box⟩) ?_
    · go_simp
    refine wpAnyH_done (by kernel_rfl) ?_ _
    clear HSB
    go_simp
    obtain ⟨y0, y1, y2, y3, y4, y5, y6, y7, y8, y9, y10, y11, _⟩ := cel12 HV4.out.X.box
    go_upto_region 25 with (first
      | (go_at_call 44; have hA := EX.out HV4.out.X.row (Nat.le_trans HV4.out.X.hi (Nat.le_of_lt HV4.out.X.lt)); refine Calls.mono hA ?_; clear hA; rintro e v1 ⟨rfl, hr, hg⟩; clear y0 y1 y2 y3 y4 y5 y6 y7 y8 y9 y10 y11; have HV5 : Hid (LRL w v1 m M (mkM m) M a a1 a2 a3 l1 p1 l2 p2 l3 p3 n1 n2 n3) := HV4.out.markX hg hr; clear hr hg HV4; obtain ⟨z0, z1, z2, z3, z4, z5, z6, z7, z8, z9, z10, z11, _⟩ := cel12 HV5.out.G.box; obtain ⟨y0, y1, y2, y3, y4, y5, y6, y7, y8, y9, y10, y11, _⟩ := cel12 HV5.out.A.box)
      | (go_at_call 43; have hA := eqMachine_ok HV5.out.G.row.rows HV5.out.A.row.rows HLM.out; refine Calls.mono hA ?_; clear hA; rintro e v2 ⟨rfl, hb⟩; clear z0 z1 z2 z3 z4 z5 z6 z7 z8 z9 z10 z11; clear y0 y1 y2 y3 y4 y5 y6 y7 y8 y9 y10 y11; have HV6 : Hid (LRL w v2 m M (mkM m) M a a1 a2 a3 l1 p1 l2 p2 l3 p3 n1 n2 n3) := HV5.out.step hb; clear hb HV5; obtain ⟨z0, z1, z2, z3, z4, z5, z6, z7, z8, z9, z10, z11, _⟩ := cel12 HV6.out.G.box)
      | (go_at_call 44; have hA := EN.out HV6.out.G.row (Nat.le_trans HV6.out.G.hi (Nat.le_of_lt HV6.out.G.lt)); refine Calls.mono hA ?_; clear hA; rintro e v3 ⟨rfl, hr, hg⟩; clear z0 z1 z2 z3 z4 z5 z6 z7 z8 z9 z10 z11; have HV7 : Hid (LRL w v3 m M (mkM m) (mkM M) a a1 a2 a3 l1 p1 l2 p2 l3 p3 n1 n2 n3) := HV6.out.markG hg hr; clear hr hg HV6; obtain ⟨z0, z1, z2, z3, z4, z5, z6, z7, z8, z9, z10, z11, _⟩ := cel12 HV7.out.G.box)
      | (go_at_call 45; have hA := EH.out HV7.out.G.row.rows; refine Calls.mono hA ?_; clear hA; rintro e v4 ⟨rfl, hb⟩; clear z0 z1 z2 z3 z4 z5 z6 z7 z8 z9 z10 z11; have HV8 : Hid (LRL w v4 m M (mkM m) (mkM M) a a1 a2 a3 l1 p1 l2 p2 l3 p3 n1 n2 n3) := HV7.out.step hb; clear hb HV7; obtain ⟨c0, c1, c2, c3, c4, c5, c6, c7, c8, c9, c10, c11, _⟩ := cel12 HV8.out.b0)
      | (go_at_call 41; have hA := toMachine5 (HV8.out.rw.below HV8.out.bel) HL.out; refine Calls.mono hA ?_; clear hA; rintro e v5 ⟨a5, n5, rfl, hM, _, _, hb⟩; clear c0 c1 c2 c3 c4 c5 c6 c7 c8 c9 c10 c11; have HV9 : Hid (LRL w v5 m M (mkM m) (mkM M) a a1 a2 a3 l1 p1 l2 p2 l3 p3 n1 n2 n3) := HV8.out.step hb; have HR9 : Hid (MRows v5 m a5) := hM.rows; clear hM hb HV8; unfold mC)
      | (go_at_call 42; have hA := HIM.out _ _ HR9.out; refine Calls.mono hA ?_; clear hA; rintro e v6 ⟨a6, n6, rfl, hM, h1, h2, hb⟩; have hbb : Below v5.heap.size v5 (v6.alloc (.cells #[.int .i64 M.pc, .slice a6.ar M.rs.length a6.cr, .int .i64 M.md, .slice a6.ac M.cs.length a6.cc, .slice a6.av M.vs.length a6.cv, .string M.mem, .int .i64 M.st, .int .i64 M.ct, .int .i64 M.ln, .slice a6.ai M.is.length a6.ci, .slice a6.ao M.os.length a6.co, .int .i64 M.tr] 73)) := hb.alloc hb.size _; have HVA : Hid (LRL w (v6.alloc (.cells #[.int .i64 M.pc, .slice a6.ar M.rs.length a6.cr, .int .i64 M.md, .slice a6.ac M.cs.length a6.cc, .slice a6.av M.vs.length a6.cv, .string M.mem, .int .i64 M.st, .int .i64 M.ct, .int .i64 M.ln, .slice a6.ai M.is.length a6.ci, .slice a6.ao M.os.length a6.co, .int .i64 M.tr] 73)) m M (mkM m) (mkM M) a a1 a2 a3 l1 p1 l2 p2 l3 p3 n1 n2 n3) := HV9.out.step hbb; have HHA : Hid (MBx (v6.alloc (.cells #[.int .i64 M.pc, .slice a6.ar M.rs.length a6.cr, .int .i64 M.md, .slice a6.ac M.cs.length a6.cc, .slice a6.av M.vs.length a6.cv, .string M.mem, .int .i64 M.st, .int .i64 M.ct, .int .i64 M.ln, .slice a6.ai M.is.length a6.ci, .slice a6.ao M.os.length a6.co, .int .i64 M.tr] 73)) v5.heap.size v6.heap.size n6 M M a6) := MBx.new hM h1 h2; clear hM h1 h2 hb hbb HV9 HR9; unfold mC))
    generalize v6.alloc (.cells #[.int .i64 M.pc, .slice a6.ar M.rs.length a6.cr, .int .i64 M.md, .slice a6.ac M.cs.length a6.cc, .slice a6.av M.vs.length a6.cv, .string M.mem, .int .i64 M.st, .int .i64 M.ct, .int .i64 M.ln, .slice a6.ai M.is.length a6.ci, .slice a6.ao M.os.length a6.co, .int .i64 M.tr] 73) = U6 at *
    generalize v6.heap.size = p6 at *
    obtain ⟨z0, z1, z2, z3, z4, z5, z6, z7, z8, z9, z10, z11, _⟩ := cel12 HHA.out.box
    obtain ⟨y0, y1, y2, y3, y4, y5, y6, y7, y8, y9, y10, y11, _⟩ := cel12 HVA.out.A.box
    go_wp2_with (first
      | (go_at_call 43; have hA := eqMachine_ok HHA.out.row.rows HVA.out.A.row.rows HLM.out; refine Calls.mono hA ?_; clear hA; rintro e v7 ⟨rfl, hb⟩; clear z0 z1 z2 z3 z4 z5 z6 z7 z8 z9 z10 z11; clear y0 y1 y2 y3 y4 y5 y6 y7 y8 y9 y10 y11; have HVB : Hid (LRL w v7 m M (mkM m) (mkM M) a a1 a2 a3 l1 p1 l2 p2 l3 p3 n1 n2 n3) := HVA.out.step hb; clear hb HVA HHA; obtain ⟨z0, z1, z2, z3, z4, z5, z6, z7, z8, z9, z10, z11, _⟩ := cel12 HVB.out.G.box)
      | (go_at_call 45; have hA := EH.out HVB.out.G.row.rows; refine Calls.mono hA ?_; clear hA; rintro e v8 ⟨rfl, hb⟩; clear z0 z1 z2 z3 z4 z5 z6 z7 z8 z9 z10 z11; have HVC : Hid (LRL w v8 m M (mkM m) (mkM M) a a1 a2 a3 l1 p1 l2 p2 l3 p3 n1 n2 n3) := HVB.out.step hb; clear hb HVB))
    go_ret
    exact ⟨rfl, HVC.out.bel⟩
end Go.Proofs.Ytjaelkagacmpkaa
