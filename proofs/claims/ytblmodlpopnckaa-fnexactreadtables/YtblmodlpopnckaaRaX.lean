import Derived.Test.YtblmodlpopnckaaRa12
import Derived.Test.YtblmodlpopnckaaRowKZ
namespace Go.Proofs.Ytblmodlpopnckaa
open Go.ChangeShapes Go.WideShapes Go.ChangeAt Go.RowKit

set_option maxRecDepth 100000 in
set_option maxHeartbeats 4000000 in
theorem eqRT_ok {w : World} {v u : Value} {zs : List FT} (h : FTrow w v zs) (h' : FTrow w u zs) (hl : zs.length ≤ 1048576) (c : Int) : Calls Try.prog 7 #[.agg #[.int .i64 c, v], .agg #[.int .i64 c, u]] w fun e w' => e = .returned (.bool true) ∧ Below w.heap.size w w' := by
  have H1 : Hid (FTrow w v zs) := h
  have H2 : Hid (FTrow w u zs) := h'
  obtain ⟨a1, c1, rfl⟩ := h.sl
  obtain ⟨a2, c2, rfl⟩ := h'.sl
  have HE : Hid (∀ x, Below w.heap.size w x → Calls Try.prog 14 #[.slice a1 zs.length c1, .slice a2 zs.length c2] x fun e w' => e = .returned (.bool true) ∧ Below x.heap.size x w') := fun x hx => eqFTS_ok (H1.out.below hx) (H2.out.below hx) hl
  have hB : Below w.heap.size w ((w.alloc (.cells #[.int .i64 c, .slice a1 zs.length c1] 24)).alloc (.cells #[.int .i64 c, .slice a2 zs.length c2] 24)) := (bx1 _ _).trans ((bx1 _ _).mono (bx1 w _).size)
  have HB : Hid (Below w.heap.size w ((w.alloc (.cells #[.int .i64 c, .slice a1 zs.length c1] 24)).alloc (.cells #[.int .i64 c, .slice a2 zs.length c2] 24))) := hB
  have n0 : (c != c) = false := by simp
  clear h h' hB H1 H2
  go_enter Try.func7, Try.ntmps7
  go_wp2_with fail
  refine Calls.mono (HE.out _ HB.out) ?_
  rintro e u1 ⟨rfl, hu⟩
  have HB1 : Hid (Below w.heap.size w u1) := HB.out.trans (hu.mono HB.out.size)
  clear hu
  go_wp2
  go_ret
  exact ⟨rfl, HB1.out⟩
set_option maxRecDepth 100000 in
set_option maxHeartbeats 4000000 in
theorem markRT_ok {w : World} {B : Nat} {v : Value} {zs : List FT} (k0 : Nat) (h : w.ownsRow B 40 3 v zs.length (ftR zs)) (hn : zs.length ≤ 1048576) (hk1 : 1 ≤ k0) (hk2 : k0 ≤ 140737488355328) (c : Int) :
    Calls Try.prog 8 #[.agg #[.int .i64 c, v], .int .i64 (k0 : Nat)] w fun e w' => e = .returned (.int .i64 ((k0 + 3 * zs.length : Nat) : Int)) ∧ w'.ownsRow B 40 3 v zs.length (ftR (mfK k0 zs.length)) ∧ (w.alloc (.cells #[.int .i64 c, v] 24)).grownBy w' v.ownBlock := by
  have HM : Hid (∀ x, Below w.heap.size w x → Calls Try.prog 26 #[v, .int .i64 (k0 : Nat)] x fun e w' => e = .returned (.int .i64 ((k0 + 3 * zs.length : Nat) : Int)) ∧ w'.ownsRow B 40 3 v zs.length (ftR (mfK k0 zs.length)) ∧ x.grownBy w' v.ownBlock) := fun x hx => markFT_ok k0 (ft_below h hx) hn hk1 hk2
  obtain ⟨a1, c1, rfl⟩ := ft_sl h
  generalize (Value.slice a1 zs.length c1).ownBlock = ob at *
  generalize k0 + 3 * zs.length = N at *
  clear h
  go_enter Try.func8, Try.ntmps8
  go_wp2_with fail
  refine Calls.mono (HM.out _ (bx1 _ _)) ?_
  rintro e u1 ⟨rfl, ho, hg⟩
  have HO : Hid _ := ho
  have HG : Hid _ := hg
  clear ho hg
  go_wp2
  go_ret
  exact ⟨rfl, HO.out, HG.out⟩
set_option maxRecDepth 100000 in
set_option maxHeartbeats 4000000 in
theorem heldRT_ok {w : World} {v : Value} (k0 n : Nat) (h : FTrow w v (mfK k0 n)) (hn : n ≤ 1048576) (hk1 : 1 ≤ k0) (hk2 : k0 ≤ 140737488355328) (c : Int) :
    Calls Try.prog 9 #[.agg #[.int .i64 c, v], .int .i64 (k0 : Nat)] w fun e w' => e = .returned (.int .i64 ((k0 + 3 * n : Nat) : Int)) ∧ Below w.heap.size w w' := by
  have HM : Hid (∀ u, Below w.heap.size w u → Calls Try.prog 27 #[v, .int .i64 (k0 : Nat)] u fun e w' => e = .returned (.int .i64 ((k0 + 3 * n : Nat) : Int)) ∧ Below u.heap.size u w') := fun u hu => heldFT_ok k0 n (h.below hu) hn hk1 hk2
  obtain ⟨a1, c1, rfl⟩ := h.sl
  have hN : k0 + 3 * n ≤ 281474976710656 := by omega
  generalize k0 + 3 * n = N at *
  have hn0 : decide ((N : Int) < 0) = false := decide_eq_false (by omega)
  clear h
  go_enter Try.func9, Try.ntmps9
  go_wp2_with fail
  refine Calls.mono (HM.out _ (bx1 _ _)) ?_
  rintro e u1 ⟨rfl, hb⟩
  have HB : Hid (Below w.heap.size w u1) := (bx1 w _).trans (hb.mono (bx1 w _).size)
  clear hb
  go_wp2
  go_ret
  exact ⟨rfl, HB.out⟩
/-- What the law keeps. -/
structure RT (w u : World) (b1 b2 : Nat) (c : Int) (v g : Value) (zs ys : List FT) : Prop where
  x1 : LG w u b1 #[.int .i64 c, v] 24
  x2 : LG w u b2 #[.int .i64 c, g] 24
  o1 : u.ownsRow w.heap.size 40 3 v zs.length (ftR zs)
  o2 : u.ownsRow (b1 + 1) 40 3 g zs.length (ftR ys)
  n1 : ∀ k, v.ownBlock = some k → k < b1
  n2 : ∀ k, g.ownBlock = some k → k < b2
  lt : b1 < b2
theorem RT.step {w u u' : World} {b1 b2 : Nat} {c : Int} {v g : Value} {zs ys : List FT} (h : RT w u b1 b2 c v g zs ys) (hb : Below u.heap.size u u') : RT w u' b1 b2 c v g zs ys :=
  ⟨h.x1.step hb, h.x2.step hb, ft_below h.o1 hb, ft_below h.o2 hb, h.n1, h.n2, h.lt⟩
theorem RT.mark {w u u' : World} {b1 b2 : Nat} {c : Int} {v g : Value} {zs ys ys2 : List FT} {o : Obj} (h0 : RT w u b1 b2 c v g zs ys) (hg : (u.alloc o).grownBy u' g.ownBlock) (ho : u'.ownsRow (b1 + 1) 40 3 g zs.length (ftR ys2)) : RT w u' b1 b2 c v g zs ys2 := by
  have h := h0.step (bx1 u o)
  have hlo : ∀ k, g.ownBlock = some k → b1 + 1 ≤ k := fun k e => (h.o2.lt k e).1
  have hge := h.x1.ge
  refine ⟨⟨h.x1.bel.grown hg h.x1.bel.size (fun j hj => by have := hlo j hj; omega), (hg.block b1 h.x1.lt (fun e => by have := hlo b1 e.symm; omega)).trans h.x1.box, h.x1.ge⟩, ⟨h.x2.bel.grown hg h.x2.bel.size (fun j hj => by have := hlo j hj; omega), (hg.block b2 h.x2.lt (fun e => by have := h.n2 b2 e.symm; omega)).trans h.x2.box, h.x2.ge⟩, ?_, ho, h.n1, h.n2, h.lt⟩
  cases hv : v.ownBlock with
  | none => exact h.o1.kept hg (.inl hv)
  | some k => exact h.o1.kept hg (.inr (fun e => by have h1 := hlo k (e.symm.trans hv); have h2 := h.n1 k hv; omega))
theorem rdZ_len (m : ByteArray) (a : Int) : (rdZ m a).length ≤ 10 := by
  unfold rdZ
  split
  · rw [rdT_len]
    exact plL_len m _
  · simp

set_option maxRecDepth 100000 in
set_option maxHeartbeats 8000000 in
theorem walkRT (m : ByteArray) (a : Int) (w : World) : Calls Try.prog 3 #[.string m, .int .i64 a] w fun e w' => e = .returned (.bool true) ∧ Below w.heap.size w w' := by
  by_cases hbig : 1048576 < m.size
  · have hd : decide ((1048576 : Int) < (m.size : Int)) = true := decide_eq_true (by omega)
    clear hbig
    go_enter Try.func3, Try.ntmps3
    go_wp2
    go_ret
    exact ⟨rfl, Below.refl _ _⟩
  have hd : decide ((1048576 : Int) < (m.size : Int)) = false := decide_eq_false (by omega)
  have HSP : Hid (∀ u, Calls Try.prog 5 #[.string m, .int .i64 a] u fun e w' => ∃ v, e = .returned (.agg #[.int .i64 (rdC m a), v]) ∧ w'.ownsRow u.heap.size 40 3 v (rdZ m a).length (ftR (rdZ m a)) ∧ Below u.heap.size u w') := fun u => specRT_any m a u (by omega)
  have HIM : Hid (∀ u, Calls Try.prog 6 #[.string m, .int .i64 a] u fun e w' => ∃ v, e = .returned (.agg #[.int .i64 (rdC m a), v]) ∧ w'.ownsRow u.heap.size 40 3 v (rdZ m a).length (ftR (rdZ m a)) ∧ Below u.heap.size u w') := fun u => implRT_any m a u (by omega)
  have HLN : Hid ((rdZ m a).length ≤ 10) := rdZ_len m a
  generalize rdZ m a = zs at *
  generalize rdC m a = c at *
  clear hbig
  go_enter Try.func3, Try.ntmps3
  go_upto_region 4 with (go_at_call 5; refine Calls.mono (HSP.out _) ?_; rintro e u1 ⟨v, rfl, ho, hb⟩; obtain ⟨a1, c1, rfl⟩ := ft_sl ho; have HB1 : Hid (Below w.heap.size w u1) := hb; have HO1 : Hid (u1.ownsRow w.heap.size 40 3 (.slice a1 zs.length c1) zs.length (ftR zs)) := ho; clear ho hb)
  have HB2 : Hid (Below w.heap.size w (u1.alloc (.cells #[.int .i64 c, .slice a1 zs.length c1] 24))) := HB1.out.trans ((bx1 _ _).mono HB1.out.size)
  have HX1 : Hid (LG w (u1.alloc (.cells #[.int .i64 c, .slice a1 zs.length c1] 24)) u1.heap.size #[.int .i64 c, .slice a1 zs.length c1] 24) := ⟨HB2.out, heap_new _ _, HB1.out.size⟩
  have HO2 : Hid ((u1.alloc (.cells #[.int .i64 c, .slice a1 zs.length c1] 24)).ownsRow w.heap.size 40 3 (.slice a1 zs.length c1) zs.length (ftR zs)) := ft_below HO1.out (bx1 _ _)
  have HN1 : Hid (∀ k, (Value.slice a1 zs.length c1).ownBlock = some k → k < u1.heap.size) := fun k hk => (HO1.out.lt k hk).2
  have HS2 : Hid (u1.heap.size + 1 = (u1.alloc (.cells #[.int .i64 c, .slice a1 zs.length c1] 24)).heap.size) := (show _ = _ by simp)
  generalize (u1.alloc (.cells #[.int .i64 c, .slice a1 zs.length c1] 24)) = u2 at *
  generalize u1.heap.size = b1 at *
  clear HB1 HO1
  go_upto_region 5 with (go_at_call 6; refine Calls.mono (HIM.out _) ?_; rintro e u3 ⟨g, rfl, ho, hb⟩; obtain ⟨a2, c2, rfl⟩ := ft_sl ho; have HO3 : Hid (u3.ownsRow (b1 + 1) 40 3 (.slice a2 zs.length c2) zs.length (ftR zs)) := (by rw [HS2.out]; exact ho); have HX3 : Hid (LG w u3 b1 #[.int .i64 c, .slice a1 zs.length c1] 24) := HX1.out.step hb; have HO1 : Hid (u3.ownsRow w.heap.size 40 3 (.slice a1 zs.length c1) zs.length (ftR zs)) := ft_below HO2.out hb; clear ho hb HX1 HO2)
  have HR : Hid (RT w (u3.alloc (.cells #[.int .i64 c, .slice a2 zs.length c2] 24)) b1 u3.heap.size c (.slice a1 zs.length c1) (.slice a2 zs.length c2) zs zs) := ⟨HX3.out.step (bx1 _ _), ⟨(HX3.out.step (bx1 _ _)).bel, heap_new _ _, HX3.out.bel.size⟩, ft_below HO1.out (bx1 _ _), ft_below HO3.out (bx1 _ _), HN1.out, fun k hk => (HO3.out.lt k hk).2, HX3.out.lt⟩
  generalize (u3.alloc (.cells #[.int .i64 c, .slice a2 zs.length c2] 24)) = u4 at *
  generalize u3.heap.size = b2 at *
  clear HO3 HX3 HO1 HN1 HS2 HB2 HSP
  have x10 := HR.out.x1.cel 0 _ rfl
  have x11 := HR.out.x1.cel 1 _ rfl
  have x1l := HR.out.x1.lt
  have x20 := HR.out.x2.cel 0 _ rfl
  have x21 := HR.out.x2.cel 1 _ rfl
  have x2l := HR.out.x2.lt
  have hzn : zs.length ≤ 1048576 := by have := HLN.out; omega
  have HNP : Hid (((1 : Nat) : Int) = 1) := rfl
  have HKL : Hid ((mfK 1 zs.length).length = zs.length) := mfK_len _ _
  have hN0 : Hid (1 + 3 * zs.length ≤ 100) := (show 1 + 3 * zs.length ≤ 100 by have := HLN.out; omega)
  have HMK : Hid (∀ u, RT w u b1 b2 c (.slice a1 zs.length c1) (.slice a2 zs.length c2) zs (mfK 1 zs.length) → Calls Try.prog 9 #[.agg #[.int .i64 c, .slice a2 zs.length c2], .int .i64 1] u fun e w' => e = .returned (.int .i64 ((1 + 3 * zs.length : Nat) : Int)) ∧ Below u.heap.size u w') := fun u hu => heldRT_ok 1 zs.length (FTrow.of (by rw [HKL.out]; exact hu.o2)) hzn (by omega) (by omega) c
  have HMR : Hid (∀ u, RT w u b1 b2 c (.slice a1 zs.length c1) (.slice a2 zs.length c2) zs zs → Calls Try.prog 8 #[.agg #[.int .i64 c, .slice a2 zs.length c2], .int .i64 1] u fun e w' => e = .returned (.int .i64 ((1 + 3 * zs.length : Nat) : Int)) ∧ RT w w' b1 b2 c (.slice a1 zs.length c1) (.slice a2 zs.length c2) zs (mfK 1 zs.length)) := fun u hu => by
    refine (markRT_ok 1 hu.o2 hzn (by omega) (by omega) c).mono ?_
    rintro e w' ⟨rfl, ho, hg⟩
    exact ⟨rfl, hu.mark hg ho⟩
  have hNN : ((1 + 3 * zs.length : Nat) : Int) ≤ 100 := by have := hN0.out; omega
  have hNP : 0 ≤ ((1 + 3 * zs.length : Nat) : Int) := by omega
  generalize ((1 + 3 * zs.length : Nat) : Int) = M at *
  have hM0 : decide (M < 0) = false := decide_eq_false (by omega)
  go_upto_region 7 with (go_at_call 7; refine Calls.mono (eqRT_ok (FTrow.of HR.out.o2) (FTrow.of HR.out.o1) hzn c) ?_; rintro e u5 ⟨rfl, hb⟩; have HR5 : Hid (RT w u5 b1 b2 c (.slice a1 zs.length c1) (.slice a2 zs.length c2) zs zs) := HR.out.step hb; clear hb HR x10 x11 x1l x20 x21 x2l)
  have x20 := HR5.out.x2.cel 0 _ rfl
  have x21 := HR5.out.x2.cel 1 _ rfl
  have x2l := HR5.out.x2.lt
  go_upto_region 9 with (go_at_call 8; refine Calls.mono (HMR.out _ HR5.out) ?_; rintro e u6 ⟨rfl, ho⟩; have HR6 : Hid (RT w u6 b1 b2 c (.slice a1 zs.length c1) (.slice a2 zs.length c2) zs (mfK 1 zs.length)) := ho; clear ho HR5 x20 x21 x2l)
  have x20 := HR6.out.x2.cel 0 _ rfl
  have x21 := HR6.out.x2.cel 1 _ rfl
  have x2l := HR6.out.x2.lt
  go_upto_region 15 with (go_at_call 9; refine Calls.mono (HMK.out _ HR6.out) ?_; rintro e u7 ⟨rfl, hb⟩; have HR7 : Hid (RT w u7 b1 b2 c (.slice a1 zs.length c1) (.slice a2 zs.length c2) zs (mfK 1 zs.length)) := HR6.out.step hb; clear hb HR6 x20 x21 x2l)
  go_upto_region 16 with (go_at_call 6; refine Calls.mono (HIM.out _) ?_; rintro e u8 ⟨g8, rfl, ho, hb⟩; obtain ⟨a8, c8, rfl⟩ := ft_sl ho; have HR8 : Hid (RT w u8 b1 b2 c (.slice a1 zs.length c1) (.slice a2 zs.length c2) zs (mfK 1 zs.length)) := HR7.out.step hb; have HO8 : Hid (FTrow u8 (.slice a8 zs.length c8) zs) := FTrow.of ho; clear ho hb HR7 HIM)
  have HR9 : Hid (RT w (u8.alloc (.cells #[.int .i64 c, .slice a8 zs.length c8] 24)) b1 b2 c (.slice a1 zs.length c1) (.slice a2 zs.length c2) zs (mfK 1 zs.length)) := HR8.out.step (bx1 _ _)
  have HO9 : Hid (FTrow (u8.alloc (.cells #[.int .i64 c, .slice a8 zs.length c8] 24)) (.slice a8 zs.length c8) zs) := HO8.out.below (bx1 _ _)
  have HX9 : Hid (LG u8 (u8.alloc (.cells #[.int .i64 c, .slice a8 zs.length c8] 24)) u8.heap.size #[.int .i64 c, .slice a8 zs.length c8] 24) := LG.new _ _ _
  generalize (u8.alloc (.cells #[.int .i64 c, .slice a8 zs.length c8] 24)) = u9 at *
  generalize u8.heap.size = b8 at *
  clear HR8 HO8
  have x10 := HR9.out.x1.cel 0 _ rfl
  have x11 := HR9.out.x1.cel 1 _ rfl
  have x1l := HR9.out.x1.lt
  have x80 := HX9.out.cel 0 _ rfl
  have x81 := HX9.out.cel 1 _ rfl
  have x8l := HX9.out.lt
  go_upto_region 18 with (go_at_call 7; refine Calls.mono (eqRT_ok HO9.out (FTrow.of HR9.out.o1) hzn c) ?_; rintro e u10 ⟨rfl, hb⟩; have HRA : Hid (RT w u10 b1 b2 c (.slice a1 zs.length c1) (.slice a2 zs.length c2) zs (mfK 1 zs.length)) := HR9.out.step hb; clear hb HR9 HO9 HX9 x10 x11 x1l x80 x81 x8l)
  have x20 := HRA.out.x2.cel 0 _ rfl
  have x21 := HRA.out.x2.cel 1 _ rfl
  have x2l := HRA.out.x2.lt
  go_wp2_with (go_at_call 9; refine Calls.mono (HMK.out _ HRA.out) ?_; rintro e u11 ⟨rfl, hb⟩; have HRB : Hid (RT w u11 b1 b2 c (.slice a1 zs.length c1) (.slice a2 zs.length c2) zs (mfK 1 zs.length)) := HRA.out.step hb; clear hb HRA x20 x21 x2l)
  go_ret
  exact ⟨rfl, HRB.out.x1.bel⟩
end Go.Proofs.Ytblmodlpopnckaa
