import Derived.Test.YtmaknoakknpopaaIm6
namespace Go.Proofs.Ytmaknoakknpopaa
open Go.ChangeShapes Go.WideShapes Go.ChangeAt Go.RowKit

set_option maxRecDepth 100000
/-- How much an image holds. -/
def totI (m : IM) : Int := (m.n.size : Int) + m.b.size + m.t.length + ((m.d.length : Int) + totS m.d) + ((m.s.length : Int) + totP m.s)
structure IMax (m : IM) : Prop where
  n : m.n.size ≤ maxLen
  b : m.b.size ≤ maxLen
  t : m.t.length ≤ maxLen
  d : m.d.length ≤ maxLen
  db : ∀ z ∈ m.d, z.size ≤ maxLen
  s : m.s.length ≤ maxLen
  e : ∀ k (hk : k < m.s.length), m.s[k].t.length ≤ maxLen ∧ m.s[k].n.size ≤ maxLen
theorem totI_nn (m : IM) : 0 ≤ totI m := by
  unfold totI
  have := totS_nn m.d
  have := totP_nn m.s
  omega
theorem totI_len {m : IM} (x : totI m ≤ 1048576) : ILen m := by
  unfold totI at x
  have h3 := totS_nn m.d
  have h5 := totP_nn m.s
  refine ⟨by omega, by omega, by omega, fun k hk => ?_⟩
  have := totP_el m.s k hk
  omega
/-- A law's image in its box. -/
structure IBx (w u : World) (m : IM) (a : IA) : Prop where
  bel : Below w.heap.size w u
  box : u.heap[w.heap.size]? = some (.cells #[.string m.n, .string m.b, a.vt, a.vd, a.vs] 26 (0, 0))
  row : IRows u m a
theorem IBx.lt {w u : World} {m : IM} {a : IA} (x : IBx w u m a) : w.heap.size < u.heap.size := (Array.getElem?_eq_some_iff.1 x.box).1
theorem IBx.step {w u u' : World} {m : IM} {a : IA} (x : IBx w u m a) (hb : Below u.heap.size u u') : IBx w u' m a := ⟨x.bel.trans (hb.mono x.bel.size), (hb.block _ x.lt).trans x.box, x.row.below hb⟩
theorem IBx.new {w : World} {m : IM} {a : IA} (x : IRows w m a) : IBx w (w.alloc (.cells #[.string m.n, .string m.b, a.vt, a.vd, a.vs] 26)) m a := ⟨(Below.refl _ _).alloc (Nat.le_refl _) _, heap_new _ _, x.below ((Below.refl _ _).alloc (Nat.le_refl _) _)⟩
theorem IBx.cel {w u : World} {m : IM} {a : IA} (x : IBx w u m a) : u.cell? ⟨w.heap.size, 0, none⟩ = some (.string m.n) ∧ u.cell? ⟨w.heap.size, 1, none⟩ = some (.string m.b) ∧ u.cell? ⟨w.heap.size, 2, none⟩ = some a.vt ∧ u.cell? ⟨w.heap.size, 3, none⟩ = some a.vd ∧ u.cell? ⟨w.heap.size, 4, none⟩ = some a.vs := by
  have := x.box
  simp [World.cell?, this]
set_option maxHeartbeats 4000000 in
theorem szImage_any {w : World} {m : IM} {a : IA} (x : IRows w m a) (hm : IMax m) (l : Int) (h0 : 0 ≤ l) (h1 : l ≤ 1048576) (q : Int) (hq : q = if l < totI m then -1 else l - totI m) : Calls Try.prog 8 #[imA m a, .int .i64 l] w fun e w' => e = .returned (.int .i64 q) ∧ Below w.heap.size w w' := by
  obtain ⟨al, kl, el⟩ := x.t.sl
  obtain ⟨am, km, em⟩ := x.d.sl
  obtain ⟨ac, kc, ec⟩ := x.sn.sl
  obtain ⟨vc, vp, vg, qs⟩ := a
  simp only at el ec em
  subst el ec em
  have HX : Hid (IBx w (w.alloc (.cells #[.string m.n, .string m.b, .slice al m.t.length kl, .slice am m.d.length km, .slice ac qs.length kc] 26)) m ⟨.slice al m.t.length kl, .slice am m.d.length km, .slice ac qs.length kc, qs⟩) := IBx.new x
  have n1 := totS_nn m.d
  have n2 := totP_nn m.s
  have hmx : maxLen ≤ 9223372036854775807 := by decide
  have z1 := hm.n
  have z2 := hm.b
  have z3 := hm.t
  have HZ1 : Hid _ := fun (u : World) (l : Int) h0 h1 => szIS_any al m.t.length kl l u h0 h1 z3
  have HZ2 : Hid _ := fun (u : World) (y : IBx w u m ⟨.slice al m.t.length kl, .slice am m.d.length km, .slice ac qs.length kc, qs⟩) (l q : Int) h0 h1 hq => szSS_any y.row.d l h0 h1 hm.d hm.db q hq
  have HZ3 : Hid _ := fun (u : World) (y : IBx w u m ⟨.slice al m.t.length kl, .slice am m.d.length km, .slice ac qs.length kc, qs⟩) (l q : Int) h0 h1 hq => szSnapS_any y.row.sn y.row.si l h0 h1 hm.s hm.e q hq
  unfold imA
  simp only at HZ2 HZ3 ⊢
  have HQ : Hid (q = if l < totI m then -1 else l - totI m) := hq
  clear hq
  unfold totI at HQ
  generalize totS m.d = S1 at *
  generalize totP m.s = S2 at *
  by_cases t1 : l < (m.n.size : Int)
  · have hw : IntKind.i64.wrap (l - (m.n.size : Int)) = l - (m.n.size : Int) := by rw [IntKind.wrap_i64]; omega
    have g3 : l - (m.n.size : Int) < 0 := by omega
    have HR : Hid (q = -1) := (show q = -1 by rw [HQ.out, if_pos (by omega)])
    clear h0 h1 n1 n2 z1 z2 z3 HZ1 HZ2 HZ3
    go_enter Try.func8, Try.ntmps8
    go_wp2
    go_ret
    exact ⟨ret_int HR.out.symm, HX.out.bel⟩
  obtain ⟨l1, hl1⟩ : ∃ l1 : Int, l1 = l - m.n.size := ⟨_, rfl⟩
  have hw1 : IntKind.i64.wrap (l - (m.n.size : Int)) = l1 := by rw [IntKind.wrap_i64]; omega
  have g1 : ¬ l1 < 0 := by omega
  by_cases t2 : l1 < (m.b.size : Int)
  · have hw : IntKind.i64.wrap (l1 - (m.b.size : Int)) = l1 - (m.b.size : Int) := by rw [IntKind.wrap_i64]; omega
    have g3 : l1 - (m.b.size : Int) < 0 := by omega
    have HR : Hid (q = -1) := (show q = -1 by rw [HQ.out, if_pos (by omega)])
    clear h0 h1 n1 n2 z1 z2 z3 HZ1 HZ2 HZ3 hl1
    go_enter Try.func8, Try.ntmps8
    go_wp2
    go_ret
    exact ⟨ret_int HR.out.symm, HX.out.bel⟩
  obtain ⟨l2, hl2⟩ : ∃ l2 : Int, l2 = l1 - m.b.size := ⟨_, rfl⟩
  have hw2 : IntKind.i64.wrap (l1 - (m.b.size : Int)) = l2 := by rw [IntKind.wrap_i64]; omega
  have g2 : ¬ l2 < 0 := by omega
  have HK : Hid (0 ≤ l2 ∧ l2 ≤ 1048576 ∧ 0 ≤ S1 ∧ 0 ≤ S2 ∧ q = if l2 < m.t.length + ((m.d.length : Int) + S1) + ((m.s.length : Int) + S2) then -1 else l2 - (m.t.length + ((m.d.length : Int) + S1) + ((m.s.length : Int) + S2))) := (show _ from by
    refine ⟨by omega, by omega, n1, n2, ?_⟩
    rw [HQ.out]
    by_cases t : l2 < m.t.length + ((m.d.length : Int) + S1) + ((m.s.length : Int) + S2)
    · rw [if_pos t, if_pos (by omega)]
    · rw [if_neg t, if_neg (by omega)]; omega)
  clear HQ h0 h1 n1 n2 z1 z2 z3 hl1 hl2 t1 t2
  go_enter Try.func8, Try.ntmps8
  go_wp2_with fail
  clear hw1 hw2 g1 g2
  generalize (w.alloc (.cells #[.string m.n, .string m.b, .slice al m.t.length kl, .slice am m.d.length km, .slice ac qs.length kc] 26)) = u0 at *
  obtain ⟨k1, k2, k3, k4, k5⟩ := HK.out
  have HS : Hid (0 ≤ S1 ∧ 0 ≤ S2) := ⟨k3, k4⟩
  by_cases t3 : l2 < (m.t.length : Int)
  · have hz := HZ1.out u0 l2 k1 k2
    rw [if_pos t3] at hz
    refine Calls.mono hz ?_
    rintro e u1 ⟨rfl, hu⟩
    rw [hu]
    have HR : Hid (q = -1) := (show q = -1 by rw [k5, if_pos (by omega)])
    clear hz hu k1 k2 k3 k4 k5 t3
    go_wp2_with fail
    go_ret
    exact ⟨ret_int HR.out.symm, HX.out.bel⟩
  have hz := HZ1.out u0 l2 k1 k2
  rw [if_neg t3] at hz
  obtain ⟨l3, hl3⟩ : ∃ l3 : Int, l3 = l2 - m.t.length := ⟨_, rfl⟩
  rw [← hl3] at hz
  refine Calls.mono hz ?_
  rintro e u1 ⟨rfl, hu⟩
  rw [hu]
  have g3 : ¬ l3 < 0 := by omega
  have HK3 : Hid (0 ≤ l3 ∧ l3 ≤ 1048576 ∧ q = if l3 < ((m.d.length : Int) + S1) + ((m.s.length : Int) + S2) then -1 else l3 - (((m.d.length : Int) + S1) + ((m.s.length : Int) + S2))) := (show _ from by
    refine ⟨by omega, by omega, ?_⟩
    rw [k5]
    by_cases t : l3 < ((m.d.length : Int) + S1) + ((m.s.length : Int) + S2)
    · rw [if_pos t, if_pos (by omega)]
    · rw [if_neg t, if_neg (by omega)]; omega)
  clear hz hu k1 k2 k3 k4 k5 t3 hl3 HK HZ1
  obtain ⟨c0, c1, c2, c3, c4⟩ := HX.out.cel
  simp only at c0 c1 c2 c3 c4
  have lt1 := HX.out.lt
  go_wp2_with fail
  clear c0 c1 c2 c3 c4 lt1 g3
  obtain ⟨k1, k2, k5⟩ := HK3.out
  obtain ⟨k3, k4⟩ := HS.out
  by_cases t2 : l3 < (m.d.length : Int) + S1
  · refine Calls.mono (HZ2.out _ HX.out l3 (-1) k1 k2 (by rw [if_pos t2])) ?_
    rintro e u2 ⟨rfl, hb⟩
    have HX2 : Hid (IBx w u2 m ⟨.slice al m.t.length kl, .slice am m.d.length km, .slice ac qs.length kc, qs⟩) := HX.out.step hb
    have HR : Hid (q = -1) := (show q = -1 by rw [k5, if_pos (by omega)])
    clear hb k1 k2 k3 k4 k5 t2
    go_wp2_with fail
    go_ret
    exact ⟨ret_int HR.out.symm, HX2.out.bel⟩
  obtain ⟨l4, hl4⟩ : ∃ l4 : Int, l4 = l3 - ((m.d.length : Int) + S1) := ⟨_, rfl⟩
  refine Calls.mono (HZ2.out _ HX.out l3 l4 k1 k2 (by rw [if_neg t2, hl4])) ?_
  rintro e u2 ⟨rfl, hb⟩
  have HX2 : Hid (IBx w u2 m ⟨.slice al m.t.length kl, .slice am m.d.length km, .slice ac qs.length kc, qs⟩) := HX.out.step hb
  have g4 : ¬ l4 < 0 := by omega
  have HK4 : Hid (0 ≤ l4 ∧ l4 ≤ 1048576 ∧ q = if l4 < (m.s.length : Int) + S2 then -1 else l4 - ((m.s.length : Int) + S2)) := (show _ from by
    refine ⟨by omega, by omega, ?_⟩
    rw [k5]
    by_cases t : l4 < (m.s.length : Int) + S2
    · rw [if_pos t, if_pos (by omega)]
    · rw [if_neg t, if_neg (by omega)]; omega)
  clear hb k1 k2 k3 k4 k5 t2 hl4 HK3 HX HZ2
  obtain ⟨c0, c1, c2, c3, c4⟩ := HX2.out.cel
  simp only at c0 c1 c2 c3 c4
  have lt1 := HX2.out.lt
  go_wp2_with fail
  clear c0 c1 c2 c3 c4 lt1 g4
  obtain ⟨k1, k2, k5⟩ := HK4.out
  obtain ⟨k3, k4⟩ := HS.out
  by_cases t3 : l4 < (m.s.length : Int) + S2
  · refine Calls.mono (HZ3.out _ HX2.out l4 (-1) k1 k2 (by rw [if_pos t3])) ?_
    rintro e u3 ⟨rfl, hb⟩
    have HX3 : Hid (IBx w u3 m ⟨.slice al m.t.length kl, .slice am m.d.length km, .slice ac qs.length kc, qs⟩) := HX2.out.step hb
    have HR : Hid (q = -1) := (show q = -1 by rw [k5, if_pos t3])
    clear hb k1 k2 k3 k4 k5 t3
    go_wp2_with fail
    go_ret
    exact ⟨ret_int HR.out.symm, HX3.out.bel⟩
  obtain ⟨l5, hl5⟩ : ∃ l5 : Int, l5 = l4 - ((m.s.length : Int) + S2) := ⟨_, rfl⟩
  refine Calls.mono (HZ3.out _ HX2.out l4 l5 k1 k2 (by rw [if_neg t3, hl5])) ?_
  rintro e u3 ⟨rfl, hb⟩
  have HX3 : Hid (IBx w u3 m ⟨.slice al m.t.length kl, .slice am m.d.length km, .slice ac qs.length kc, qs⟩) := HX2.out.step hb
  have g5 : ¬ l5 < 0 := by omega
  have HR : Hid (q = l5) := (show q = l5 by rw [k5, if_neg t3, hl5])
  clear hb k1 k2 k3 k4 k5 t3 hl5
  go_wp2_with fail
  go_ret
  exact ⟨ret_int HR.out.symm, HX3.out.bel⟩
end Go.Proofs.Ytmaknoakknpopaa
