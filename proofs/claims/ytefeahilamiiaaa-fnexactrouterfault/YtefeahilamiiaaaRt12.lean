import Derived.Test.YtefeahilamiiaaaRt7
namespace Go.Proofs.Ytefeahilamiiaaa
open Go.ChangeShapes Go.WideShapes Go.ChangeAt Go.RowKit

theorem blk_set {u : World} {b : Nat} {cs : Array Value} {t : TypeId} {z : Nat × Nat} (h : u.heap[b]? = some (.cells cs t z)) (o : Nat) (v : Value) : (u.setCell ⟨b, o, none⟩ v).heap[b]? = some (.cells (cs.setIfInBounds o v) t z) := by
  simp [World.setCell, Array.getElem?_modify, h]
theorem cel3 {u : World} {b t : Nat} {a0 a1 a2 : Value} (h : u.heap[b]? = some (.cells #[a0, a1, a2] t (0, 0))) : u.cell? ⟨b, 0, none⟩ = some a0 ∧ u.cell? ⟨b, 1, none⟩ = some a1 ∧ u.cell? ⟨b, 2, none⟩ = some a2 ∧ ∀ x, u.frozen? ⟨b, x, none⟩ = false := by
  simp [World.cell?, World.frozen?, h]
/-- A copy under way: the argument's box, the answer's, and the one at work. -/
structure T3 (w u : World) (t t2 : TypeId) (A Z out : Array Value) : Prop where
  bel : Below w.heap.size w u
  b0 : u.heap[w.heap.size]? = some (.cells A t (0, 0))
  b1 : u.heap[w.heap.size + 1]? = some (.cells Z t2 (0, 0))
  b2 : u.heap[w.heap.size + 1 + 1]? = some (.cells out t2 (0, 0))
theorem T3.lt {w u : World} {t t2 : TypeId} {A Z out : Array Value} (h : T3 w u t t2 A Z out) : w.heap.size + 1 + 1 < u.heap.size := (Array.getElem?_eq_some_iff.1 h.b2).1
theorem T3.step {w u u' : World} {t t2 : TypeId} {A Z out : Array Value} (h : T3 w u t t2 A Z out) (hb : Below u.heap.size u u') : T3 w u' t t2 A Z out := by
  have := h.lt
  exact ⟨h.bel.trans (hb.mono h.bel.size), (hb.block _ (by omega)).trans h.b0, (hb.block _ (by omega)).trans h.b1, (hb.block _ (by omega)).trans h.b2⟩
theorem T3.set {w u : World} {t t2 : TypeId} {A Z out : Array Value} (h : T3 w u t t2 A Z out) (o : Nat) (v : Value) : T3 w (u.setCell ⟨w.heap.size + 1 + 1, o, none⟩ v) t t2 A Z (out.setIfInBounds o v) :=
  ⟨h.bel.setCell (by simp only; omega) _, (Below.heap_setCell _ _ _ _ (by simp only; omega)).trans h.b0, (Below.heap_setCell _ _ _ _ (by simp only; omega)).trans h.b1, blk_set h.b2 o v⟩
theorem T3.new (w : World) (t t2 : TypeId) (A Z out : Array Value) : T3 w (((w.alloc (.cells A t)).alloc (.cells Z t2)).alloc (.cells out t2)) t t2 A Z out := by
  have h0 : (((w.alloc (.cells A t)).alloc (.cells Z t2)).alloc (.cells out t2)).heap[w.heap.size]? = some (.cells A t) := by
    rw [Below.heap_alloc _ _ _ (by simp; omega), Below.heap_alloc _ _ _ (by simp)]
    exact heap_new _ _
  have h1 : (((w.alloc (.cells A t)).alloc (.cells Z t2)).alloc (.cells out t2)).heap[w.heap.size + 1]? = some (.cells Z t2) := by
    rw [Below.heap_alloc _ _ _ (by simp)]
    simpa using heap_new (w.alloc (.cells A t)) (.cells Z t2)
  have h2 : (((w.alloc (.cells A t)).alloc (.cells Z t2)).alloc (.cells out t2)).heap[w.heap.size + 1 + 1]? = some (.cells out t2) := by simpa using heap_new ((w.alloc (.cells A t)).alloc (.cells Z t2)) (.cells out t2)
  exact ⟨(((Below.refl _ _).alloc (Nat.le_refl _) _).alloc (by simp) _).alloc (by simp; omega) _, h0, h1, h2⟩
theorem st3 {B : Nat} {w u : World} {b : Nat} {t : TypeId} {a0 a1 a2 : Value} (hb : Below B w u) (hB : B ≤ b) (h : u.heap[b]? = some (.cells #[a0, a1, a2] t (0, 0))) (v0 v1 v2 : Value) {U : World}
    (hU : ((u.setCell ⟨b, 0, none⟩ v0).setCell ⟨b, 1, none⟩ v1).setCell ⟨b, 2, none⟩ v2 = U) : Below B w U ∧ U.heap[b]? = some (.cells #[v0, v1, v2] t (0, 0)) ∧ (∀ k, k ≠ b → U.heap[k]? = u.heap[k]?) := by
  subst hU
  refine ⟨?_, ?_, fun k hk => ?_⟩
  · exact ((hb.setCell (p := ⟨b, 0, none⟩) hB _).setCell (p := ⟨b, 1, none⟩) hB _).setCell (p := ⟨b, 2, none⟩) hB _
  · exact blk_set (blk_set (blk_set h 0 v0) 1 v1) 2 v2
  · exact (Below.heap_setCell _ _ _ _ hk).trans ((Below.heap_setCell _ _ _ _ hk).trans (Below.heap_setCell _ _ _ _ hk))
/-- A new row persists while the copy is at work. -/
theorem own_setT {w u : World} {e size n : Nat} {v x : Value} {xs : List Value} {lo o : Nat} (h : u.ownsRow lo e size v n xs) (hlo : w.heap.size + 1 + 1 < lo) : (u.setCell ⟨w.heap.size + 1 + 1, o, none⟩ x).ownsRow lo e size v n xs :=
  own_set h (fun e => by have := (h.lt _ e).1; simp at this; omega)
theorem own_heap {u U : World} {lo lo' e size n : Nat} {v : Value} {xs : List Value} (h : u.ownsRow lo e size v n xs) (he : ∀ k, lo ≤ k → U.heap[k]? = u.heap[k]?) (hl : lo' ≤ lo) : U.ownsRow lo' e size v n xs := by
  obtain ⟨h1, h | ⟨g, cap, cur, hv, hg, h2, h3⟩⟩ := h
  · exact ⟨h1, .inl h⟩
  · exact ⟨h1, .inr ⟨g, cap, cur, hv, Nat.le_trans hl hg, (he g hg).trans h2, h3⟩⟩
theorem own_weak {w : World} {B B' : Nat} {e : TypeId} {s : Nat} {v : Value} {n : Nat} {xs : List Value} (h : w.ownsRow B e s v n xs) (hb : B' ≤ B) : w.ownsRow B' e s v n xs := by
  obtain ⟨hl, h | ⟨g, cap, cur, hv, hg, h1, h2, h3, h4, h5⟩⟩ := h
  · exact ⟨hl, .inl h⟩
  · exact ⟨hl, .inr ⟨g, cap, cur, hv, Nat.le_trans hb hg, h1, h2, h3, h4, h5⟩⟩
set_option maxRecDepth 100000 in
set_option maxHeartbeats 4000000 in
theorem toCpu_any {w : World} {l : Int} {p s : Value} {ps ss : List Int} (hp : Irow w p ps) (hs : Irow w s ss) (lp : ps.length ≤ 1048576) (ls : ss.length ≤ 1048576) : Calls Try.prog 41 #[cpA l p s] w fun e w' => ∃ u v, e = .returned (cpA l u v) ∧ w'.ownsRow (w.heap.size + 3) 2 1 u ps.length (iR ps) ∧ w'.ownsRow (w.heap.size + 3) 2 1 v ss.length (iR ss) ∧ Below w.heap.size w w' := by
  obtain ⟨ap, kp, rfl⟩ := hp.sl
  obtain ⟨aq, kq, rfl⟩ := hs.sl
  have HT0 : Hid (T3 w (((w.alloc (.cells #[.int .i64 l, .slice ap ps.length kp, .slice aq ss.length kq] 81)).alloc (.cells #[.int .i64 0, .slice none 0 0, .slice none 0 0] 59)).alloc (.cells #[.int .i64 l, .slice none 0 0, .slice none 0 0] 59)) 81 59 #[.int .i64 l, .slice ap ps.length kp, .slice aq ss.length kq] #[.int .i64 0, .slice none 0 0, .slice none 0 0] #[.int .i64 l, .slice none 0 0, .slice none 0 0]) := T3.new _ _ _ _ _ _
  have HP : Hid (Irow w (.slice ap ps.length kp) ps) := hp
  have HS : Hid (Irow w (.slice aq ss.length kq) ss) := hs
  clear hp hs
  unfold cpA
  go_enter Try.func41, Try.ntmps41
  go_wp2_with fail
  generalize (((w.alloc (.cells #[.int .i64 l, .slice ap ps.length kp, .slice aq ss.length kq] 81)).alloc (.cells #[.int .i64 0, .slice none 0 0, .slice none 0 0] 59)).alloc (.cells #[.int .i64 l, .slice none 0 0, .slice none 0 0] 59)) = u0 at *
  refine Calls.mono (toIS_any (HP.out.below HT0.out.bel) lp) ?_
  rintro e u1 ⟨v1, rfl, o1, hb1⟩
  obtain ⟨ap2, kp2, rfl⟩ := i_sl o1
  have HT1 : Hid (T3 w u1 81 59 #[.int .i64 l, .slice ap ps.length kp, .slice aq ss.length kq] #[.int .i64 0, .slice none 0 0, .slice none 0 0] #[.int .i64 l, .slice none 0 0, .slice none 0 0]) := HT0.out.step hb1
  have HRp : Hid (u1.ownsRow (w.heap.size + 3) 2 1 (.slice ap2 ps.length kp2) ps.length (iR ps)) := own_weak o1 (by have := HT0.out.lt; omega)
  clear o1 hb1 HT0
  obtain ⟨c0, c1, c2, _⟩ := cel3 HT1.out.b0
  obtain ⟨d0, d1, d2, df⟩ := cel3 HT1.out.b2
  have lt1 := HT1.out.lt
  have g0 : w.heap.size < u1.heap.size := by omega
  have g2 : w.heap.size + 1 + 1 < u1.heap.size := by omega
  go_wp2_with fail
  clear c0 c1 c2 d0 d1 d2 df g0 g2
  have HS1 : Hid (T3 w (u1.setCell ⟨w.heap.size + 1 + 1, 1, none⟩ (.slice ap2 ps.length kp2)) 81 59 #[.int .i64 l, .slice ap ps.length kp, .slice aq ss.length kq] #[.int .i64 0, .slice none 0 0, .slice none 0 0] #[.int .i64 l, .slice ap2 ps.length kp2, .slice none 0 0]) := HT1.out.set 1 (.slice ap2 ps.length kp2)
  have HSp : Hid ((u1.setCell ⟨w.heap.size + 1 + 1, 1, none⟩ (.slice ap2 ps.length kp2)).ownsRow (w.heap.size + 3) 2 1 (.slice ap2 ps.length kp2) ps.length (iR ps)) := own_setT HRp.out (by omega)
  generalize (u1.setCell ⟨w.heap.size + 1 + 1, 1, none⟩ (.slice ap2 ps.length kp2)) = V1 at *
  refine Calls.mono (toIS_any (HS.out.below HS1.out.bel) ls) ?_
  rintro e u2 ⟨v2, rfl, o2, hb2⟩
  obtain ⟨aq2, kq2, rfl⟩ := i_sl o2
  have HT2 : Hid (T3 w u2 81 59 #[.int .i64 l, .slice ap ps.length kp, .slice aq ss.length kq] #[.int .i64 0, .slice none 0 0, .slice none 0 0] #[.int .i64 l, .slice ap2 ps.length kp2, .slice none 0 0]) := HS1.out.step hb2
  have HRp2 : Hid (u2.ownsRow (w.heap.size + 3) 2 1 (.slice ap2 ps.length kp2) ps.length (iR ps)) := own_below HSp.out hb2
  have HRs : Hid (u2.ownsRow (w.heap.size + 3) 2 1 (.slice aq2 ss.length kq2) ss.length (iR ss)) := own_weak o2 (by have := HS1.out.lt; omega)
  clear o2 hb2 HS1 lt1 HRp HSp HT1
  obtain ⟨c0, c1, c2, _⟩ := cel3 HT2.out.b0
  obtain ⟨d0, d1, d2, df⟩ := cel3 HT2.out.b2
  obtain ⟨k0, k1, k2, kf⟩ := cel3 HT2.out.b1
  have lt2 := HT2.out.lt
  have g0 : w.heap.size < u2.heap.size := by omega
  have g1 : w.heap.size + 1 < u2.heap.size := by omega
  have g2 : w.heap.size + 1 + 1 < u2.heap.size := by omega
  go_wp2
  have hb2 : Below w.heap.size w (u2.setCell ⟨w.heap.size + 1 + 1, 2, none⟩ (.slice aq2 ss.length kq2)) := HT2.out.bel.setCell (by simp only; omega) _
  have hbx : (u2.setCell ⟨w.heap.size + 1 + 1, 2, none⟩ (.slice aq2 ss.length kq2)).heap[w.heap.size + 1]? = some (.cells #[.int .i64 0, .slice none 0 0, .slice none 0 0] 59 (0, 0)) := (Below.heap_setCell _ _ _ _ (by simp only; omega)).trans HT2.out.b1
  obtain ⟨e1, e2, e3⟩ := st3 hb2 (by omega) hbx (.int .i64 l) (.slice ap2 ps.length kp2) (.slice aq2 ss.length kq2) rfl
  have e5 := fun k (hk : w.heap.size + 3 ≤ k) => (e3 k (by omega)).trans (Below.heap_setCell u2 ⟨w.heap.size + 1 + 1, 2, none⟩ (.slice aq2 ss.length kq2) k (by simp only; omega))
  obtain ⟨f0, f1, f2, _⟩ := cel3 e2
  refine bodyPost_ret (v := .agg #[.int .i64 l, .slice ap2 ps.length kp2, .slice aq2 ss.length kq2]) ?_ rfl ⟨_, _, rfl, own_heap HRp2.out e5 (Nat.le_refl _), own_heap HRs.out e5 (Nat.le_refl _), e1⟩
  clear e5 e3 e1 hbx hb2 HT2 HRp2 HRs e2 c0 c1 c2 d0 d1 d2 df k0 k1 k2 kf
  simp only [results, Try.results41, go_sem]
  simp [go_sem, f0, f1, f2]
end Go.Proofs.Ytefeahilamiiaaa
