import Derived.Test.YtefeahilamiiaaaSw3
namespace Go.Proofs.Ytefeahilamiiaaa
open Go.ChangeShapes Go.WideShapes Go.ChangeAt Go.RowKit

/-- A switch. -/
structure SW where
  ps : List PO
  es : List SE
  time : Int
  age : Int
/-- Where a switch's rows are. -/
structure SA where
  vp : Value
  ve : Value
  qs : List PQ
def swC (s : SW) (a : SA) : Array Value := #[a.vp, a.ve, .int .i64 s.time, .int .i64 s.age]
def swA (s : SW) (a : SA) : Value := .agg (swC s a)
structure SRows (w : World) (s : SW) (a : SA) : Prop where
  pq : PQrow w a.vp a.qs
  po : POin w a.qs s.ps
  se : SErow w a.ve s.es
theorem SRows.below {w w' : World} {s : SW} {a : SA} (h : SRows w s a) (hb : Below w.heap.size w w') : SRows w' s a := ⟨h.pq.below hb, h.po.below hb, h.se.below hb⟩
theorem SRows.sl {w : World} {s : SW} {a : SA} (h : SRows w s a) : ∃ ap kp ae ke, a = ⟨.slice ap s.ps.length kp, .slice ae s.es.length ke, a.qs⟩ := by
  obtain ⟨ap, kp, e1⟩ := h.pq.sl
  obtain ⟨ae, ke, e2⟩ := h.se.sl
  refine ⟨ap, kp, ae, ke, ?_⟩
  rw [← h.po.len, ← e1, ← e2]
structure SLen (s : SW) : Prop where
  p : PLen s.ps
  e : s.es.length ≤ 1048576
theorem POown.heap {u U : World} {lo lo' : Nat} {qs : List PQ} {cs : List PO} {k : Nat} (h : POown u lo qs cs k) (he : ∀ k, lo ≤ k → U.heap[k]? = u.heap[k]?) (hl : lo' ≤ lo) : POown U lo' qs cs k :=
  ⟨h.len, fun j hq hc hj => ⟨(h.el j hq hc hj).1, own_heap (h.el j hq hc hj).2 he hl⟩, h.rest⟩
set_option maxRecDepth 100000 in
set_option maxHeartbeats 4000000 in
theorem toSwitch_any {w : World} {s : SW} {a : SA} (h : SRows w s a) (hl : SLen s) : Calls Try.prog 12 #[swA s a] w fun e w' => ∃ a2 : SA, e = .returned (swA s a2) ∧ SRows w' s a2 ∧ Below w.heap.size w w' := by
  have HR : Hid (SRows w s a) := h
  obtain ⟨ap, kp, ae, ke, e⟩ := h.sl
  obtain ⟨lp, le⟩ := hl
  generalize a.qs = qs at e
  subst e
  clear h
  unfold swA swC
  simp only
  go_enter Try.func12, Try.ntmps12
  go_wp2_with fail
  have HT0 : Hid (T3 w (((w.alloc (.cells #[.slice ap s.ps.length kp, .slice ae s.es.length ke, .int .i64 s.time, .int .i64 s.age] 40)).alloc (.cells #[.slice none 0 0, .slice none 0 0, .int .i64 0, .int .i64 0] 46)).alloc (.cells #[.slice none 0 0, .slice none 0 0, .int .i64 0, .int .i64 0] 46)) 40 46 #[.slice ap s.ps.length kp, .slice ae s.es.length ke, .int .i64 s.time, .int .i64 s.age] #[.slice none 0 0, .slice none 0 0, .int .i64 0, .int .i64 0] #[.slice none 0 0, .slice none 0 0, .int .i64 0, .int .i64 0]) := T3.new _ _ _ _ _ _
  generalize (((w.alloc (.cells #[.slice ap s.ps.length kp, .slice ae s.es.length ke, .int .i64 s.time, .int .i64 s.age] 40)).alloc (.cells #[.slice none 0 0, .slice none 0 0, .int .i64 0, .int .i64 0] 46)).alloc (.cells #[.slice none 0 0, .slice none 0 0, .int .i64 0, .int .i64 0] 46)) = u0 at *
  refine Calls.mono (toPortS_any (HR.out.pq.below HT0.out.bel) (HR.out.po.below HT0.out.bel) lp.len lp.el) ?_
  rintro e u1 ⟨v1, qs2, rfl, o1, p1, hb1⟩
  have hq2 : qs2.length = s.ps.length := p1.len
  rw [hq2] at o1
  obtain ⟨ap2, kp2, rfl⟩ := pq_sl o1
  have HT1 : Hid (T3 w u1 40 46 #[.slice ap s.ps.length kp, .slice ae s.es.length ke, .int .i64 s.time, .int .i64 s.age] #[.slice none 0 0, .slice none 0 0, .int .i64 0, .int .i64 0] #[.slice none 0 0, .slice none 0 0, .int .i64 0, .int .i64 0]) := HT0.out.step hb1
  have HRp : Hid (u1.ownsRow (w.heap.size + 3) 73 7 (.slice ap2 s.ps.length kp2) s.ps.length (pqR qs2)) := pq_weak o1 (by have := HT0.out.lt; omega)
  have HPO : Hid (POown u1 (w.heap.size + 3) qs2 s.ps s.ps.length) := p1.weak (by have := HT0.out.lt; omega)
  have HQ2 : Hid (qs2.length = s.ps.length) := hq2
  clear o1 p1 hb1 HT0 hq2
  have c1 := celN HT1.out.b0 1 _ rfl
  have d0 := celN HT1.out.b2 0 _ rfl
  have df := frzN HT1.out.b2
  have lt1 := HT1.out.lt
  have g0 : w.heap.size < u1.heap.size := by omega
  have g2 : w.heap.size + 1 + 1 < u1.heap.size := by omega
  go_wp2_with fail
  clear c1 d0 df g0 g2
  have HS1 : Hid (T3 w (u1.setCell ⟨w.heap.size + 1 + 1, 0, none⟩ (.slice ap2 s.ps.length kp2)) 40 46 #[.slice ap s.ps.length kp, .slice ae s.es.length ke, .int .i64 s.time, .int .i64 s.age] #[.slice none 0 0, .slice none 0 0, .int .i64 0, .int .i64 0] #[.slice ap2 s.ps.length kp2, .slice none 0 0, .int .i64 0, .int .i64 0]) := HT1.out.set 0 (.slice ap2 s.ps.length kp2)
  have hk : ∀ (x : World) (k o : Nat) (y : Value) (a : Nat), k ≠ a → (x.setCell ⟨a, o, none⟩ y).heap[k]? = x.heap[k]? := fun x k o y a h => Below.heap_setCell _ _ _ _ (by simpa using h)
  have HSp : Hid ((u1.setCell ⟨w.heap.size + 1 + 1, 0, none⟩ (.slice ap2 s.ps.length kp2)).ownsRow (w.heap.size + 3) 73 7 (.slice ap2 s.ps.length kp2) s.ps.length (pqR qs2)) := own_heap HRp.out (fun k hk2 => hk _ _ _ _ _ (by omega)) (Nat.le_refl _)
  have HSo : Hid (POown (u1.setCell ⟨w.heap.size + 1 + 1, 0, none⟩ (.slice ap2 s.ps.length kp2)) (w.heap.size + 3) qs2 s.ps s.ps.length) := HPO.out.heap (fun k hk2 => hk _ _ _ _ _ (by omega)) (Nat.le_refl _)
  generalize (u1.setCell ⟨w.heap.size + 1 + 1, 0, none⟩ (.slice ap2 s.ps.length kp2)) = V1 at *
  clear HT1 HRp HPO lt1
  refine Calls.mono (toSES_any (HR.out.se.below HS1.out.bel) le) ?_
  rintro e u2 ⟨v2, rfl, o2, hb2⟩
  obtain ⟨ae2, ke2, rfl⟩ := se_sl o2
  have HT2 : Hid (T3 w u2 40 46 #[.slice ap s.ps.length kp, .slice ae s.es.length ke, .int .i64 s.time, .int .i64 s.age] #[.slice none 0 0, .slice none 0 0, .int .i64 0, .int .i64 0] #[.slice ap2 s.ps.length kp2, .slice none 0 0, .int .i64 0, .int .i64 0]) := HS1.out.step hb2
  have HRp2 : Hid (u2.ownsRow (w.heap.size + 3) 73 7 (.slice ap2 s.ps.length kp2) s.ps.length (pqR qs2)) := pq_below HSp.out hb2
  have HPO2 : Hid (POown u2 (w.heap.size + 3) qs2 s.ps s.ps.length) := HSo.out.below hb2
  have HRe : Hid (u2.ownsRow (w.heap.size + 3) 75 4 (.slice ae2 s.es.length ke2) s.es.length (seR s.es)) := se_weak o2 (by have := HS1.out.lt; omega)
  clear o2 hb2 HS1 HSp HSo
  have c0 := celN HT2.out.b0 0 _ rfl
  have c1 := celN HT2.out.b0 1 _ rfl
  have c2 := celN HT2.out.b0 2 _ rfl
  have c3 := celN HT2.out.b0 3 _ rfl
  have d0 := celN HT2.out.b2 0 _ rfl
  have d1 := celN HT2.out.b2 1 _ rfl
  have d2 := celN HT2.out.b2 2 _ rfl
  have d3 := celN HT2.out.b2 3 _ rfl
  have k0 := celN HT2.out.b1 0 _ rfl
  have k1 := celN HT2.out.b1 1 _ rfl
  have k2 := celN HT2.out.b1 2 _ rfl
  have k3 := celN HT2.out.b1 3 _ rfl
  have df := frzN HT2.out.b2
  have kf := frzN HT2.out.b1
  have lt2 := HT2.out.lt
  have g0 : w.heap.size < u2.heap.size := by omega
  have g1 : w.heap.size + 1 < u2.heap.size := by omega
  have g2 : w.heap.size + 1 + 1 < u2.heap.size := by omega
  go_wp2
  refine bodyPost_ret (v := .agg #[.slice ap2 s.ps.length kp2, .slice ae2 s.es.length ke2, .int .i64 s.time, .int .i64 s.age]) ?_ rfl ⟨⟨.slice ap2 s.ps.length kp2, .slice ae2 s.es.length ke2, qs2⟩, rfl, ⟨PQrow.of (B := w.heap.size + 3) ?_, POown.inn (B := w.heap.size + 3) (HPO2.out.heap (fun k hk2 => ?_) (Nat.le_refl _)), SErow.of (B := w.heap.size + 3) (own_heap HRe.out (fun k hk2 => ?_) (Nat.le_refl _))⟩, ?_⟩
  · simp only [results, Try.results12, go_sem]
    simp [go_sem, k0, k1, k2, k3]
  · simp only
    rw [HQ2.out]
    refine own_heap HRp2.out (fun k hk2 => ?_) (Nat.le_refl _)
    repeat rw [hk _ _ _ _ _ (by omega)]
  · repeat rw [hk _ _ _ _ _ (by omega)]
  · repeat rw [hk _ _ _ _ _ (by omega)]
  · have hB := HT2.out.bel
    repeat refine Below.setCell ?_ (by simp only; omega) _
    exact hB
set_option maxRecDepth 100000 in
set_option maxHeartbeats 4000000 in
theorem eqSwitch_ok {w : World} {s : SW} {a a2 : SA} (h : SRows w s a) (h' : SRows w s a2) (hl : SLen s) : Calls Try.prog 14 #[swA s a, swA s a2] w fun e w' => e = .returned (.bool true) ∧ Below w.heap.size w w' := by
  have H1 : Hid (SRows w s a) := h
  have H2 : Hid (SRows w s a2) := h'
  obtain ⟨ap, kp, ae, ke, e⟩ := h.sl
  obtain ⟨aq, kq, af, kf, e'⟩ := h'.sl
  obtain ⟨lp, le⟩ := hl
  generalize a.qs = qs at e
  generalize a2.qs = qs2 at e'
  subst e e'
  clear h h'
  have n1 : (s.time != s.time) = false := by simp
  have n2 : (s.age != s.age) = false := by simp
  have HE0 : Hid (E2 w ((w.alloc (.cells #[.slice ap s.ps.length kp, .slice ae s.es.length ke, .int .i64 s.time, .int .i64 s.age] 46)).alloc (.cells #[.slice aq s.ps.length kq, .slice af s.es.length kf, .int .i64 s.time, .int .i64 s.age] 46)) 46 #[.slice ap s.ps.length kp, .slice ae s.es.length ke, .int .i64 s.time, .int .i64 s.age] #[.slice aq s.ps.length kq, .slice af s.es.length kf, .int .i64 s.time, .int .i64 s.age]) := E2.new _ _ _ _
  unfold swA swC
  simp only
  go_enter Try.func14, Try.ntmps14
  go_wp2_with fail
  generalize ((w.alloc (.cells #[.slice ap s.ps.length kp, .slice ae s.es.length ke, .int .i64 s.time, .int .i64 s.age] 46)).alloc (.cells #[.slice aq s.ps.length kq, .slice af s.es.length kf, .int .i64 s.time, .int .i64 s.age] 46)) = u0 at *
  refine Calls.mono (eqPortS_ok (H1.out.pq.below HE0.out.bel) (H1.out.po.below HE0.out.bel) (H2.out.pq.below HE0.out.bel) (H2.out.po.below HE0.out.bel) lp.len lp.el) ?_
  rintro e u1 ⟨rfl, hb1⟩
  have HE1 : Hid (E2 w u1 46 #[.slice ap s.ps.length kp, .slice ae s.es.length ke, .int .i64 s.time, .int .i64 s.age] #[.slice aq s.ps.length kq, .slice af s.es.length kf, .int .i64 s.time, .int .i64 s.age]) := HE0.out.step hb1
  clear hb1 HE0
  have c1 := celN HE1.out.b0 1 _ rfl
  have d1 := celN HE1.out.b1 1 _ rfl
  have lt := HE1.out.lt
  have lt0 : w.heap.size < u1.heap.size := by omega
  go_wp2_with fail
  clear c1 d1 lt lt0
  refine Calls.mono (eqSES_ok (H1.out.se.below HE1.out.bel) (H2.out.se.below HE1.out.bel) le) ?_
  rintro e u2 ⟨rfl, hb2⟩
  have HE2 : Hid (E2 w u2 46 #[.slice ap s.ps.length kp, .slice ae s.es.length ke, .int .i64 s.time, .int .i64 s.age] #[.slice aq s.ps.length kq, .slice af s.es.length kf, .int .i64 s.time, .int .i64 s.age]) := HE1.out.step hb2
  clear hb2 HE1
  have c2 := celN HE2.out.b0 2 _ rfl
  have c3 := celN HE2.out.b0 3 _ rfl
  have d2 := celN HE2.out.b1 2 _ rfl
  have d3 := celN HE2.out.b1 3 _ rfl
  have lt := HE2.out.lt
  have lt0 : w.heap.size < u2.heap.size := by omega
  go_wp2
  go_ret
  exact ⟨rfl, HE2.out.bel⟩
structure SMax (s : SW) : Prop where
  p : PMax s.ps
  e : s.es.length ≤ maxLen
set_option maxRecDepth 100000 in
set_option maxHeartbeats 4000000 in
theorem szSwitch_w {w : World} {s : SW} {a : SA} (h : SRows w s a) (hm : SMax s) : Calls Try.prog 10 #[swA s a, .int .i64 1048576] w fun e w' => ∃ q, e = .returned (.int .i64 q) ∧ -1 ≤ q ∧ (0 ≤ q → SLen s) ∧ Below w.heap.size w w' := by
  have H1 : Hid (SRows w s a) := h
  obtain ⟨ap, kp, ae, ke, e⟩ := h.sl
  obtain ⟨mp, me⟩ := hm
  generalize a.qs = qs at e
  subst e
  clear h
  have HL0 : Hid (LG w (w.alloc (.cells #[.slice ap s.ps.length kp, .slice ae s.es.length ke, .int .i64 s.time, .int .i64 s.age] 40)) w.heap.size #[.slice ap s.ps.length kp, .slice ae s.es.length ke, .int .i64 s.time, .int .i64 s.age] 40) := LG.new w _ _
  unfold swA swC
  simp only
  go_enter Try.func10, Try.ntmps10
  go_wp2_with fail
  generalize (w.alloc (.cells #[.slice ap s.ps.length kp, .slice ae s.es.length ke, .int .i64 s.time, .int .i64 s.age] 40)) = u0 at *
  generalize w.heap.size = b0 at *
  refine Calls.mono (szPortS_w (H1.out.pq.below HL0.out.bel) (H1.out.po.below HL0.out.bel) mp) ?_
  rintro e u1 ⟨q, rfl, q0, q1, hq, hu⟩
  have HL1 : Hid (LG w u1 b0 #[.slice ap s.ps.length kp, .slice ae s.es.length ke, .int .i64 s.time, .int .i64 s.age] 40) := HL0.out.step hu
  have HQ : Hid (0 ≤ q → PLen s.ps) := hq
  clear hu hq HL0
  have k1 := HL1.out.cel 1 _ rfl
  have kl := HL1.out.lt
  cases h3 : decide (q < 0)
  · have g3 := of_decide_eq_false h3
    go_wp2_with fail
    refine Calls.mono (szSES_any ae s.es.length ke q u1 (by omega) q1 me) ?_
    obtain ⟨r, hr, r0, r1⟩ : ∃ r : Int, (if q < (s.es.length : Int) then -1 else q - s.es.length) = r ∧ -1 ≤ r ∧ (0 ≤ r → s.es.length ≤ 1048576) := by
      refine ⟨_, rfl, ?_⟩
      split <;> omega
    rw [hr]
    rintro e u2 ⟨rfl, hw2⟩
    rw [hw2]
    clear hw2 hr
    have HR1 : Hid (0 ≤ r → s.es.length ≤ 1048576) := r1
    have HPL : Hid (PLen s.ps) := HQ.out (by omega)
    clear r1 h3 g3
    cases h4 : decide (r < 0)
    · have g4 := of_decide_eq_false h4
      go_wp2
      go_ret
      exact ⟨r, rfl, r0, fun hh => ⟨HPL.out, HR1.out hh⟩, HL1.out.bel⟩
    · go_wp2
      go_ret
      exact ⟨-1, rfl, by omega, fun hh => absurd hh (by omega), HL1.out.bel⟩
  · go_wp2
    go_ret
    exact ⟨-1, rfl, by omega, fun hh => absurd hh (by omega), HL1.out.bel⟩
end Go.Proofs.Ytefeahilamiiaaa
