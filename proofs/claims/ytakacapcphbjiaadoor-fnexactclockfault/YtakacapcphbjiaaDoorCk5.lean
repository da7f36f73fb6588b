import Derived.Test.YtakacapcphbjiaaDoorCk2
namespace Go.Proofs.YtakacapcphbjiaaDoor
open Go.ChangeShapes Go.WideShapes Go.ChangeAt Go.RowKit

theorem blk_set {u : World} {b : Nat} {cs : Array Value} {t : TypeId} {z : Nat × Nat} (h : u.heap[b]? = some (.cells cs t z)) (o : Nat) (v : Value) : (u.setCell ⟨b, o, none⟩ v).heap[b]? = some (.cells (cs.setIfInBounds o v) t z) := by
  simp [World.setCell, Array.getElem?_modify, h]
/-- A copy under way: the argument's box, the answer's, and the one at work. -/
structure T3 (w u : World) (t t2 : TypeId) (A Z out : Array Value) : Prop where
  bel : Below w.heap.size w u
  b0 : u.heap[w.heap.size]? = some (.cells A t (0, 0))
  b1 : u.heap[w.heap.size + 1]? = some (.cells Z t2 (0, 0))
  b2 : u.heap[w.heap.size + 1 + 1]? = some (.cells out t2 (0, 0))
theorem T3.lt {w u : World} {t t2 : TypeId} {A Z out : Array Value} (h : T3 w u t t2 A Z out) : w.heap.size + 1 + 1 < u.heap.size := (Array.getElem?_eq_some_iff.1 h.b2).1
theorem T3.step {w u u' : World} {t t2 : TypeId} {A Z out : Array Value} (h : T3 w u t t2 A Z out) (hb : Below u.heap.size u u') : T3 w u' t t2 A Z out := by
  have := h.lt
  exact ⟨h.bel.trans (hb.mono h.bel.size), (hb.block _ (by omega)).trans h.b0, (hb.block _ (by omega)).trans h.b1, (hb.block _ (by omega)).trans h.b2⟩
theorem T3.set {w u : World} {t t2 : TypeId} {A Z out : Array Value} (h : T3 w u t t2 A Z out) (o : Nat) (v : Value) : T3 w (u.setCell ⟨w.heap.size + 1 + 1, o, none⟩ v) t t2 A Z (out.setIfInBounds o v) :=
  ⟨h.bel.setCell (by simp only; omega) _, (Below.heap_setCell _ _ _ _ (by simp only; omega)).trans h.b0, (Below.heap_setCell _ _ _ _ (by simp only; omega)).trans h.b1, blk_set h.b2 o v⟩
theorem T3.new (w : World) (t t2 : TypeId) (A Z out : Array Value) : T3 w (((w.alloc (.cells A t)).alloc (.cells Z t2)).alloc (.cells out t2)) t t2 A Z out := by
  have h0 : (((w.alloc (.cells A t)).alloc (.cells Z t2)).alloc (.cells out t2)).heap[w.heap.size]? = some (.cells A t) := by
    rw [Below.heap_alloc _ _ _ (by simp; omega), Below.heap_alloc _ _ _ (by simp)]
    exact heap_new _ _
  have h1 : (((w.alloc (.cells A t)).alloc (.cells Z t2)).alloc (.cells out t2)).heap[w.heap.size + 1]? = some (.cells Z t2) := by
    rw [Below.heap_alloc _ _ _ (by simp)]
    simpa using heap_new (w.alloc (.cells A t)) (.cells Z t2)
  have h2 : (((w.alloc (.cells A t)).alloc (.cells Z t2)).alloc (.cells out t2)).heap[w.heap.size + 1 + 1]? = some (.cells out t2) := by simpa using heap_new ((w.alloc (.cells A t)).alloc (.cells Z t2)) (.cells out t2)
  exact ⟨(((Below.refl _ _).alloc (Nat.le_refl _) _).alloc (by simp) _).alloc (by simp; omega) _, h0, h1, h2⟩
/-- A new row persists while the copy is at work. -/
theorem own_setT {w u : World} {e size n : Nat} {v x : Value} {xs : List Value} {lo o : Nat} (h : u.ownsRow lo e size v n xs) (hlo : w.heap.size + 1 + 1 < lo) : (u.setCell ⟨w.heap.size + 1 + 1, o, none⟩ x).ownsRow lo e size v n xs :=
  own_set h (fun e => by have := (h.lt _ e).1; simp at this; omega)
theorem own_heap {u U : World} {lo lo' e size n : Nat} {v : Value} {xs : List Value} (h : u.ownsRow lo e size v n xs) (he : ∀ k, lo ≤ k → U.heap[k]? = u.heap[k]?) (hl : lo' ≤ lo) : U.ownsRow lo' e size v n xs := by
  obtain ⟨h1, h | ⟨g, cap, cur, hv, hg, h2, h3⟩⟩ := h
  · exact ⟨h1, .inl h⟩
  · exact ⟨h1, .inr ⟨g, cap, cur, hv, Nat.le_trans hl hg, (he g hg).trans h2, h3⟩⟩
theorem own_weak {w : World} {B B' : Nat} {e : TypeId} {s : Nat} {v : Value} {n : Nat} {xs : List Value} (h : w.ownsRow B e s v n xs) (hb : B' ≤ B) : w.ownsRow B' e s v n xs := by
  obtain ⟨hl, h | ⟨g, cap, cur, hv, hg, h1, h2, h3, h4, h5⟩⟩ := h
  · exact ⟨hl, .inl h⟩
  · exact ⟨hl, .inr ⟨g, cap, cur, hv, Nat.le_trans hb hg, h1, h2, h3, h4, h5⟩⟩
theorem cel7 {u : World} {b t : Nat} {a0 a1 a2 a3 a4 a5 a6 : Value} (h : u.heap[b]? = some (.cells #[a0, a1, a2, a3, a4, a5, a6] t (0, 0))) : u.cell? ⟨b, 0, none⟩ = some a0 ∧ u.cell? ⟨b, 1, none⟩ = some a1 ∧ u.cell? ⟨b, 2, none⟩ = some a2 ∧ u.cell? ⟨b, 3, none⟩ = some a3 ∧ u.cell? ⟨b, 4, none⟩ = some a4 ∧ u.cell? ⟨b, 5, none⟩ = some a5 ∧ u.cell? ⟨b, 6, none⟩ = some a6 ∧ ∀ x, u.frozen? ⟨b, x, none⟩ = false := by
  simp [World.cell?, World.frozen?, h]
theorem st7 {B : Nat} {w u : World} {b : Nat} {t : TypeId} {a0 a1 a2 a3 a4 a5 a6 : Value} (hb : Below B w u) (hB : B ≤ b) (h : u.heap[b]? = some (.cells #[a0, a1, a2, a3, a4, a5, a6] t (0, 0))) (v0 v1 v2 v3 v4 v5 v6 : Value) {U : World}
    (hU : ((((((u.setCell ⟨b, 0, none⟩ v0).setCell ⟨b, 1, none⟩ v1).setCell ⟨b, 2, none⟩ v2).setCell ⟨b, 3, none⟩ v3).setCell ⟨b, 4, none⟩ v4).setCell ⟨b, 5, none⟩ v5).setCell ⟨b, 6, none⟩ v6 = U) : Below B w U ∧ U.heap[b]? = some (.cells #[v0, v1, v2, v3, v4, v5, v6] t (0, 0)) ∧ (∀ k, k ≠ b → U.heap[k]? = u.heap[k]?) := by
  subst hU
  refine ⟨?_, ?_, fun k hk => ?_⟩
  · exact ((((((hb.setCell (p := ⟨b, 0, none⟩) hB _).setCell (p := ⟨b, 1, none⟩) hB _).setCell (p := ⟨b, 2, none⟩) hB _).setCell (p := ⟨b, 3, none⟩) hB _).setCell (p := ⟨b, 4, none⟩) hB _).setCell (p := ⟨b, 5, none⟩) hB _).setCell (p := ⟨b, 6, none⟩) hB _
  · have k0 : (u.setCell ⟨b, 0, none⟩ v0).heap[b]? = some (.cells #[v0, a1, a2, a3, a4, a5, a6] t (0, 0)) := blk_set h 0 v0
    have k1 : ((u.setCell ⟨b, 0, none⟩ v0).setCell ⟨b, 1, none⟩ v1).heap[b]? = some (.cells #[v0, v1, a2, a3, a4, a5, a6] t (0, 0)) := blk_set k0 1 v1
    have k2 : (((u.setCell ⟨b, 0, none⟩ v0).setCell ⟨b, 1, none⟩ v1).setCell ⟨b, 2, none⟩ v2).heap[b]? = some (.cells #[v0, v1, v2, a3, a4, a5, a6] t (0, 0)) := blk_set k1 2 v2
    have k3 : ((((u.setCell ⟨b, 0, none⟩ v0).setCell ⟨b, 1, none⟩ v1).setCell ⟨b, 2, none⟩ v2).setCell ⟨b, 3, none⟩ v3).heap[b]? = some (.cells #[v0, v1, v2, v3, a4, a5, a6] t (0, 0)) := blk_set k2 3 v3
    have k4 : (((((u.setCell ⟨b, 0, none⟩ v0).setCell ⟨b, 1, none⟩ v1).setCell ⟨b, 2, none⟩ v2).setCell ⟨b, 3, none⟩ v3).setCell ⟨b, 4, none⟩ v4).heap[b]? = some (.cells #[v0, v1, v2, v3, v4, a5, a6] t (0, 0)) := blk_set k3 4 v4
    have k5 : ((((((u.setCell ⟨b, 0, none⟩ v0).setCell ⟨b, 1, none⟩ v1).setCell ⟨b, 2, none⟩ v2).setCell ⟨b, 3, none⟩ v3).setCell ⟨b, 4, none⟩ v4).setCell ⟨b, 5, none⟩ v5).heap[b]? = some (.cells #[v0, v1, v2, v3, v4, v5, a6] t (0, 0)) := blk_set k4 5 v5
    have k6 : (((((((u.setCell ⟨b, 0, none⟩ v0).setCell ⟨b, 1, none⟩ v1).setCell ⟨b, 2, none⟩ v2).setCell ⟨b, 3, none⟩ v3).setCell ⟨b, 4, none⟩ v4).setCell ⟨b, 5, none⟩ v5).setCell ⟨b, 6, none⟩ v6).heap[b]? = some (.cells #[v0, v1, v2, v3, v4, v5, v6] t (0, 0)) := blk_set k5 6 v6
    exact k6
  · exact (Below.heap_setCell _ _ _ _ hk).trans ((Below.heap_setCell _ _ _ _ hk).trans ((Below.heap_setCell _ _ _ _ hk).trans ((Below.heap_setCell _ _ _ _ hk).trans ((Below.heap_setCell _ _ _ _ hk).trans ((Below.heap_setCell _ _ _ _ hk).trans (Below.heap_setCell _ _ _ _ hk))))))
set_option maxRecDepth 100000 in
set_option maxHeartbeats 4000000 in
theorem toClock_any {w : World} {c : CK} {v : Value} (h : TMrow w v c.ts) (hl : c.ts.length ≤ 1048576) : Calls Tryd.prog 8 #[ckA c v] w fun e w' => ∃ u, e = .returned (ckA c u) ∧ w'.ownsRow (w.heap.size + 3) 51 3 u c.ts.length (tiR c.ts) ∧ Below w.heap.size w w' := by
  obtain ⟨ao, cap, rfl⟩ := h.sl
  have HT0 : Hid (T3 w (((w.alloc (.cells #[.int .i64 c.host, .int .i64 c.guest, .int .i64 c.num, .int .i64 c.den, .int .i64 c.part, .bool c.frz, .slice ao c.ts.length cap] 24)).alloc (.cells #[.int .i64 0, .int .i64 0, .int .i64 0, .int .i64 0, .int .i64 0, .bool false, .slice none 0 0] 29)).alloc (.cells #[.int .i64 c.host, .int .i64 c.guest, .int .i64 c.num, .int .i64 c.den, .int .i64 c.part, .bool c.frz, .slice none 0 0] 29)) 24 29 #[.int .i64 c.host, .int .i64 c.guest, .int .i64 c.num, .int .i64 c.den, .int .i64 c.part, .bool c.frz, .slice ao c.ts.length cap] #[.int .i64 0, .int .i64 0, .int .i64 0, .int .i64 0, .int .i64 0, .bool false, .slice none 0 0] #[.int .i64 c.host, .int .i64 c.guest, .int .i64 c.num, .int .i64 c.den, .int .i64 c.part, .bool c.frz, .slice none 0 0]) := T3.new _ _ _ _ _ _
  have HR : Hid (TMrow w (.slice ao c.ts.length cap) c.ts) := h
  clear h
  unfold ckA
  go_enter Tryd.func8, Tryd.ntmps8
  go_wp2_with fail
  generalize (((w.alloc (.cells #[.int .i64 c.host, .int .i64 c.guest, .int .i64 c.num, .int .i64 c.den, .int .i64 c.part, .bool c.frz, .slice ao c.ts.length cap] 24)).alloc (.cells #[.int .i64 0, .int .i64 0, .int .i64 0, .int .i64 0, .int .i64 0, .bool false, .slice none 0 0] 29)).alloc (.cells #[.int .i64 c.host, .int .i64 c.guest, .int .i64 c.num, .int .i64 c.den, .int .i64 c.part, .bool c.frz, .slice none 0 0] 29)) = u0 at *
  refine Calls.mono (toTMS_any (HR.out.below HT0.out.bel) hl) ?_
  rintro e u1 ⟨v1, rfl, o1, hb1⟩
  obtain ⟨a2, k2, rfl⟩ := ti_sl o1
  have HT1 : Hid (T3 w u1 24 29 #[.int .i64 c.host, .int .i64 c.guest, .int .i64 c.num, .int .i64 c.den, .int .i64 c.part, .bool c.frz, .slice ao c.ts.length cap] #[.int .i64 0, .int .i64 0, .int .i64 0, .int .i64 0, .int .i64 0, .bool false, .slice none 0 0] #[.int .i64 c.host, .int .i64 c.guest, .int .i64 c.num, .int .i64 c.den, .int .i64 c.part, .bool c.frz, .slice none 0 0]) := HT0.out.step hb1
  have HRp : Hid (u1.ownsRow (w.heap.size + 3) 51 3 (.slice a2 c.ts.length k2) c.ts.length (tiR c.ts)) := own_weak o1 (by have := HT0.out.lt; omega)
  clear o1 hb1 HT0
  obtain ⟨c0, c1, c2, c3, c4, c5, c6, _⟩ := cel7 HT1.out.b0
  obtain ⟨d0, d1, d2, d3, d4, d5, d6, df⟩ := cel7 HT1.out.b2
  obtain ⟨k0, k1, k2', k3, k4, k5, k6, kf⟩ := cel7 HT1.out.b1
  have lt1 := HT1.out.lt
  have g0 : w.heap.size < u1.heap.size := by omega
  have g1 : w.heap.size + 1 < u1.heap.size := by omega
  have g2 : w.heap.size + 1 + 1 < u1.heap.size := by omega
  go_wp2
  have hb2 : Below w.heap.size w (u1.setCell ⟨w.heap.size + 1 + 1, 6, none⟩ (.slice a2 c.ts.length k2)) := HT1.out.bel.setCell (by simp only; omega) _
  have hbx : (u1.setCell ⟨w.heap.size + 1 + 1, 6, none⟩ (.slice a2 c.ts.length k2)).heap[w.heap.size + 1]? = some (.cells #[.int .i64 0, .int .i64 0, .int .i64 0, .int .i64 0, .int .i64 0, .bool false, .slice none 0 0] 29 (0, 0)) := (Below.heap_setCell _ _ _ _ (by simp only; omega)).trans HT1.out.b1
  obtain ⟨e1, e2, e3⟩ := st7 hb2 (by omega) hbx (.int .i64 c.host) (.int .i64 c.guest) (.int .i64 c.num) (.int .i64 c.den) (.int .i64 c.part) (.bool c.frz) (.slice a2 c.ts.length k2) rfl
  have e5 := fun k (hk : w.heap.size + 3 ≤ k) => (e3 k (by omega)).trans (Below.heap_setCell u1 ⟨w.heap.size + 1 + 1, 6, none⟩ (.slice a2 c.ts.length k2) k (by simp only; omega))
  obtain ⟨f0, f1, f2, f3, f4, f5, f6, _⟩ := cel7 e2
  refine bodyPost_ret (v := .agg #[.int .i64 c.host, .int .i64 c.guest, .int .i64 c.num, .int .i64 c.den, .int .i64 c.part, .bool c.frz, .slice a2 c.ts.length k2]) ?_ rfl ⟨_, rfl, own_heap HRp.out e5 (Nat.le_refl _), e1⟩
  clear e5 e3 e1 hbx hb2 HT1 HRp e2 c0 c1 c2 c3 c4 c5 c6 d0 d1 d2 d3 d4 d5 d6 df k0 k1 k2' k3 k4 k5 k6 kf
  simp only [results, Tryd.results8, go_sem]
  simp [go_sem, f0, f1, f2, f3, f4, f5, f6]
def szK (c : CK) : Bool := decide ((c.ts.length : Int) ≤ 1048576)
set_option maxRecDepth 100000 in
set_option maxHeartbeats 4000000 in
theorem szClock_any {w : World} {c : CK} {v : Value} (h : TMrow w v c.ts) (hm : c.ts.length ≤ maxLen) : Calls Tryd.prog 6 #[ckA c v, .int .i64 1048576] w fun e w' => ∃ q, e = .returned (.int .i64 q) ∧ decide (q < 0) = !szK c ∧ Below w.heap.size w w' := by
  obtain ⟨ao, cap, rfl⟩ := h.sl
  have HB : Hid (Below w.heap.size w (w.alloc (.cells #[.int .i64 c.host, .int .i64 c.guest, .int .i64 c.num, .int .i64 c.den, .int .i64 c.part, .bool c.frz, .slice ao c.ts.length cap] 24))) := bx1 _ _
  obtain ⟨l0, hl0⟩ : ∃ l : Int, l = 1048576 := ⟨_, rfl⟩
  rw [← hl0]
  have HZ1 : Hid _ := fun w' => szTMS_any ao c.ts.length cap l0 w' (by omega) (by omega) hm
  unfold ckA
  by_cases t1 : l0 < (c.ts.length : Int)
  · rw [if_pos t1] at HZ1
    have HD : Hid (decide ((-1 : Int) < 0) = !szK c) := (show decide ((-1 : Int) < 0) = !szK c by unfold szK; rw [decide_eq_false (show ¬ (c.ts.length : Int) ≤ 1048576 by omega)]; rfl)
    clear hm h hl0
    go_enter Tryd.func6, Tryd.ntmps6
    go_wp2_with (go_at_call 23; refine Calls.mono (HZ1.out _) ?_; rintro e u1 ⟨rfl, hu1⟩; rw [hu1]; clear hu1)
    go_ret
    exact ⟨_, rfl, HD.out, HB.out⟩
  · rw [if_neg t1] at HZ1
    obtain ⟨l2, hl2⟩ : ∃ l2 : Int, l2 = l0 - c.ts.length := ⟨_, rfl⟩
    rw [← hl2] at HZ1
    have hl3 : ¬ l2 < 0 := by omega
    have hl3' : decide (l2 < 0) = false := decide_eq_false hl3
    have HD : Hid (decide (l2 < 0) = !szK c) := (show decide (l2 < 0) = !szK c by unfold szK; rw [hl3', decide_eq_true (show (c.ts.length : Int) ≤ 1048576 by omega)]; rfl)
    clear hm h hl0 hl2 t1
    go_enter Tryd.func6, Tryd.ntmps6
    go_wp2_with (go_at_call 23; refine Calls.mono (HZ1.out _) ?_; rintro e u1 ⟨rfl, hu1⟩; rw [hu1]; clear hu1)
    go_ret
    exact ⟨_, rfl, HD.out, HB.out⟩
set_option maxRecDepth 100000 in
set_option maxHeartbeats 4000000 in
theorem eqClock_ok {w : World} {c : CK} {v u : Value} (h : TMrow w v c.ts) (h' : TMrow w u c.ts) (hl : c.ts.length ≤ 1048576) : Calls Tryd.prog 10 #[ckA c v, ckA c u] w fun e w' => e = .returned (.bool true) ∧ Below w.heap.size w w' := by
  obtain ⟨ao, cap, rfl⟩ := h.sl
  obtain ⟨ap, kap, rfl⟩ := h'.sl
  have HR : Hid (TMrow w (.slice ao c.ts.length cap) c.ts) := h
  have HR' : Hid (TMrow w (.slice ap c.ts.length kap) c.ts) := h'
  clear h h'
  have HB : Hid (Below w.heap.size w ((w.alloc (.cells #[.int .i64 c.host, .int .i64 c.guest, .int .i64 c.num, .int .i64 c.den, .int .i64 c.part, .bool c.frz, .slice ao c.ts.length cap] 29)).alloc (.cells #[.int .i64 c.host, .int .i64 c.guest, .int .i64 c.num, .int .i64 c.den, .int .i64 c.part, .bool c.frz, .slice ap c.ts.length kap] 29))) := ((Below.refl _ _).alloc (Nat.le_refl _) _).alloc (by simp) _
  unfold ckA
  go_enter Tryd.func10, Tryd.ntmps10
  go_wp2_with fail
  generalize ((w.alloc (.cells #[.int .i64 c.host, .int .i64 c.guest, .int .i64 c.num, .int .i64 c.den, .int .i64 c.part, .bool c.frz, .slice ao c.ts.length cap] 29)).alloc (.cells #[.int .i64 c.host, .int .i64 c.guest, .int .i64 c.num, .int .i64 c.den, .int .i64 c.part, .bool c.frz, .slice ap c.ts.length kap] 29)) = u0 at *
  refine Calls.mono (eqTMS_ok (HR.out.below HB.out) (HR'.out.below HB.out) hl) ?_
  rintro e u1 ⟨rfl, hb⟩
  have HB1 : Hid (Below w.heap.size w u1) := HB.out.trans (hb.mono HB.out.size)
  clear hb
  go_wp2_with fail
  go_ret
  exact ⟨rfl, HB1.out⟩
end Go.Proofs.YtakacapcphbjiaaDoor
