import Derived.Test.YtomfbiiegcmmlaaGreatJlZ
namespace Go.Proofs.YtomfbiiegcmmlaaGreat
open Go.ChangeShapes Go.WideShapes Go.ChangeAt Go.RowKit

set_option maxRecDepth 100000
theorem IOwn.heap {u U : World} {lo lo' : Nat} {m : IM} {a : IA} (x : IOwn u lo m a) (he : ∀ k, lo ≤ k → U.heap[k]? = u.heap[k]?) (hl : lo' ≤ lo) : IOwn U lo' m a := ⟨own_heap x.t he hl, own_heap x.d he hl, own_heap x.sn he hl, x.si.heap he hl⟩
theorem IGown.heap {u U : World} {lo lo' : Nat} {gs : List IG} {ms : List IM} {k : Nat} (h : IGown u lo gs ms k) (he : ∀ k, lo ≤ k → U.heap[k]? = u.heap[k]?) (hl : lo' ≤ lo) : IGown U lo' gs ms k :=
  ⟨h.len, fun j hq hc hj => ⟨(h.el j hq hc hj).1, (h.el j hq hc hj).2.1, (h.el j hq hc hj).2.2.imp fun _ x => x.heap he hl⟩, h.rest⟩
theorem st6 {B : Nat} {w u : World} {b : Nat} {t : TypeId} {a0 a1 a2 a3 a4 a5 : Value} (hb : Below B w u) (hB : B ≤ b) (h : u.heap[b]? = some (.cells #[a0, a1, a2, a3, a4, a5] t (0, 0))) (v0 v1 v2 v3 v4 v5 : Value) {U : World}
    (hU : (((((u.setCell ⟨b, 0, none⟩ v0).setCell ⟨b, 1, none⟩ v1).setCell ⟨b, 2, none⟩ v2).setCell ⟨b, 3, none⟩ v3).setCell ⟨b, 4, none⟩ v4).setCell ⟨b, 5, none⟩ v5 = U) : Below B w U ∧ U.heap[b]? = some (.cells #[v0, v1, v2, v3, v4, v5] t (0, 0)) ∧ (∀ k, k ≠ b → U.heap[k]? = u.heap[k]?) := by
  subst hU
  refine ⟨?_, ?_, fun k hk => ?_⟩
  · exact (((((hb.setCell (p := ⟨b, 0, none⟩) hB _).setCell (p := ⟨b, 1, none⟩) hB _).setCell (p := ⟨b, 2, none⟩) hB _).setCell (p := ⟨b, 3, none⟩) hB _).setCell (p := ⟨b, 4, none⟩) hB _).setCell (p := ⟨b, 5, none⟩) hB _
  · exact blk_set (blk_set (blk_set (blk_set (blk_set (blk_set h 0 v0) 1 v1) 2 v2) 3 v3) 4 v4) 5 v5
  · exact (Below.heap_setCell _ _ _ _ hk).trans ((Below.heap_setCell _ _ _ _ hk).trans ((Below.heap_setCell _ _ _ _ hk).trans ((Below.heap_setCell _ _ _ _ hk).trans ((Below.heap_setCell _ _ _ _ hk).trans (Below.heap_setCell _ _ _ _ hk)))))
/-- A new state's rows. -/
structure JOwn (w : World) (B : Nat) (s : JS) (v : Value) (gs : List IG) : Prop where
  row : w.ownsRow B 68 5 v gs.length (igR gs)
  inn : IGown w B gs s.ms s.ms.length
theorem JOwn.below {w w' : World} {B : Nat} {s : JS} {v : Value} {gs : List IG} (h : JOwn w B s v gs) (hb : Below w.heap.size w w') : JOwn w' B s v gs := ⟨own_below h.row hb, h.inn.below hb⟩
theorem JOwn.heap {u U : World} {lo lo' : Nat} {s : JS} {v : Value} {gs : List IG} (x : JOwn u lo s v gs) (he : ∀ k, lo ≤ k → U.heap[k]? = u.heap[k]?) (hl : lo' ≤ lo) : JOwn U lo' s v gs := ⟨own_heap x.row he hl, x.inn.heap he hl⟩
theorem IGown.weak {w : World} {lo lo' : Nat} {gs : List IG} {ms : List IM} {k : Nat} (h : IGown w lo gs ms k) (hl : lo' ≤ lo) : IGown w lo' gs ms k := h.heap (fun _ _ => rfl) hl
set_option maxHeartbeats 4000000 in
theorem toJobState_any {w : World} {s : JS} {v : Value} {gs : List IG} (h : IGrow w v gs) (hi : IGin w gs s.ms) (hL : JLen s) : Calls Tryz.prog 8 #[jsA v s.a s.j] w fun e w' => ∃ v2 gs2, e = .returned (jsA v2 s.a s.j) ∧ JOwn w' (w.heap.size + 3) s v2 gs2 ∧ Below w.heap.size w w' := by
  obtain ⟨ao, cap, rfl⟩ := h.sl
  have H1 : Hid (IGrow w (.slice ao gs.length cap) gs) := h
  have H2 : Hid (IGin w gs s.ms) := hi
  have HL : Hid (JLen s) := hL
  have HT0 : Hid (T3 w (((w.alloc (.cells #[.slice ao gs.length cap, .string s.a, .int .i64 s.j.k, .int .i64 s.j.x, .string s.j.d, .string s.j.g] 26)).alloc (.cells #[.slice none 0 0, .string ⟨#[]⟩, .int .i64 0, .int .i64 0, .string ⟨#[]⟩, .string ⟨#[]⟩] 32)).alloc (.cells #[.slice none 0 0, .string ⟨#[]⟩, .int .i64 0, .int .i64 0, .string ⟨#[]⟩, .string ⟨#[]⟩] 32)) 26 32 #[.slice ao gs.length cap, .string s.a, .int .i64 s.j.k, .int .i64 s.j.x, .string s.j.d, .string s.j.g] #[.slice none 0 0, .string ⟨#[]⟩, .int .i64 0, .int .i64 0, .string ⟨#[]⟩, .string ⟨#[]⟩] #[.slice none 0 0, .string ⟨#[]⟩, .int .i64 0, .int .i64 0, .string ⟨#[]⟩, .string ⟨#[]⟩]) := T3.new _ _ _ _ _ _
  have HTJ : Hid (∀ u, Calls Tryz.prog 33 #[.agg #[.int .i64 s.j.k, .int .i64 s.j.x, .string s.j.d, .string s.j.g]] u fun e w' => e = .returned (.agg #[.int .i64 s.j.k, .int .i64 s.j.x, .string s.j.d, .string s.j.g]) ∧ Below u.heap.size u w') := fun u => toJob_any s.j u
  clear h hi hL
  unfold jsA
  go_enter Tryz.func8, Tryz.ntmps8
  go_wp2_with fail
  generalize (((w.alloc (.cells #[.slice ao gs.length cap, .string s.a, .int .i64 s.j.k, .int .i64 s.j.x, .string s.j.d, .string s.j.g] 26)).alloc (.cells #[.slice none 0 0, .string ⟨#[]⟩, .int .i64 0, .int .i64 0, .string ⟨#[]⟩, .string ⟨#[]⟩] 32)).alloc (.cells #[.slice none 0 0, .string ⟨#[]⟩, .int .i64 0, .int .i64 0, .string ⟨#[]⟩, .string ⟨#[]⟩] 32)) = u0 at *
  refine Calls.mono (toImageS_any (H1.out.below HT0.out.bel) (H2.out.below HT0.out.bel) HL.out.l HL.out.m) ?_
  rintro e u1 ⟨v1, gs2, rfl, o1, p1, hb1⟩
  obtain ⟨al2, kl2, rfl⟩ := ig_sl o1
  have HT1 : Hid (T3 w u1 26 32 #[.slice ao gs.length cap, .string s.a, .int .i64 s.j.k, .int .i64 s.j.x, .string s.j.d, .string s.j.g] #[.slice none 0 0, .string ⟨#[]⟩, .int .i64 0, .int .i64 0, .string ⟨#[]⟩, .string ⟨#[]⟩] #[.slice none 0 0, .string ⟨#[]⟩, .int .i64 0, .int .i64 0, .string ⟨#[]⟩, .string ⟨#[]⟩]) := HT0.out.step hb1
  have HO1 : Hid (JOwn u1 (w.heap.size + 3) s (.slice al2 gs2.length kl2) gs2) := ⟨own_weak o1 (by have := HT0.out.lt; omega), p1.weak (by have := HT0.out.lt; omega)⟩
  clear o1 p1 hb1 HT0 HL
  obtain ⟨c0, c1, c2, c3, c4, c5, _⟩ := cel6 HT1.out.b0
  obtain ⟨d0, d1, d2, d3, d4, d5, df⟩ := cel6 HT1.out.b2
  have lt1 := HT1.out.lt
  have g0 : w.heap.size < u1.heap.size := by omega
  have g2 : w.heap.size + 1 + 1 < u1.heap.size := by omega
  go_wp2_with fail
  clear c0 c1 c2 c3 c4 c5 d0 d1 d2 d3 d4 d5 df g0 g2
  have HS1 : Hid (T3 w ((u1.setCell ⟨w.heap.size + 1 + 1, 0, none⟩ (.slice al2 gs2.length kl2)).setCell ⟨w.heap.size + 1 + 1, 1, none⟩ (.string s.a)) 26 32 #[.slice ao gs.length cap, .string s.a, .int .i64 s.j.k, .int .i64 s.j.x, .string s.j.d, .string s.j.g] #[.slice none 0 0, .string ⟨#[]⟩, .int .i64 0, .int .i64 0, .string ⟨#[]⟩, .string ⟨#[]⟩] #[.slice al2 gs2.length kl2, .string s.a, .int .i64 0, .int .i64 0, .string ⟨#[]⟩, .string ⟨#[]⟩]) := (HT1.out.set 0 (.slice al2 gs2.length kl2)).set 1 (.string s.a)
  have HO2 : Hid (JOwn ((u1.setCell ⟨w.heap.size + 1 + 1, 0, none⟩ (.slice al2 gs2.length kl2)).setCell ⟨w.heap.size + 1 + 1, 1, none⟩ (.string s.a)) (w.heap.size + 3) s (.slice al2 gs2.length kl2) gs2) := HO1.out.heap (fun k hk => (Below.heap_setCell _ _ _ _ (by simp only; omega)).trans (Below.heap_setCell _ _ _ _ (by simp only; omega))) (Nat.le_refl _)
  generalize ((u1.setCell ⟨w.heap.size + 1 + 1, 0, none⟩ (.slice al2 gs2.length kl2)).setCell ⟨w.heap.size + 1 + 1, 1, none⟩ (.string s.a)) = V1 at *
  refine Calls.mono (HTJ.out _) ?_
  rintro e u3 ⟨rfl, hb3⟩
  have HT3 : Hid _ := HS1.out.step hb3
  have HO3 : Hid (JOwn u3 (w.heap.size + 3) s (.slice al2 gs2.length kl2) gs2) := HO2.out.below hb3
  clear hb3 HS1 HO2 HO1 HT1 lt1
  obtain ⟨c0, c1, c2, c3, c4, c5, _⟩ := cel6 HT3.out.b0
  obtain ⟨d0, d1, d2, d3, d4, d5, df⟩ := cel6 HT3.out.b2
  obtain ⟨k0, k1, k2, k3, k4, k5, kf⟩ := cel6 HT3.out.b1
  have lt2 := HT3.out.lt
  have g0 : w.heap.size < u3.heap.size := by omega
  have g1 : w.heap.size + 1 < u3.heap.size := by omega
  have g2 : w.heap.size + 1 + 1 < u3.heap.size := by omega
  go_wp2
  have hb2 : Below w.heap.size w ((((u3.setCell ⟨w.heap.size + 1 + 1, 2, none⟩ (.int .i64 s.j.k)).setCell ⟨w.heap.size + 1 + 1, 3, none⟩ (.int .i64 s.j.x)).setCell ⟨w.heap.size + 1 + 1, 4, none⟩ (.string s.j.d)).setCell ⟨w.heap.size + 1 + 1, 5, none⟩ (.string s.j.g)) := (((HT3.out.bel.setCell (p := ⟨w.heap.size + 1 + 1, 2, none⟩) (by simp only; omega) _).setCell (p := ⟨w.heap.size + 1 + 1, 3, none⟩) (by simp only; omega) _).setCell (p := ⟨w.heap.size + 1 + 1, 4, none⟩) (by simp only; omega) _).setCell (p := ⟨w.heap.size + 1 + 1, 5, none⟩) (by simp only; omega) _
  have hh : ∀ k, k ≠ w.heap.size + 1 + 1 → ((((u3.setCell ⟨w.heap.size + 1 + 1, 2, none⟩ (.int .i64 s.j.k)).setCell ⟨w.heap.size + 1 + 1, 3, none⟩ (.int .i64 s.j.x)).setCell ⟨w.heap.size + 1 + 1, 4, none⟩ (.string s.j.d)).setCell ⟨w.heap.size + 1 + 1, 5, none⟩ (.string s.j.g)).heap[k]? = u3.heap[k]? := fun k hk => (Below.heap_setCell _ _ _ _ hk).trans ((Below.heap_setCell _ _ _ _ hk).trans ((Below.heap_setCell _ _ _ _ hk).trans (Below.heap_setCell _ _ _ _ hk)))
  have hbx := (hh (w.heap.size + 1) (by omega)).trans HT3.out.b1
  obtain ⟨e1, e2, e3⟩ := st6 hb2 (by omega) hbx (.slice al2 gs2.length kl2) (.string s.a) (.int .i64 s.j.k) (.int .i64 s.j.x) (.string s.j.d) (.string s.j.g) rfl
  have e5 := fun k (hk : w.heap.size + 3 ≤ k) => (e3 k (by omega)).trans (hh k (by omega))
  obtain ⟨f0, f1, f2, f3, f4, f5, _⟩ := cel6 e2
  refine bodyPost_ret (v := .agg #[.slice al2 gs2.length kl2, .string s.a, .int .i64 s.j.k, .int .i64 s.j.x, .string s.j.d, .string s.j.g]) ?_ rfl ⟨_, gs2, rfl, HO3.out.heap e5 (Nat.le_refl _), e1⟩
  clear e5 e3 e1 hbx hb2 hh HT3 HO3 e2 c0 c1 c2 c3 c4 c5 d0 d1 d2 d3 d4 d5 df k0 k1 k2 k3 k4 k5 kf
  simp only [results, Tryz.results8, go_sem]
  simp [go_sem, f0, f1, f2, f3, f4, f5]
set_option maxHeartbeats 4000000 in
theorem eqJobState_ok {w : World} {s : JS} {v v2 : Value} {gs gs2 : List IG} (h : IGrow w v gs) (hi : IGin w gs s.ms) (h2 : IGrow w v2 gs2) (hi2 : IGin w gs2 s.ms) (hL : JLen s) : Calls Tryz.prog 10 #[jsA v s.a s.j, jsA v2 s.a s.j] w fun e w' => e = .returned (.bool true) ∧ Below w.heap.size w w' := by
  obtain ⟨a1, k1, rfl⟩ := h.sl
  obtain ⟨a2, k2, rfl⟩ := h2.sl
  have H1 : Hid _ := fun (u : World) (hb : Below w.heap.size w u) => eqImageS_ok (h.below hb) (hi.below hb) (h2.below hb) (hi2.below hb) hL.l hL.m
  have HE0 : Hid (E2 w ((w.alloc (.cells #[.slice a1 gs.length k1, .string s.a, .int .i64 s.j.k, .int .i64 s.j.x, .string s.j.d, .string s.j.g] 32)).alloc (.cells #[.slice a2 gs2.length k2, .string s.a, .int .i64 s.j.k, .int .i64 s.j.x, .string s.j.d, .string s.j.g] 32)) 32 #[.slice a1 gs.length k1, .string s.a, .int .i64 s.j.k, .int .i64 s.j.x, .string s.j.d, .string s.j.g] #[.slice a2 gs2.length k2, .string s.a, .int .i64 s.j.k, .int .i64 s.j.x, .string s.j.d, .string s.j.g]) := E2.new _ _ _ _
  have HEJ : Hid (∀ u, Calls Tryz.prog 36 #[.agg #[.int .i64 s.j.k, .int .i64 s.j.x, .string s.j.d, .string s.j.g], .agg #[.int .i64 s.j.k, .int .i64 s.j.x, .string s.j.d, .string s.j.g]] u fun e w' => e = .returned (.bool true) ∧ Below u.heap.size u w') := fun u => eqJob_ok s.j u
  clear h hi h2 hi2 hL
  unfold jsA
  go_enter Tryz.func10, Tryz.ntmps10
  go_wp2_with fail
  generalize ((w.alloc (.cells #[.slice a1 gs.length k1, .string s.a, .int .i64 s.j.k, .int .i64 s.j.x, .string s.j.d, .string s.j.g] 32)).alloc (.cells #[.slice a2 gs2.length k2, .string s.a, .int .i64 s.j.k, .int .i64 s.j.x, .string s.j.d, .string s.j.g] 32)) = u0 at *
  refine Calls.mono (H1.out _ HE0.out.bel) ?_
  rintro e u1 ⟨rfl, hb1⟩
  have HE1 : Hid _ := HE0.out.step hb1
  clear hb1 HE0
  obtain ⟨c0, c1, c2, c3, c4, c5, _⟩ := cel6 HE1.out.b0
  obtain ⟨d0, d1, d2, d3, d4, d5, _⟩ := cel6 HE1.out.b1
  have g1 := HE1.out.lt
  have g0 : w.heap.size < u1.heap.size := by omega
  go_wp2_with fail
  refine Calls.mono (HEJ.out _) ?_
  rintro e u2 ⟨rfl, hb2⟩
  go_wp2
  go_ret
  exact ⟨rfl, HE1.out.bel.trans (hb2.mono HE1.out.bel.size)⟩
end Go.Proofs.YtomfbiiegcmmlaaGreat
