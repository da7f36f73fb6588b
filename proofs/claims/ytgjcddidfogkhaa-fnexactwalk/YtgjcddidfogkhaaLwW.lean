import Derived.Test.YtgjcddidfogkhaaLwI
namespace Go.Proofs.Ytgjcddidfogkhaa
open Go.ChangeShapes Go.WideShapes Go.ChangeAt Go.RowKit

theorem own_sl2 {w : World} {B n : Nat} {v : Value} {xs : List Value} (h : w.ownsRow B 2 1 v n xs) : ∃ ao cap, v = .slice ao n cap := by
  rcases h.2 with ⟨rfl, e⟩ | ⟨g, cap, cur, rfl, _⟩
  · exact ⟨none, 0, by rw [e]⟩
  · exact ⟨_, cap, rfl⟩
theorem bx2 {w0 u : World} {c1 c2 : Array Value} {t1 t2 : Nat} (hu : Below ((w0.alloc (.cells c1 t1)).alloc (.cells c2 t2)).heap.size ((w0.alloc (.cells c1 t1)).alloc (.cells c2 t2)) u) :
    u.heap[w0.heap.size]? = some (.cells c1 t1 (0, 0)) ∧ u.heap[w0.heap.size + 1]? = some (.cells c2 t2 (0, 0)) := by
  constructor
  · rw [hu.block _ (by simp; omega), Below.heap_alloc _ _ _ (by simp)]
    exact heap_new _ _
  · rw [hu.block _ (by simp)]
    have h1 := heap_new (w0.alloc (.cells c1 t1)) (.cells c2 t2)
    simpa using h1
set_option maxRecDepth 100000 in
set_option maxHeartbeats 1000000 in
theorem eqWalked_ok {w : World} {B B' : Nat} {v u : Value} (r : WV) (h : w.ownsRow B 2 1 v r.reads.length (r.reads.map (Value.int .i64))) (h' : w.ownsRow B' 2 1 u r.reads.length (r.reads.map (Value.int .i64))) (hl : r.reads.length ≤ 100) :
    Calls Try.prog 7 #[wkA r v, wkA r u] w fun e w' => e = .returned (.bool true) ∧ Below w.heap.size w w' := by
  have HE : Hid _ := fun o1 o2 => eqI_ok ((h.alloc o1).alloc o2) ((h'.alloc o1).alloc o2) hl
  obtain ⟨ao, cap, rfl⟩ := own_sl2 h
  obtain ⟨ao', cap', rfl⟩ := own_sl2 h'
  clear h h'
  unfold wkA
  go_enter Try.func7, Try.ntmps7
  go_wp2_with (go_at_call 26; refine Calls.mono (HE.out _ _) ?_; rintro e u1 ⟨rfl, hu1⟩; have HB : Hid (Below w.heap.size w u1) := (((Below.refl _ _).alloc (Nat.le_refl _) _).alloc (by simp) _).trans (hu1.mono (by simp; omega)); obtain ⟨bR, bB⟩ := bx2 hu1; obtain ⟨c0, c1, c2, c3, c4, c5, cf⟩ := cel6 bB; obtain ⟨d0, d1, d2, d3, d4, d5, df⟩ := cel6 bR; clear hu1 bR bB)
  go_ret
  exact ⟨rfl, HB.out⟩
set_option maxRecDepth 100000 in
set_option maxHeartbeats 1000000 in
theorem markWalked_ok {w : World} {B : Nat} {v : Value} (r : WV) (h : w.ownsRow B 2 1 v r.reads.length (r.reads.map (Value.int .i64))) (hl : r.reads.length ≤ 100) :
    Calls Try.prog 8 #[wkA r v, .int .i64 1] w fun e u => e = .returned (.int .i64 (1 + (r.reads.length : Int))) ∧ u.ownsRow B 2 1 v r.reads.length ((mkL r.reads.length).map (Value.int .i64)) ∧ w.grownBy u v.ownBlock := by
  have HE : Hid _ := fun o1 => markI_ok (h.alloc o1) hl
  obtain ⟨ao, cap, rfl⟩ := own_sl2 h
  clear h
  unfold wkA
  go_enter Try.func8, Try.ntmps8
  go_wp2_with (go_at_call 27; refine Calls.mono (HE.out _) ?_; rintro e u1 ⟨rfl, ho, hg⟩; have HO : Hid _ := ho; have HG : Hid (w.grownBy u1 _) := ⟨hg.os, hg.tape, hg.output, Nat.le_trans (by simp) hg.size, fun k hk hn => (hg.block k (by simp; omega) hn).trans (Below.heap_alloc _ _ _ hk)⟩; clear ho hg)
  go_ret
  exact ⟨rfl, HO.out, HG.out⟩
set_option maxRecDepth 100000 in
set_option maxHeartbeats 1000000 in
theorem heldWalked_ok {w : World} {B : Nat} {v : Value} (r : WV) (h : w.ownsRow B 2 1 v r.reads.length ((mkL r.reads.length).map (Value.int .i64))) (hl : r.reads.length ≤ 100) :
    Calls Try.prog 9 #[wkA r v, .int .i64 1] w fun e u => e = .returned (.int .i64 (1 + (r.reads.length : Int))) ∧ Below w.heap.size w u := by
  have HE : Hid _ := fun o1 => heldI_ok r.reads.length (h.alloc o1) hl
  obtain ⟨ao, cap, rfl⟩ := own_sl2 h
  clear h
  unfold wkA
  go_enter Try.func9, Try.ntmps9
  go_wp2_with (go_at_call 28; refine Calls.mono (HE.out _) ?_; rintro e u1 ⟨rfl, hu⟩; rw [hu]; clear hu)
  go_ret
  exact ⟨rfl, (Below.refl _ _).alloc (Nat.le_refl _) _⟩
/-- What the law keeps: the two boxes and their rows. -/
structure LK (w : World) (b1 b2 : Nat) (r : WV) (v0 g : Value) (ys : List Int) (wr : World) : Prop where
  bel : Below w.heap.size w wr
  x1 : wr.heap[b1]? = some (.cells #[.int .i64 r.fault, .int .i64 r.pa, .int .i64 r.entry, .bool r.large, v0, .string r.mem] 24 (0, 0))
  x2 : wr.heap[b2]? = some (.cells #[.int .i64 r.fault, .int .i64 r.pa, .int .i64 r.entry, .bool r.large, g, .string r.mem] 24 (0, 0))
  o1 : wr.ownsRow w.heap.size 2 1 v0 r.reads.length (r.reads.map (Value.int .i64))
  o2 : wr.ownsRow (b1 + 1) 2 1 g r.reads.length (ys.map (Value.int .i64))
  l1 : w.heap.size ≤ b1
  n1 : ∀ k, v0.ownBlock = some k → k < b1
  n2 : ∀ k, g.ownBlock = some k → k < b2
theorem LK.step {w wr u : World} {b1 b2 : Nat} {r : WV} {v0 g : Value} {ys : List Int} (h : LK w b1 b2 r v0 g ys wr) (hb : Below wr.heap.size wr u) : LK w b1 b2 r v0 g ys u :=
  ⟨h.bel.trans (hb.mono h.bel.size), (hb.block _ (Array.getElem?_eq_some_iff.1 h.x1).1).trans h.x1, (hb.block _ (Array.getElem?_eq_some_iff.1 h.x2).1).trans h.x2, own_below h.o1 hb, own_below h.o2 hb, h.l1, h.n1, h.n2⟩
theorem LK.mark {w wr u : World} {b1 b2 : Nat} {r : WV} {v0 g : Value} {ys zs : List Int} (h : LK w b1 b2 r v0 g ys wr) (hg : wr.grownBy u g.ownBlock) (ho : u.ownsRow (b1 + 1) 2 1 g r.reads.length (zs.map (Value.int .i64))) : LK w b1 b2 r v0 g zs u := by
  have hlo : ∀ k, g.ownBlock = some k → b1 + 1 ≤ k := fun k e => (h.o2.lt k e).1
  refine ⟨?_, (hg.block _ (Array.getElem?_eq_some_iff.1 h.x1).1 (fun e => by have := hlo _ e.symm; omega)).trans h.x1, (hg.block _ (Array.getElem?_eq_some_iff.1 h.x2).1 (fun e => by have := h.n2 _ e.symm; omega)).trans h.x2, ?_, ho, h.l1, h.n1, h.n2⟩
  · have hl := h.l1
    exact ⟨hg.os.trans h.bel.os, hg.tape.trans h.bel.tape, hg.output.trans h.bel.output, Nat.le_trans h.bel.size hg.size, fun k hk => (hg.block k (Nat.lt_of_lt_of_le hk h.bel.size) (fun e => by have := hlo _ e.symm; omega)).trans (h.bel.block k hk)⟩
  · cases hv : v0.ownBlock with
    | none => exact h.o1.kept hg (.inl hv)
    | some k => exact h.o1.kept hg (.inr (fun e => by have h1 := hlo k (e.symm.trans hv); have h2 := h.n1 k hv; omega))
theorem LK.new {w u1 u2 : World} {r : WV} {v0 g : Value} (h1 : u1.ownsRow w.heap.size 2 1 v0 r.reads.length (r.reads.map (Value.int .i64))) (hb1 : Below w.heap.size w u1) (o : Obj) (ho : o = .cells #[.int .i64 r.fault, .int .i64 r.pa, .int .i64 r.entry, .bool r.large, v0, .string r.mem] 24 (0, 0))
    (h2 : u2.ownsRow (u1.alloc o).heap.size 2 1 g r.reads.length (r.reads.map (Value.int .i64))) (hb2 : Below (u1.alloc o).heap.size (u1.alloc o) u2) (o2 : Obj) (ho2 : o2 = .cells #[.int .i64 r.fault, .int .i64 r.pa, .int .i64 r.entry, .bool r.large, g, .string r.mem] 24 (0, 0)) :
    LK w u1.heap.size u2.heap.size r v0 g r.reads (u2.alloc o2) := by
  subst ho
  subst ho2
  have z : (u1.alloc (.cells #[.int .i64 r.fault, .int .i64 r.pa, .int .i64 r.entry, .bool r.large, v0, .string r.mem] 24)).heap.size = u1.heap.size + 1 := by simp
  have hz2 := hb2.size
  refine ⟨?_, ?_, heap_new _ _, ?_, ?_, hb1.size, fun k e => (h1.lt k e).2, fun k e => (h2.lt k e).2⟩
  · exact ((hb1.alloc hb1.size _).trans (hb2.mono (by rw [z]; have := hb1.size; omega))).alloc (Nat.le_trans hb1.size (by omega)) _
  · rw [Below.heap_alloc _ _ _ (by omega), hb2.block _ (by omega)]
    exact heap_new _ _
  · exact (own_below (h1.alloc _) hb2).alloc _
  · rw [z] at h2
    exact h2.alloc _
end Go.Proofs.Ytgjcddidfogkhaa
