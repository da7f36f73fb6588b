import Derived.Test.YtfagohdmepnkkaaGTwo2
namespace Go.Proofs.Ytfagohdmepnkkaa
open Go.ChangeShapes Go.WideShapes Go.ChangeAt Go.RowKit

set_option maxRecDepth 100000 in
theorem mHoldsG (G : Nat) (w : World) : (method 280 83 (.pointer (some ⟨G, 0, none⟩)) "loop.example/g00038/impl.holds").run Try.prog w = .ok (148, .pointer (some ⟨G, 0, none⟩)) w := by kernel_rfl
set_option maxRecDepth 100000 in
theorem mReadG (G : Nat) (w : World) : (method 280 83 (.pointer (some ⟨G, 0, none⟩)) "loop.example/g00038/impl.readEntry").run Try.prog w = .ok (150, .pointer (some ⟨G, 0, none⟩)) w := by kernel_rfl
set_option maxRecDepth 100000 in
theorem mPutG (G : Nat) (w : World) : (method 280 83 (.pointer (some ⟨G, 0, none⟩)) "loop.example/g00038/impl.putEntry").run Try.prog w = .ok (149, .pointer (some ⟨G, 0, none⟩)) w := by kernel_rfl
/-- A walk under way over a guest's space: w0 is the world ahead of its box. -/
structure GW (w0 : World) (b G B n : Nat) (s : ByteArray) (y : GS) (wr : World) (rv : Value) (zs : List Int) (x : WS) : Prop where
  grw : Gr2 w0 wr b G
  mem : MemAt wr b s
  gbx : GBx wr G b n y
  box : WBx wr B (.iface 83 (.pointer (some ⟨G, 0, none⟩))) rv x
  own : wr.ownsRow (B + 1) 2 1 rv zs.length (zs.map (Value.int .i64))
  lo : w0.heap.size ≤ B
  bG : b < G
  GB : G < B
theorem g2_below {w0 w u : World} {b G : Nat} (h : Gr2 w0 w b G) (hb : Below w.heap.size w u) : Gr2 w0 u b G :=
  ⟨hb.os.trans h.os, hb.tape.trans h.tape, hb.output.trans h.output, Nat.le_trans h.size hb.size, fun k hk h1 h2 => (hb.block k (Nat.lt_of_lt_of_le hk h.size)).trans (h.block k hk h1 h2)⟩
theorem g2_set {w0 w : World} {b G : Nat} {p : Addr} {v : Value} (h : Gr2 w0 w b G) (hp : w0.heap.size ≤ p.block) : Gr2 w0 (w.setCell p v) b G :=
  ⟨h.os, h.tape, h.output, by simp [World.setCell]; exact h.size, fun k hk h1 h2 => (Below.heap_setCell _ _ _ _ (by omega)).trans (h.block k hk h1 h2)⟩
theorem GW.below {w0 wr u : World} {b G B n : Nat} {s : ByteArray} {y : GS} {rv : Value} {zs : List Int} {x : WS} (h : GW w0 b G B n s y wr rv zs x) (hb : Below wr.heap.size wr u) : GW w0 b G B n s y u rv zs x :=
  ⟨g2_below h.grw hb, h.mem.below hb h.mem.lt, h.gbx.block (hb.block _ h.gbx.lt), h.box.block (hb.block _ h.box.lt), own_below h.own hb, h.lo, h.bG, h.GB⟩
/-- Behind a store into the walk's box. -/
theorem GW.set {w0 wr : World} {b G B n : Nat} {s : ByteArray} {y : GS} {rv : Value} {zs : List Int} {x x2 : WS} (h : GW w0 b G B n s y wr rv zs x) (o : Nat) (v : Value) (hx : WBx (wr.setCell ⟨B, o, none⟩ v) B (.iface 83 (.pointer (some ⟨G, 0, none⟩))) rv x2) : GW w0 b G B n s y (wr.setCell ⟨B, o, none⟩ v) rv zs x2 :=
  ⟨g2_set h.grw h.lo, (Below.heap_setCell _ _ _ _ (by have := h.bG; have := h.GB; simp; omega)).trans h.mem, h.gbx.block (Below.heap_setCell _ _ _ _ (by have := h.GB; simp; omega)), hx, own_set h.own (rowNe h.own B (Nat.le_refl _)), h.lo, h.bG, h.GB⟩
/-- Behind a lookup. -/
theorem GW.look {w0 wr u : World} {b G B n : Nat} {s s' : ByteArray} {y y' : GS} {rv : Value} {zs : List Int} {x : WS} (h : GW w0 b G B n s y wr rv zs x) (hg : Gr2 wr u b G) (hm : MemAt u b s') (hb : GBx u G b n y') : GW w0 b G B n s' y' u rv zs x := by
  have h1 := h.bG
  have h2 := h.GB
  refine ⟨h.grw.trans hg, hm, hb, h.box.block (hg.block _ h.box.lt (by omega) (by omega)), ?_, h.lo, h.bG, h.GB⟩
  refine ⟨h.own.1, ?_⟩
  rcases h.own.2 with hn | ⟨g, cap, cur, hv, hbg, hgg, rest⟩
  · exact .inl hn
  · exact .inr ⟨g, cap, cur, hv, hbg, (hg.block g (Array.getElem?_eq_some_iff.1 hgg).1 (by omega) (by omega)).trans hgg, rest⟩
theorem GW.sl {w0 wr : World} {b G B n : Nat} {s : ByteArray} {y : GS} {rv : Value} {zs : List Int} {x : WS} (h : GW w0 b G B n s y wr rv zs x) : ∃ ao cap, rv = .slice ao zs.length cap := by
  rcases h.own.2 with ⟨rfl, e⟩ | ⟨g, cap, cur, rfl, _⟩
  · exact ⟨none, 0, by rw [e]⟩
  · exact ⟨_, cap, rfl⟩
/-- Behind an append to the reads and its store. -/
theorem GW.put7 {w0 wr w2 : World} {b G B n : Nat} {s : ByteArray} {y : GS} {rv rv' : Value} {zs : List Int} {x : WS} {z : Int} (h : GW w0 b G B n s y wr rv zs x) (hg : wr.grownBy w2 rv.ownBlock) (ho : w2.ownsRow (B + 1) 2 1 rv' (zs.length + 1) (zs.map (Value.int .i64) ++ [.int .i64 z])) :
    GW w0 b G B n s y (w2.setCell ⟨B, 7, none⟩ rv') rv' (zs ++ [z]) x := by
  have h1 := h.bG
  have h2 := h.GB
  have h3 := h.lo
  have e1 : w2.heap[B]? = wr.heap[B]? := hg.block _ h.box.lt (fun e => rowNe h.own B (Nat.le_refl _) e.symm)
  have e2 : w2.heap[b]? = wr.heap[b]? := hg.block _ h.mem.lt (fun e => rowNe h.own b (by omega) e.symm)
  have e3 : w2.heap[G]? = wr.heap[G]? := hg.block _ h.gbx.lt (fun e => rowNe h.own G (by omega) e.symm)
  refine ⟨g2_set ⟨hg.os.trans h.grw.os, hg.tape.trans h.grw.tape, hg.output.trans h.grw.output, Nat.le_trans h.grw.size hg.size, fun k hk k1 k2 => (hg.block k (Nat.lt_of_lt_of_le hk h.grw.size) (fun e => rowNe h.own k (by omega) e.symm)).trans (h.grw.block k hk k1 k2)⟩ h3, (Below.heap_setCell _ _ _ _ (by simp; omega)).trans (e2.trans h.mem), (h.gbx.block e3).block (Below.heap_setCell _ _ _ _ (by simp; omega)), (h.box.block e1).put7, ?_, h3, h1, h2⟩
  have hk := own_set (p := ⟨B, 7, none⟩) (x := rv') ho (rowNe ho B (Nat.le_refl _))
  simpa using hk
set_option maxRecDepth 100000 in
set_option maxHeartbeats 1000000 in
/-- The guest has no such table. -/
theorem readG_no {w0 wr : World} {b G B n : Nat} {s : ByteArray} {y : GS} {rv : Value} {zs : List Int} {x : WS} (h : GW w0 b G B n s y wr rv zs x) (t i : Int) (ht : 1024 ≤ t) :
    Calls Try.prog 117 #[.pointer (some ⟨B, 0, none⟩), .int .i64 t, .int .i64 i] wr fun e u => e = .returned (.int .i64 2) ∧ u = wr := by
  obtain ⟨c0, c1, c2, c3, c4, c5, c6, c7, c8, cf⟩ := h.box.cells
  have hh := fun w => guestHolds_any G t w
  rw [show decide (t < 1024) = false by simp; omega] at hh
  have m1 := mHoldsG G
  clear h
  go_enter Try.func117, Try.ntmps117
  go_wp2_with (go_at_call 148; refine Calls.mono (hh _) ?_; rintro e u ⟨rfl, hu⟩; rw [hu]; clear hu u)
  go_ret
  exact ⟨rfl, rfl⟩
end Go.Proofs.Ytfagohdmepnkkaa
