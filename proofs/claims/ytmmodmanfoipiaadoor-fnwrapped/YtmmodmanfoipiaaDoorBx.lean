import Derived.Test.YtmmodmanfoipiaaDoorOwnB
namespace Go.Proofs.YtmmodmanfoipiaaDoor
open Go.ChangeShapes Go.WideShapes Go.ChangeAt Go.RowKit

theorem bx1 (w : World) (o : Obj) : Below w.heap.size w (w.alloc o) := (Below.refl _ _).alloc (Nat.le_refl _) _
/-- A thing in its box. -/
structure LBx (w u : World) (b : Nat) (cs : Array Value) (t : Nat) : Prop where
  bel : Below w.heap.size w u
  box : u.heap[b]? = some (.cells cs t (0, 0))
theorem LBx.lt {w u : World} {b t : Nat} {cs : Array Value} (h : LBx w u b cs t) : b < u.heap.size := (Array.getElem?_eq_some_iff.1 h.box).1
theorem LBx.step {w u u' : World} {b t : Nat} {cs : Array Value} (h : LBx w u b cs t) (hb : Below u.heap.size u u') : LBx w u' b cs t := ⟨h.bel.trans (hb.mono h.bel.size), (hb.block _ h.lt).trans h.box⟩
theorem LBx.new (w : World) (cs : Array Value) (t : Nat) : LBx w (w.alloc (.cells cs t)) w.heap.size cs t := ⟨bx1 _ _, heap_new _ _⟩
theorem LBx.dn {w u : World} {b t : Nat} {cs : Array Value} (h : LBx w u b cs t) (n : Nat) : LBx w (u.drewN n) b cs t := ⟨bdn h.bel n, h.box⟩
theorem LBx.cel {w u : World} {b t : Nat} {cs : Array Value} (h : LBx w u b cs t) (k : Nat) (v : Value) (hv : cs[k]? = some v) : u.cell? ⟨b, k, none⟩ = some v := by
  simp [World.cell?, h.box, hv]
/-- Two boxes, one behind the other. -/
structure TwoBx (w u : World) (cs : Array Value) (t : Nat) (ds : Array Value) (t2 : Nat) : Prop where
  bel : Below w.heap.size w u
  b1 : u.heap[w.heap.size]? = some (.cells cs t (0, 0))
  b2 : u.heap[w.heap.size + 1]? = some (.cells ds t2 (0, 0))
theorem TwoBx.of (w : World) (cs : Array Value) (t : Nat) (ds : Array Value) (t2 : Nat) {u : World} (h : Below ((w.alloc (.cells cs t)).alloc (.cells ds t2)).heap.size ((w.alloc (.cells cs t)).alloc (.cells ds t2)) u) : TwoBx w u cs t ds t2 := by
  have e1 : (w.alloc (.cells cs t)).heap.size = w.heap.size + 1 := by simp
  have e2 : ((w.alloc (.cells cs t)).alloc (.cells ds t2)).heap.size = w.heap.size + 2 := by simp
  have hB : Below w.heap.size w ((w.alloc (.cells cs t)).alloc (.cells ds t2)) := (bx1 _ _).alloc (by simp) _
  refine ⟨hB.trans (h.mono hB.size), ?_, ?_⟩
  · rw [h.block _ (by rw [e2]; omega)]
    exact ((bx1 (w.alloc (.cells cs t)) (.cells ds t2)).block _ (by rw [e1]; omega)).trans (heap_new _ _)
  · rw [h.block _ (by rw [e2]; omega)]
    have := heap_new (w.alloc (.cells cs t)) (.cells ds t2)
    rw [e1] at this
    exact this
theorem TwoBx.c1 {w u : World} {cs ds : Array Value} {t t2 : Nat} (h : TwoBx w u cs t ds t2) (k : Nat) (v : Value) (hv : cs[k]? = some v) : u.cell? ⟨w.heap.size, k, none⟩ = some v := by simp [World.cell?, h.b1, hv]
theorem TwoBx.c2 {w u : World} {cs ds : Array Value} {t t2 : Nat} (h : TwoBx w u cs t ds t2) (k : Nat) (v : Value) (hv : ds[k]? = some v) : u.cell? ⟨w.heap.size + 1, k, none⟩ = some v := by simp [World.cell?, h.b2, hv]
theorem TwoBx.f1 {w u : World} {cs ds : Array Value} {t t2 : Nat} (h : TwoBx w u cs t ds t2) (k : Nat) : u.frozen? ⟨w.heap.size, k, none⟩ = false := by simp [World.frozen?, h.b1]
theorem TwoBx.f2 {w u : World} {cs ds : Array Value} {t t2 : Nat} (h : TwoBx w u cs t ds t2) (k : Nat) : u.frozen? ⟨w.heap.size + 1, k, none⟩ = false := by simp [World.frozen?, h.b2]
theorem TwoBx.lt {w u : World} {cs ds : Array Value} {t t2 : Nat} (h : TwoBx w u cs t ds t2) : w.heap.size + 1 < u.heap.size := (Array.getElem?_eq_some_iff.1 h.b2).1
theorem TwoBx.step {w u u' : World} {cs ds : Array Value} {t t2 : Nat} (h : TwoBx w u cs t ds t2) (hb : Below u.heap.size u u') : TwoBx w u' cs t ds t2 := ⟨h.bel.trans (hb.mono h.bel.size), (hb.block _ (by have := h.lt; omega)).trans h.b1, (hb.block _ h.lt).trans h.b2⟩
theorem LBx.frz {w u : World} {b t : Nat} {cs : Array Value} (h : LBx w u b cs t) (k : Nat) : u.frozen? ⟨b, k, none⟩ = false := by simp [World.frozen?, h.box]
end Go.Proofs.YtmmodmanfoipiaaDoor
