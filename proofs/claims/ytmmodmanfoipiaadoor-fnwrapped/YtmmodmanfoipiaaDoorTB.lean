import Derived.Test.YtmmodmanfoipiaaDoorBx
namespace Go.Proofs.YtmmodmanfoipiaaDoor
open Go.ChangeShapes Go.WideShapes Go.ChangeAt Go.RowKit

/-- Two boxes, a parameter's and the answer's, at any two places behind w. -/
structure TB (w u : World) (b1 b2 : Nat) (cs : Array Value) (t : Nat) (ds : Array Value) (t2 : Nat) : Prop where
  bel : Below w.heap.size w u
  h1 : u.heap[b1]? = some (.cells cs t (0, 0))
  h2 : u.heap[b2]? = some (.cells ds t2 (0, 0))
  ge2 : w.heap.size ≤ b2
  ne : b1 < b2
theorem TB.new (w : World) (cs : Array Value) (t : Nat) (ds : Array Value) (t2 : Nat) : TB w ((w.alloc (.cells cs t)).alloc (.cells ds t2)) w.heap.size (w.heap.size + 1) cs t ds t2 := by
  have e1 : (w.alloc (.cells cs t)).heap.size = w.heap.size + 1 := by simp
  have hB : Below w.heap.size w ((w.alloc (.cells cs t)).alloc (.cells ds t2)) := (bx1 _ _).alloc (by simp) _
  refine ⟨hB, ?_, ?_, by omega, by omega⟩
  · exact ((bx1 (w.alloc (.cells cs t)) (.cells ds t2)).block _ (by rw [e1]; omega)).trans (heap_new _ _)
  · have := heap_new (w.alloc (.cells cs t)) (.cells ds t2)
    rw [e1] at this
    exact this
theorem TB.lt1 {w u : World} {b1 b2 : Nat} {cs ds : Array Value} {t t2 : Nat} (h : TB w u b1 b2 cs t ds t2) : b1 < u.heap.size := (Array.getElem?_eq_some_iff.1 h.h1).1
theorem TB.lt2 {w u : World} {b1 b2 : Nat} {cs ds : Array Value} {t t2 : Nat} (h : TB w u b1 b2 cs t ds t2) : b2 < u.heap.size := (Array.getElem?_eq_some_iff.1 h.h2).1
theorem TB.c1 {w u : World} {b1 b2 : Nat} {cs ds : Array Value} {t t2 : Nat} (h : TB w u b1 b2 cs t ds t2) (k : Nat) (v : Value) (hv : cs[k]? = some v) : u.cell? ⟨b1, k, none⟩ = some v := by simp [World.cell?, h.h1, hv]
theorem TB.c2 {w u : World} {b1 b2 : Nat} {cs ds : Array Value} {t t2 : Nat} (h : TB w u b1 b2 cs t ds t2) (k : Nat) (v : Value) (hv : ds[k]? = some v) : u.cell? ⟨b2, k, none⟩ = some v := by simp [World.cell?, h.h2, hv]
theorem TB.f2 {w u : World} {b1 b2 : Nat} {cs ds : Array Value} {t t2 : Nat} (h : TB w u b1 b2 cs t ds t2) (k : Nat) : u.frozen? ⟨b2, k, none⟩ = false := by simp [World.frozen?, h.h2]
theorem TB.step {w u u' : World} {b1 b2 : Nat} {cs ds : Array Value} {t t2 : Nat} (h : TB w u b1 b2 cs t ds t2) (hb : Below u.heap.size u u') : TB w u' b1 b2 cs t ds t2 := ⟨h.bel.trans (hb.mono h.bel.size), (hb.block _ h.lt1).trans h.h1, (hb.block _ h.lt2).trans h.h2, h.ge2, h.ne⟩
theorem TB.drew {w u : World} {b1 b2 : Nat} {cs ds : Array Value} {t t2 : Nat} (h : TB w u b1 b2 cs t ds t2) : TB w u.drew b1 b2 cs t ds t2 := ⟨bdn h.bel 1, h.h1, h.h2, h.ge2, h.ne⟩
/-- What is only behind w. -/
structure Aft (w u : World) : Prop where
  out : Below w.heap.size w u
theorem TB.aft {w u : World} {b1 b2 : Nat} {cs ds : Array Value} {t t2 : Nat} (h : TB w u b1 b2 cs t ds t2) : Aft w u := ⟨h.bel⟩
theorem LBx.aft {w u : World} {b t : Nat} {cs : Array Value} (h : LBx w u b cs t) : Aft w u := ⟨h.bel⟩
end Go.Proofs.YtmmodmanfoipiaaDoor
