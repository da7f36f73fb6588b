import Derived.Test.YthncnffnjjclfabAd3
namespace Go.Proofs.Ythncnffnjjclfab
open Go.ChangeShapes Go.WideShapes Go.ChangeAt Go.RowKit

structure AdS (w u : World) (b1 : Nat) (cs : Array Value) (b3 : Nat) (ds : Array Value) : Prop where
  bel : Below w.heap.size w u
  h1 : u.heap[b1]? = some (.cells cs 28 (0, 0))
  h3 : u.heap[b3]? = some (.cells ds 65 (0, 0))
theorem AdS.lt1 {w u : World} {b1 b3 : Nat} {cs ds : Array Value} (h : AdS w u b1 cs b3 ds) : b1 < u.heap.size := (Array.getElem?_eq_some_iff.1 h.h1).1
theorem AdS.lt3 {w u : World} {b1 b3 : Nat} {cs ds : Array Value} (h : AdS w u b1 cs b3 ds) : b3 < u.heap.size := (Array.getElem?_eq_some_iff.1 h.h3).1
theorem AdS.c1 {w u : World} {b1 b3 : Nat} {cs ds : Array Value} (h : AdS w u b1 cs b3 ds) (k : Nat) (v : Value) (hv : cs[k]? = some v) : u.cell? ⟨b1, k, none⟩ = some v := by simp [World.cell?, h.h1, hv]
theorem AdS.c3 {w u : World} {b1 b3 : Nat} {cs ds : Array Value} (h : AdS w u b1 cs b3 ds) (k : Nat) (v : Value) (hv : ds[k]? = some v) : u.cell? ⟨b3, k, none⟩ = some v := by simp [World.cell?, h.h3, hv]
theorem AdS.step {w u u' : World} {b1 b3 : Nat} {cs ds : Array Value} (h : AdS w u b1 cs b3 ds) (hb : Below u.heap.size u u') : AdS w u' b1 cs b3 ds := ⟨h.bel.trans (hb.mono h.bel.size), (hb.block _ h.lt1).trans h.h1, (hb.block _ h.lt3).trans h.h3⟩
theorem AdS.grow {w u u' : World} {b1 b3 : Nat} {cs ds : Array Value} {r : Option Nat} (h : AdS w u b1 cs b3 ds) (hg : u.grownBy u' r) (n1 : r ≠ some b1) (n3 : r ≠ some b3) (hr : ∀ k, r = some k → w.heap.size ≤ k) : AdS w u' b1 cs b3 ds :=
  ⟨h.bel.grown hg h.bel.size hr, (hg.block b1 h.lt1 (fun e => n1 e.symm)).trans h.h1, (hg.block b3 h.lt3 (fun e => n3 e.symm)).trans h.h3⟩
theorem AdS.put {w u : World} {b1 b2 b3 k : Nat} {v : Value} {cs ds : Array Value} (h : AdS w u b1 cs b3 ds) (n1 : b2 ≠ b1) (n3 : b2 ≠ b3) (hg : w.heap.size ≤ b2) : AdS w (u.setCell ⟨b2, k, none⟩ v) b1 cs b3 ds :=
  ⟨h.bel.setCell hg _, (Below.heap_setCell _ _ _ _ (fun e => n1 e.symm)).trans h.h1, (Below.heap_setCell _ _ _ _ (fun e => n3 e.symm)).trans h.h3⟩
end Go.Proofs.Ythncnffnjjclfab
