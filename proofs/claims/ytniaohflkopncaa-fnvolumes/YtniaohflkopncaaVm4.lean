import Derived.Test.YtniaohflkopncaaVm3
namespace Go.Proofs.Ytniaohflkopncaa
open Go.ChangeShapes Go.WideShapes Go.ChangeAt Go.RowKit

theorem gtr15 {u v x : World} {r : Option Nat} (h : u.grownBy v r) (h2 : v.grownBy x r) : u.grownBy x r := ⟨h2.os.trans h.os, h2.tape.trans h.tape, h2.output.trans h.output, Nat.le_trans h.size h2.size, fun k hk hn => (h2.block k (Nat.lt_of_lt_of_le hk h.size) hn).trans (h.block k hk hn)⟩
theorem gal15 (u : World) (o : Obj) (r : Option Nat) : u.grownBy (u.alloc o) r := World.grownBy_alloc u o r
theorem LG.grow {w u u' : World} {b t : Nat} {cs : Array Value} {r : Option Nat} (h : LG w u b cs t) (hg : u.grownBy u' r) (hne : r ≠ some b) (hr : ∀ k, r = some k → w.heap.size ≤ k) : LG w u' b cs t :=
  ⟨h.bel.grown hg h.bel.size hr, (hg.block b h.lt (fun e => hne e.symm)).trans h.box, h.ge⟩
end Go.Proofs.Ytniaohflkopncaa
