import Derived.Test.YtfgbiflfamgggaaPWk1
namespace Go.Proofs.Ytfgbiflfamgggaa
open Go.ChangeShapes Go.WideShapes Go.ChangeAt Go.RowKit

/-- What a walk's box holds beside its tables and its reads. -/
structure WS where
  va : Nat
  acc : Int
  user : Bool
  at_ : Int
  e : Int
  lg : Bool
  pa : Int
theorem gb_refl (w : World) (r : Option Nat) : w.grownBy w r := ⟨rfl, rfl, rfl, Nat.le_refl _, fun _ _ _ => rfl⟩
theorem gb_below {w0 w u : World} {r : Option Nat} (h : w0.grownBy w r) (hb : Below w.heap.size w u) : w0.grownBy u r :=
  ⟨hb.os.trans h.os, hb.tape.trans h.tape, hb.output.trans h.output, Nat.le_trans h.size hb.size, fun k hk hn => (hb.block k (Nat.lt_of_lt_of_le hk h.size)).trans (h.block k hk hn)⟩
theorem gb_set {w0 w : World} {r : Option Nat} {p : Addr} {v : Value} (h : w0.grownBy w r) (hp : w0.heap.size ≤ p.block) : w0.grownBy (w.setCell p v) r :=
  ⟨h.os, h.tape, h.output, by simp [World.setCell]; exact h.size, fun k hk hn => (Below.heap_setCell _ _ _ _ (by omega)).trans (h.block k hk hn)⟩
theorem gb_grow {w0 w u : World} {r r2 : Option Nat} (h : w0.grownBy w r) (hg : w.grownBy u r2) (h2 : ∀ k, r2 = some k → w0.heap.size ≤ k ∨ r = some k) : w0.grownBy u r :=
  ⟨hg.os.trans h.os, hg.tape.trans h.tape, hg.output.trans h.output, Nat.le_trans h.size hg.size, fun k hk hn => (hg.block k (Nat.lt_of_lt_of_le hk h.size) (fun e => by
    rcases h2 k e.symm with h3 | h3
    · omega
    · exact hn h3.symm)).trans (h.block k hk hn)⟩

end Go.Proofs.Ytfgbiflfamgggaa
