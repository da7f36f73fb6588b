import Derived.Test.YtfagohdmepnkkaaSTwo2
namespace Go.Proofs.Ytfagohdmepnkkaa
open Go.ChangeShapes Go.WideShapes Go.ChangeAt Go.RowKit

/-- A lookup that leads from one state of the two walks to another. -/
def PL (w : World) (x : TS) (g : Nat) (acc : Int) (p : Int) (y : TS) : Prop := ∀ u (X : Int), TW w x u → X = (g : Int) → Calls Try.prog 38 #[.pointer (some ⟨w.heap.size + 1, 0, none⟩), .int .i64 X, .int .i64 acc] u fun e u2 => e = .returned (.int .i64 p) ∧ TW w y u2
theorem PL_yes (w : World) (mem : ByteArray) (host : Nat) (st bad : Int) (g : Nat) (acc : Int) (hm : memOk mem = true) (hh : host ≤ 255) (hg : g ≤ 262143) (a1 : 1 ≤ acc) (a2 : acc ≤ 3) (hst0 : 0 ≤ st) (hst : st ≤ 1000) (hf : (walkV mem host g acc false).fault = 0) :
    PL w ⟨mem, host, st, bad⟩ g acc (walkV mem host g acc false).pa ⟨(walkV mem host g acc false).mem, host, st + (walkV mem host g acc false).reads.length, bad⟩ :=
  fun _ X ht hX => Calls.mono (place_tw ht g X hX acc hm hh hg a1 a2 hst0 hst) (fun _ _ h => h.1 hf)
theorem PL_no (w : World) (mem : ByteArray) (host : Nat) (st bad : Int) (g : Nat) (acc : Int) (hm : memOk mem = true) (hh : host ≤ 255) (hg : g ≤ 262143) (a1 : 1 ≤ acc) (a2 : acc ≤ 3) (hst0 : 0 ≤ st) (hst : st ≤ 1000) (hf : ¬ (walkV mem host g acc false).fault = 0) :
    PL w ⟨mem, host, st, bad⟩ g acc (-1) ⟨mem, host, st + (walkV mem host g acc false).reads.length, (g : Int)⟩ :=
  fun _ X ht hX => Calls.mono (place_tw ht g X hX acc hm hh hg a1 a2 hst0 hst) (fun _ _ h => h.2 hf)
end Go.Proofs.Ytfagohdmepnkkaa
