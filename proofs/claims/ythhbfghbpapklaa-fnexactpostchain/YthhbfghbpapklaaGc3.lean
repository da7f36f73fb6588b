import Derived.Test.YthhbfghbpapklaaGc2
namespace Go.Proofs.Ythhbfghbpapklaa
open Go.ChangeShapes Go.WideShapes Go.ChangeAt Go.RowKit

/-- What a chain's going back answers. -/
def gcA (c : Int) (m : ByteArray) (q : QV) (sg : Bool) : Value := .agg #[.int .i64 c, .string m, .int .i64 q.size, .int .i64 q.desc, .int .i64 q.avail, .int .i64 q.used, .int .i64 q.taken, .int .i64 q.given, .bool sg]
def q0 : QV := ⟨0, 0, 0, 0, 0, 0⟩
def gcB (q : QV) (head size : Int) : Bool := hsB q.size head && wdB size
theorem Fr2.bel {w u v : World} {m : Nat} (hf : Fr2 u v w.heap.size m) (h : Below w.heap.size w u) (hm : w.heap.size ≤ m) : Below w.heap.size w v :=
  ⟨hf.os.trans h.os, hf.tape.trans h.tape, hf.output.trans h.output, Nat.le_trans h.size hf.size, fun k hk => (hf.block k (Nat.lt_of_lt_of_le hk h.size) (by omega) (by omega)).trans (h.block k hk)⟩
/-- The queue and the answer's box behind giveChain. -/
theorem TwoBx.give {w u v : World} {cs ds : Array Value} {t2 m : Nat} {q : QV} {s : ByteArray} (h : TwoBx w u cs 26 ds t2) (hq : QM v w.heap.size m q s) (hf : Fr2 u v w.heap.size m) (hm : w.heap.size + 2 ≤ m) : TwoBx w v (qC q) 26 ds t2 :=
  ⟨hf.bel h.bel (by omega), hq.box, (hf.block _ h.lt (by omega) (by omega)).trans h.b2⟩
end Go.Proofs.Ythhbfghbpapklaa
