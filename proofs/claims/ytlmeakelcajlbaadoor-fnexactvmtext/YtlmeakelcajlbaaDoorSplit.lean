import Derived.Test.YtlmeakelcajlbaaDoorBytesC
import Derived.OwnWalk
import Derived.Laws.OwnMore
import Derived.Deep.AppendLies
namespace Go.Proofs.YtlmeakelcajlbaaDoor
open Go.ChangeShapes Go.WideShapes Go.ChangeAt Go.RowKit

theorem Tryd.info9 : (Tryd.prog.info? 9).map (fun i => (i.zero, i.size, i.bytes)) = some (some (.string ⟨#[]⟩), 1, 16) := by kernel_rfl

def spl (s : ByteArray) (c : Int) : Nat → Nat × List ByteArray
  | 0 => (0, [])
  | k + 1 => if bt s k = c then (k + 1, (spl s c k).2 ++ [s.extract (spl s c k).1 k]) else spl s c k
theorem spl_le (s : ByteArray) (c : Int) : ∀ k, (spl s c k).1 ≤ k ∧ (spl s c k).2.length ≤ k
  | 0 => by simp [spl]
  | k + 1 => by
    have := spl_le s c k
    simp only [spl]
    split
    · simp; omega
    · omega
def splitB (s : ByteArray) (c : Int) : List ByteArray := (spl s c s.size).2 ++ [s.extract (spl s c s.size).1 s.size]
def strs (l : List ByteArray) : List Value := l.map Value.string
theorem strs_app (a b : List ByteArray) : strs (a ++ b) = strs a ++ strs b := by simp [strs]
theorem own_cast' {w : World} {base : Nat} {e : TypeId} {v : Value} {n m : Nat} {xs ys : List Value} (h : w.ownsRow base e 1 v n xs) (h1 : n = m) (h2 : xs = ys) : w.ownsRow base e 1 v m ys := by
  subst h1; subst h2; exact h

theorem sl_mid (s : ByteArray) (f k : Nat) (h1 : f ≤ k) (h2 : k ≤ s.size) (w : World) : Sem.run Tryd.prog (Instr.slice 9 (.string s) (some (.int .i64 (f : Int))) (some (.int .i64 (k : Int))) none) w = .ok (.string (s.extract f k)) w := by
  rw [run_slice_string _ _ _ _ _ _ _ Tryd.underlying9 (by omega) (by omega) (by omega)]
  rfl
theorem sl_end (s : ByteArray) (f : Nat) (h1 : f ≤ s.size) (w : World) : Sem.run Tryd.prog (Instr.slice 9 (.string s) (some (.int .i64 (f : Int))) none none) w = .ok (.string (s.extract f s.size)) w := by
  rw [run_slice_string_from_if _ _ _ _ _ Tryd.underlying9, if_pos (by omega)]
  rfl

end Go.Proofs.YtlmeakelcajlbaaDoor
