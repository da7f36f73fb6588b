import Derived.Test.YtgpfjbopekkflaaLawR
import Derived.Test.YtgpfjbopekkflaaSWalk
namespace Go.Proofs.Ytgpfjbopekkflaa
open Go.ChangeShapes Go.WideShapes Go.ChangeAt Go.RowKit

/-- What an entry tells. -/
def enP (x va : Int) (lg : Bool) : PM := ⟨va, x / 256, bits .and .i64 x 158, lg⟩
def sec1 (s : ByteArray) (t : Nat) (va : Int) (k : Nat) : List PM := if wv s (t * 256 + 4 * k) % 2 = 1 then [enP (wv s (t * 256 + 4 * k)) (va + (k : Int) * 256) false] else []
def secN (s : ByteArray) (t : Nat) (va : Int) (n : Nat) : List PM := (List.range n).flatMap (sec1 s t va)
def secA (s : ByteArray) (t : Int) (va : Int) : List PM := if (t + 1) * 256 ≤ (s.size : Int) then secN s t.toNat va 32 else []
def fst1 (s : ByteArray) (root : Nat) (i : Nat) : List PM :=
  if wv s (root * 256 + 4 * i) % 2 = 0 then [] else if wv s (root * 256 + 4 * i) % 16 = 1 then secA s (wv s (root * 256 + 4 * i) / 256) ((i : Int) * 8192) else [enP (wv s (root * 256 + 4 * i)) ((i : Int) * 8192) true]
def fstN (s : ByteArray) (root : Nat) (n : Nat) : List PM := (List.range n).flatMap (fst1 s root)
theorem secN_succ (s : ByteArray) (t : Nat) (va : Int) (n : Nat) : secN s t va (n + 1) = secN s t va n ++ sec1 s t va n := by simp [secN, List.range_succ]
theorem fstN_succ (s : ByteArray) (root : Nat) (n : Nat) : fstN s root (n + 1) = fstN s root n ++ fst1 s root n := by simp [fstN, List.range_succ]
theorem sec1_len (s : ByteArray) (t : Nat) (va : Int) (k : Nat) : (sec1 s t va k).length ≤ 1 := by
  unfold sec1
  split <;> simp
theorem secN_len (s : ByteArray) (t : Nat) (va : Int) (n : Nat) : (secN s t va n).length ≤ n := by
  induction n with
  | zero => simp [secN]
  | succ n ih =>
    rw [secN_succ, List.length_append]
    have := sec1_len s t va n
    omega
theorem fst1_len (s : ByteArray) (root i : Nat) : (fst1 s root i).length ≤ 32 := by
  unfold fst1
  split
  · simp
  · split
    · unfold secA
      split
      · exact secN_len _ _ _ _
      · simp
    · simp
theorem fstN_len (s : ByteArray) (root n : Nat) : (fstN s root n).length ≤ n * 32 := by
  induction n with
  | zero => simp [fstN]
  | succ n ih =>
    rw [fstN_succ, List.length_append]
    have := fst1_len s root n
    omega
theorem pmR_app (a b : List PM) : pmR (a ++ b) = pmR a ++ pmR b := by simp [pmR]
theorem Try.info53 : (Try.prog.info? 53).map (fun i => (i.zero, i.size, i.bytes)) = some (some (.agg #[.int .i64 0, .int .i64 0, .int .i64 0, .bool false]), 4, 32) := by kernel_rfl
set_option maxRecDepth 100000 in
theorem l03In_any (s : ByteArray) (n : Int) (w : World) (hs : s.size ≤ 65536) : Calls Try.prog 30 #[.string s, .int .i64 n] w fun e w' => e = .returned (.bool (decide (0 ≤ n) && decide (n < (s.size : Int) / 256))) ∧ w' = w := by
  have ht : (s.size : Int).tdiv 256 = (s.size : Int) / 256 := Int.tdiv_eq_ediv_of_nonneg (by omega)
  by_cases h : 0 ≤ n
  · go_enter Try.func30, Try.ntmps30
    go_wp2
    go_ret
    exact ⟨congrArg (fun b => Ending.returned (Value.bool b)) (show decide (n < (s.size : Int) / 256) = (decide (0 ≤ n) && decide (n < (s.size : Int) / 256)) by simp [h]), rfl⟩
  · go_enter Try.func30, Try.ntmps30
    go_wp2
    go_ret
    exact ⟨congrArg (fun b => Ending.returned (Value.bool b)) (show false = (decide (0 ≤ n) && decide (n < (s.size : Int) / 256)) by rw [decide_eq_false (show ¬ 0 ≤ n by omega)]; rfl), rfl⟩
end Go.Proofs.Ytgpfjbopekkflaa
