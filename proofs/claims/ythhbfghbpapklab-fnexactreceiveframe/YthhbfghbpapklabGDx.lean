import Derived.Test.YthhbfghbpapklabGCx
import Derived.Test.YthhbfghbpapklabGAx
import Derived.Deep.RegionHeld3
import Derived.BigQuiet
import Derived.Laws.StructEq
namespace Go.Proofs.Ythhbfghbpapklab
open Go.ChangeShapes Go.WideShapes Go.ChangeAt Go.RowKit

/-- A descriptor. -/
structure DV where
  pos : Int
  len : Int
  write : Bool
  next : Bool
  indirect : Bool
  avail : Bool
  used : Bool
  number : Int
def dA (d : DV) : Value := .agg #[.int .i64 d.pos, .int .i64 d.len, .bool d.write, .bool d.next, .bool d.indirect, .bool d.avail, .bool d.used, .int .i64 d.number]
def fi (b : Bool) (x : Int) : Int := if b = true then x else 0
/-- Its flags as a word. -/
def dF (d : DV) : Int := fi d.next 1 + fi d.write 2 + fi d.indirect 4 + fi d.avail 128 + fi d.used 32768
theorem flagIf_any (b : Bool) (x : Int) (w : World) : Calls Try.prog 242 #[.bool b, .int .i64 x] w fun e w' => e = .returned (.int .i64 (fi b x)) ∧ w' = w := by
  cases b
  · go_enter Try.func242, Try.ntmps242
    go_wp2
    go_ret
    exact ⟨rfl, rfl⟩
  · go_enter Try.func242, Try.ntmps242
    go_wp2
    go_ret
    exact ⟨rfl, rfl⟩
theorem dF_or (a b c d e : Bool) : bits .or .i64 (bits .or .i64 (bits .or .i64 (bits .or .i64 (fi a 1) (fi b 2)) (fi c 4)) (fi d 128)) (fi e 32768) = fi a 1 + fi b 2 + fi c 4 + fi d 128 + fi e 32768 := by
  cases a <;> cases b <;> cases c <;> cases d <;> cases e <;> decide +kernel
/-- A descriptor's four words. -/
def wA (a b c d : Int) : Value := .agg #[.int .i64 a, .int .i64 b, .int .i64 c, .int .i64 d]
/-- A number is a word. -/
def wdB (a : Int) : Bool := decide (0 ≤ a ∧ a ≤ 4294967295)
theorem uDW : Try.prog.underlying 292 = some (.array 4 2) := by kernel_rfl
theorem szI (w : World) : (Go.sizeOf 2).run Try.prog w = .ok 1 w := by kernel_rfl
theorem pt0 (a b c d : Int) (w : World) : (part 2 #[.int .i64 a, .int .i64 b, .int .i64 c, .int .i64 d] 0).run Try.prog w = .ok (.int .i64 a) w := by kernel_rfl
theorem pt1 (a b c d : Int) (w : World) : (part 2 #[.int .i64 a, .int .i64 b, .int .i64 c, .int .i64 d] 1).run Try.prog w = .ok (.int .i64 b) w := by kernel_rfl
theorem pt2 (a b c d : Int) (w : World) : (part 2 #[.int .i64 a, .int .i64 b, .int .i64 c, .int .i64 d] 2).run Try.prog w = .ok (.int .i64 c) w := by kernel_rfl
theorem pt3 (a b c d : Int) (w : World) : (part 2 #[.int .i64 a, .int .i64 b, .int .i64 c, .int .i64 d] 3).run Try.prog w = .ok (.int .i64 d) w := by kernel_rfl
theorem eqi (n : Nat) (a b : Int) (w : World) : (Op.equalIn (n + 1) 2 (.int .i64 a) (.int .i64 b)).run Try.prog w = .ok (a == b) w := run_equalIn_int w n 2 .i64 .i64 a b Try.underlying2
theorem eqn4 (n : Nat) (a b c d a' b' c' d' : Int) (w : World) : (Op.equalIn (n + 2) 292 (.agg #[.int .i64 a, .int .i64 b, .int .i64 c, .int .i64 d]) (.agg #[.int .i64 a', .int .i64 b', .int .i64 c', .int .i64 d'])).run Try.prog w = .ok (a == a' && (b == b' && (c == c' && d == d'))) w := by
  rw [Op.equalIn]
  simp only [Sem.run_bind, run_underlying uDW, Result.andThen_ok, szI]
  rw [Std.Legacy.Range.forIn_eq_forIn_range']
  simp only [Std.Legacy.Range.size, show (4 - 0 + 1 - 1) / 1 = 4 by rfl, show List.range' 0 4 1 = [0, 1, 2, 3] by rfl, List.forIn_cons, List.forIn_nil, Nat.mul_one, Sem.run_bind, pt0, eqi, Result.andThen_ok, Sem.run_ite, Sem.run_pure]
  cases h0 : a == a' <;> cases h1 : b == b' <;> cases h2 : c == c' <;> cases h3 : d == d' <;> simp [Result.andThen, pt1, pt2, pt3, eqi, h1, h2, h3]
theorem eq4 (a b c d a' b' c' d' : Int) (w : World) : (binOp .eql 292 (.agg #[.int .i64 a, .int .i64 b, .int .i64 c, .int .i64 d]) (.agg #[.int .i64 a', .int .i64 b', .int .i64 c', .int .i64 d'])).run Try.prog w = .ok (.bool (a == a' && (b == b' && (c == c' && d == d')))) w := by
  rw [run_eql_struct, eqn4 9998]
  rfl
theorem wd_eq (a : Int) : (a == a % 4294967296) = wdB a := by
  unfold wdB
  by_cases h : 0 ≤ a ∧ a ≤ 4294967295
  · rw [decide_eq_true h]
    simp
    omega
  · rw [decide_eq_false h]
    simp
    omega

theorem gb_refl (w : World) (r : Option Nat) : w.grownBy w r := ⟨rfl, rfl, rfl, Nat.le_refl _, fun _ _ _ => rfl⟩
theorem gb_below {w0 w u : World} {r : Option Nat} (h : w0.grownBy w r) (hb : Below w.heap.size w u) : w0.grownBy u r :=
  ⟨hb.os.trans h.os, hb.tape.trans h.tape, hb.output.trans h.output, Nat.le_trans h.size hb.size, fun k hk hn => (hb.block k (Nat.lt_of_lt_of_le hk h.size)).trans (h.block k hk hn)⟩
theorem gb_grow {w0 w u : World} {r : Option Nat} (h : w0.grownBy w r) (hg : w.grownBy u r) : w0.grownBy u r :=
  ⟨hg.os.trans h.os, hg.tape.trans h.tape, hg.output.trans h.output, Nat.le_trans h.size hg.size, fun k hk hn => (hg.block k (Nat.lt_of_lt_of_le hk h.size) hn).trans (h.block k hk hn)⟩
theorem setv_size (s : ByteArray) (k : Nat) (n : Int) (h : k + 4 ≤ s.size) : (setv s k n).size = s.size := by
  unfold setv
  rw [ByteArray.size_append', ByteArray.size_append', ByteArray.size_extract, ByteArray.size_extract, pw_size]
  omega
/-- Four words put one behind the other. -/
def setd (s : ByteArray) (k : Nat) (a b c d : Int) : ByteArray := setv (setv (setv (setv s k a) (k + 4) b) (k + 8) c) (k + 12) d
theorem setd_size (s : ByteArray) (k : Nat) (a b c d : Int) (h : k + 16 ≤ s.size) : (setd s k a b c d).size = s.size := by
  have h1 := setv_size s k a (by omega)
  have h2 := setv_size (setv s k a) (k + 4) b (by omega)
  have h3 := setv_size (setv (setv s k a) (k + 4) b) (k + 8) c (by omega)
  have h4 := setv_size (setv (setv (setv s k a) (k + 4) b) (k + 8) c) (k + 12) d (by omega)
  unfold setd
  omega
theorem ix0 (a b c d : Int) (w : World) : Sem.run Try.prog (Instr.index 292 (.agg #[.int .i64 a, .int .i64 b, .int .i64 c, .int .i64 d]) (.int .i64 0)) w = .ok (.int .i64 a) w := by kernel_rfl
theorem ix1 (a b c d : Int) (w : World) : Sem.run Try.prog (Instr.index 292 (.agg #[.int .i64 a, .int .i64 b, .int .i64 c, .int .i64 d]) (.int .i64 1)) w = .ok (.int .i64 b) w := by kernel_rfl
theorem ix2 (a b c d : Int) (w : World) : Sem.run Try.prog (Instr.index 292 (.agg #[.int .i64 a, .int .i64 b, .int .i64 c, .int .i64 d]) (.int .i64 2)) w = .ok (.int .i64 c) w := by kernel_rfl
theorem ix3 (a b c d : Int) (w : World) : Sem.run Try.prog (Instr.index 292 (.agg #[.int .i64 a, .int .i64 b, .int .i64 c, .int .i64 d]) (.int .i64 3)) w = .ok (.int .i64 d) w := by kernel_rfl
/-- So many of four words are put. -/
def setn (s : ByteArray) (k : Nat) (a b c d : Int) : Nat → ByteArray
  | 0 => s
  | 1 => setv s k a
  | 2 => setv (setv s k a) (k + 4) b
  | 3 => setv (setv (setv s k a) (k + 4) b) (k + 8) c
  | _ => setd s k a b c d
theorem setn_size (s : ByteArray) (k : Nat) (a b c d : Int) (h : k + 16 ≤ s.size) (j : Nat) : (setn s k a b c d j).size = s.size := by
  have h1 := setv_size s k a (by omega)
  have h2 := setv_size (setv s k a) (k + 4) b (by omega)
  have h3 := setv_size (setv (setv s k a) (k + 4) b) (k + 8) c (by omega)
  have h4 := setd_size s k a b c d h
  match j with
  | 0 => rfl
  | 1 => exact h1
  | 2 => exact h2.trans h1
  | 3 => exact h3.trans (h2.trans h1)
  | _ + 4 => exact h4
end Go.Proofs.Ythhbfghbpapklab
