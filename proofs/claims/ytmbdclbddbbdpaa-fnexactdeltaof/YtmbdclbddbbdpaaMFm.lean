import Derived.Test.YtmbdclbddbbdpaaMemF
import Derived.Test.YtmbdclbddbbdpaaMFc
namespace Go.Proofs.Ytmbdclbddbbdpaa
open Go.ChangeShapes Go.WideShapes Go.ChangeAt Go.RowKit

theorem memC_ok {s : ByteArray} (h : memOk s = true) : memC s = 0 := by simp [memC, h]
theorem memC_no {s : ByteArray} (h : memOk s = false) : memC s = 1 := by simp [memC, h]

/-- A machine. -/
structure MV where
  pc : Int
  rs : List Int
  md : Int
  cs : List Int
  vs : List Int
  mem : ByteArray
  st : Int
  ct : Int
  ln : Int
  is : List PV
  os : List PV
  tr : Int
/-- Where its rows are. -/
structure MA where
  ar : Option Addr
  cr : Nat
  ac : Option Addr
  cc : Nat
  av : Option Addr
  cv : Nat
  ai : Option Addr
  ci : Nat
  ao : Option Addr
  co : Nat
def mC (m : MV) (a : MA) : Array Value := #[.int .i64 m.pc, .slice a.ar m.rs.length a.cr, .int .i64 m.md, .slice a.ac m.cs.length a.cc, .slice a.av m.vs.length a.cv, .string m.mem, .int .i64 m.st, .int .i64 m.ct, .int .i64 m.ln, .slice a.ai m.is.length a.ci, .slice a.ao m.os.length a.co, .int .i64 m.tr]
structure MRows (w : World) (m : MV) (a : MA) : Prop where
  r : Irow w (.slice a.ar m.rs.length a.cr) m.rs
  c : Irow w (.slice a.ac m.cs.length a.cc) m.cs
  v : Irow w (.slice a.av m.vs.length a.cv) m.vs
  i : PVrow w (.slice a.ai m.is.length a.ci) m.is
  o : PVrow w (.slice a.ao m.os.length a.co) m.os
theorem MRows.below {w u : World} {m : MV} {a : MA} (h : MRows w m a) (hb : Below w.heap.size w u) : MRows u m a := ⟨h.r.below hb, h.c.below hb, h.v.below hb, h.i.below hb, h.o.below hb⟩
structure MLen (m : MV) : Prop where
  r : m.rs.length ≤ 1048576
  c : m.cs.length ≤ 1048576
  v : m.vs.length ≤ 1048576
  i : m.is.length ≤ 1048576
  o : m.os.length ≤ 1048576
  s : m.mem.size ≤ 1099511627776
/-- A machine's box, and its rows. -/
structure MX (w u : World) (t : Nat) (m : MV) (a : MA) : Prop where
  bel : Below w.heap.size w u
  box : u.heap[w.heap.size]? = some (.cells (mC m a) t (0, 0))
  row : MRows u m a
theorem MX.lt {w u : World} {t : Nat} {m : MV} {a : MA} (h : MX w u t m a) : w.heap.size < u.heap.size := (Array.getElem?_eq_some_iff.1 h.box).1
theorem MX.step {w u u' : World} {t : Nat} {m : MV} {a : MA} (h : MX w u t m a) (hb : Below u.heap.size u u') : MX w u' t m a :=
  ⟨h.bel.trans (hb.mono h.bel.size), (hb.block _ h.lt).trans h.box, h.row.below hb⟩
theorem MX.new {w : World} {t : Nat} {m : MV} {a : MA} (h : MRows w m a) : MX w (w.alloc (.cells (mC m a) t)) t m a :=
  ⟨(Below.refl _ _).alloc (Nat.le_refl _) _, heap_new _ _, h.below ((Below.refl _ _).alloc (Nat.le_refl _) _)⟩
theorem MX.cel {w u : World} {t : Nat} {m : MV} {a : MA} (h : MX w u t m a) : u.cell? ⟨w.heap.size, 0, none⟩ = some (.int .i64 m.pc) ∧ u.cell? ⟨w.heap.size, 1, none⟩ = some (.slice a.ar m.rs.length a.cr) ∧ u.cell? ⟨w.heap.size, 2, none⟩ = some (.int .i64 m.md) ∧ u.cell? ⟨w.heap.size, 3, none⟩ = some (.slice a.ac m.cs.length a.cc) ∧ u.cell? ⟨w.heap.size, 4, none⟩ = some (.slice a.av m.vs.length a.cv) ∧ u.cell? ⟨w.heap.size, 5, none⟩ = some (.string m.mem) ∧ u.cell? ⟨w.heap.size, 6, none⟩ = some (.int .i64 m.st) ∧ u.cell? ⟨w.heap.size, 7, none⟩ = some (.int .i64 m.ct) ∧ u.cell? ⟨w.heap.size, 8, none⟩ = some (.int .i64 m.ln) ∧ u.cell? ⟨w.heap.size, 9, none⟩ = some (.slice a.ai m.is.length a.ci) ∧ u.cell? ⟨w.heap.size, 10, none⟩ = some (.slice a.ao m.os.length a.co) ∧ u.cell? ⟨w.heap.size, 11, none⟩ = some (.int .i64 m.tr) := by
  have h2 := h.box
  unfold mC at h2
  obtain ⟨c0, c1, c2, c3, c4, c5, c6, c7, c8, c9, c10, c11, _⟩ := cel12 h2
  exact ⟨c0, c1, c2, c3, c4, c5, c6, c7, c8, c9, c10, c11⟩
def mfT (m : MV) : Bool := memOk m.mem && portsB m.is && portsB m.os
def mfW (m : MV) : Bool := isW m.pc && wordsB m.rs 16 && decide (m.rs.getD 0 0 = 0) && ctlB m.cs && wordsB m.vs 16
def mfK (m : MV) : Bool := decide (0 ≤ m.md ∧ m.md ≤ 1 ∧ 0 ≤ m.st ∧ m.st ≤ 2)
def mfN (m : MV) : Bool := decide (0 ≤ m.ct) && decide (m.ct ≤ 1099511627776) && decide (0 ≤ m.ln) && decide (m.ln ≤ 127) && decide (0 ≤ m.tr) && decide (m.tr < 2147483629)
theorem mfK_eq (m : MV) : mfK m = ((m.md == 0 || m.md == 1) && (m.st == 0 || m.st == 1 || m.st == 2)) := by
  unfold mfK
  rw [Bool.eq_iff_iff]
  simp
  omega
/-- What MachineFault answers. -/
def mfC (m : MV) : Int := if (mfT m && mfW m && mfK m && mfN m) = true then 0 else 1
end Go.Proofs.Ytmbdclbddbbdpaa
