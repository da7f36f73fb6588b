import Derived.Test.YtmbdclbddbbdpaaSwS
import Derived.Test.YtmbdclbddbbdpaaMemF
import Derived.Test.YtmbdclbddbbdpaaJoinedCore
import Derived.Lib.BufferWrite
import Derived.Laws.CopyRow
import Derived.Laws.MakeOwn
import Derived.Deep.QuietTactic
import Derived.BigQuiet
import Derived.BigRegion
import Derived.Deep.RegionWith
import Derived.Deep.RegionLaw
namespace Go.Proofs.Ytmbdclbddbbdpaa
open Go.ChangeShapes Go.WideShapes Go.ChangeAt Go.RowKit

/-- The cells of a text's bytes. -/
def mcel (s : ByteArray) : Array Value := (cells8 s.data.toList).toArray
theorem bsize (s : ByteArray) : s.data.toList.length = s.size := Array.length_toList
theorem mcel_size (s : ByteArray) : (mcel s).size = s.size := by
  rw [← bsize]
  simp [mcel, cells8]
/-- A memory that lies in a block. -/
def MemAt (w : World) (b : Nat) (s : ByteArray) : Prop := w.heap[b]? = some (.cells (mcel s) 52 (0, 0))
theorem MemAt.lt {w : World} {b : Nat} {s : ByteArray} (h : MemAt w b s) : b < w.heap.size := (Array.getElem?_eq_some_iff.1 h).1
theorem MemAt.cell {w : World} {b : Nat} {s : ByteArray} (h : MemAt w b s) (k : Nat) (hk : k < s.size) : w.cell? ⟨b, k, none⟩ = some (.int .u8 (bt s k)) := by
  unfold MemAt at h
  have e : (mcel s)[k]? = some (.int .u8 (bt s k)) := by
    rw [← bt_eq s k hk]
    simp only [mcel, cells8, List.getElem?_toArray, List.getElem?_map]
    rw [List.getElem?_eq_getElem (by rw [bsize]; exact hk)]
    rfl
  simp [World.cell?, h, e]
theorem MemAt.fz {w : World} {b : Nat} {s : ByteArray} (h : MemAt w b s) (k : Nat) : w.frozen? ⟨b, k, none⟩ = false := by
  unfold MemAt at h
  simp [World.frozen?, h]
theorem MemAt.below {B b : Nat} {s : ByteArray} {w w' : World} (h : MemAt w b s) (hb : Below B w w') (hn : b < B) : MemAt w' b s := (hb.block b hn).trans h
/-- The value of such a memory of n frames. -/
def mv (b n : Nat) : Value := .slice (some ⟨b, 0, none⟩) n n

theorem frLen : Try.prog.arrayLen 52 = 256 := by kernel_rfl
theorem frElem : Try.prog.elem 52 = 5 := by kernel_rfl
theorem frUnd : Try.prog.underlying 52 = some (.array (Try.prog.arrayLen 52) (Try.prog.elem 52)) := by kernel_rfl
theorem u8size (w : World) : (Go.sizeOf 5).run Try.prog w = .ok 1 w := by kernel_rfl
theorem sl_frame (b o r : Nat) (x : Int) (hx : x = r) (hr : r < 256) (w : World) : Sem.run Try.prog (Instr.sliceAt 52 (.pointer (some ⟨b, o, none⟩)) (some (.int .i64 x)) none none) w = .ok (.slice (some ⟨b, o + r, none⟩) (256 - r) (256 - r)) w := by
  subst hx
  have h := run_sliceAt_array_l w 52 ⟨b, o, none⟩ frUnd .i64 (r : Int) (by omega) (by rw [frLen]; omega)
  rw [h, frElem, u8size]
  simp only [Result.andThen_ok, slicedAt, frLen, Int.toNat_natCast]
  rw [if_neg (by omega)]
  simp [Addr.add]
theorem sl_frame0 (b o : Nat) (w : World) : Sem.run Try.prog (Instr.sliceAt 52 (.pointer (some ⟨b, o, none⟩)) none none none) w = .ok (.slice (some ⟨b, o, none⟩) 256 256) w := by
  have h := run_sliceAt_array_all w 52 ⟨b, o, none⟩ frUnd
  rw [h, frElem, u8size]
  simp only [Result.andThen_ok, slicedAt, frLen]
  rw [if_neg (by omega)]
  simp [Addr.add]

end Go.Proofs.Ytmbdclbddbbdpaa
