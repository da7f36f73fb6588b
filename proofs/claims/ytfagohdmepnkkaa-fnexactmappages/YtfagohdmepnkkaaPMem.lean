import Derived.Test.YtfagohdmepnkkaaSwS
import Derived.Test.YtfagohdmepnkkaaMemF
import Derived.Test.YtfagohdmepnkkaaJoinedCore
import Derived.Lib.BufferWrite
import Derived.Laws.CopyRow
import Derived.Laws.MakeOwn
import Derived.Deep.QuietTactic
import Derived.BigQuiet
import Derived.BigRegion
import Derived.Deep.RegionWith
import Derived.Deep.RegionLaw
namespace Go.Proofs.Ytfagohdmepnkkaa
open Go.ChangeShapes Go.WideShapes Go.ChangeAt Go.RowKit

/-- The cells of a text's bytes. -/
def mcel (s : ByteArray) : Array Value := (cells8 s.data.toList).toArray
theorem bsize (s : ByteArray) : s.data.toList.length = s.size := Array.length_toList
theorem mcel_size (s : ByteArray) : (mcel s).size = s.size := by
  rw [← bsize]
  simp [mcel, cells8]
/-- A memory that lies in a block. -/
def MemAt (w : World) (b : Nat) (s : ByteArray) : Prop := w.heap[b]? = some (.cells (mcel s) 142 (0, 0))
theorem MemAt.lt {w : World} {b : Nat} {s : ByteArray} (h : MemAt w b s) : b < w.heap.size := (Array.getElem?_eq_some_iff.1 h).1
theorem MemAt.cell {w : World} {b : Nat} {s : ByteArray} (h : MemAt w b s) (k : Nat) (hk : k < s.size) : w.cell? ⟨b, k, none⟩ = some (.int .u8 (bt s k)) := by
  unfold MemAt at h
  have e : (mcel s)[k]? = some (.int .u8 (bt s k)) := by
    rw [← bt_eq s k hk]
    simp only [mcel, cells8, List.getElem?_toArray, List.getElem?_map]
    rw [List.getElem?_eq_getElem (by rw [bsize]; exact hk)]
    rfl
  simp [World.cell?, h, e]
theorem MemAt.fz {w : World} {b : Nat} {s : ByteArray} (h : MemAt w b s) (k : Nat) : w.frozen? ⟨b, k, none⟩ = false := by
  unfold MemAt at h
  simp [World.frozen?, h]
theorem MemAt.below {B b : Nat} {s : ByteArray} {w w' : World} (h : MemAt w b s) (hb : Below B w w') (hn : b < B) : MemAt w' b s := (hb.block b hn).trans h
/-- The value of such a memory of n frames. -/
def mv (b n : Nat) : Value := .slice (some ⟨b, 0, none⟩) n n

theorem memHolds_any (b n : Nat) (x : Int) (w : World) :
    Calls Try.prog 59 #[mv b n, .int .i64 x] w fun e w' => e = .returned (.bool (decide (0 ≤ x) && decide (x < n))) ∧ w' = w := by
  by_cases h : 0 ≤ x
  · unfold mv
    go_enter Try.func59, Try.ntmps59
    go_wp2
    go_ret
    exact ⟨ret_bool (by simp [h]), rfl⟩
  · unfold mv
    go_enter Try.func59, Try.ntmps59
    go_wp2
    go_ret
    exact ⟨ret_bool (by simp; omega), rfl⟩

theorem frLen : Try.prog.arrayLen 142 = 256 := by kernel_rfl
theorem frElem : Try.prog.elem 142 = 5 := by kernel_rfl
theorem frUnd : Try.prog.underlying 142 = some (.array (Try.prog.arrayLen 142) (Try.prog.elem 142)) := by kernel_rfl
theorem u8size (w : World) : (Go.sizeOf 5).run Try.prog w = .ok 1 w := by kernel_rfl
theorem sl_frame (b o r : Nat) (x : Int) (hx : x = r) (hr : r < 256) (w : World) : Sem.run Try.prog (Instr.sliceAt 142 (.pointer (some ⟨b, o, none⟩)) (some (.int .i64 x)) none none) w = .ok (.slice (some ⟨b, o + r, none⟩) (256 - r) (256 - r)) w := by
  subst hx
  have h := run_sliceAt_array_l w 142 ⟨b, o, none⟩ frUnd .i64 (r : Int) (by omega) (by rw [frLen]; omega)
  rw [h, frElem, u8size]
  simp only [Result.andThen_ok, slicedAt, frLen, Int.toNat_natCast]
  rw [if_neg (by omega)]
  simp [Addr.add]
theorem sl_frame0 (b o : Nat) (w : World) : Sem.run Try.prog (Instr.sliceAt 142 (.pointer (some ⟨b, o, none⟩)) none none none) w = .ok (.slice (some ⟨b, o, none⟩) 256 256) w := by
  have h := run_sliceAt_array_all w 142 ⟨b, o, none⟩ frUnd
  rw [h, frElem, u8size]
  simp only [Result.andThen_ok, slicedAt, frLen]
  rw [if_neg (by omega)]
  simp [Addr.add]

set_option maxRecDepth 100000 in
set_option maxHeartbeats 1000000 in
theorem restOf_any (b n : Nat) (k : Nat) (w : World) (hf : k < n * 256) (hs : n ≤ 256) :
    Calls Try.prog 122 #[mv b n, .int .i64 k] w fun e w' => e = .returned (.slice (some ⟨b, k, none⟩) (256 - k % 256) (256 - k % 256)) ∧ w' = w := by
  unfold mv
  have hf1 : k / 256 < n := by omega
  have hf2 : (k : Int) / 256 < (n : Int) := by omega
  have hsl := fun w => sl_frame b (k / 256 * 256) (k % 256) ((k : Int) % 256) (by omega) (by omega) w
  have ek : k / 256 * 256 + k % 256 = k := by omega
  rw [ek] at hsl
  clear ek
  go_enter Try.func122, Try.ntmps122
  go_wp2
  go_ret
  exact ⟨rfl, rfl⟩

set_option maxRecDepth 100000 in
set_option maxHeartbeats 1000000 in
theorem memWord_any (b n : Nat) (s : ByteArray) (k : Nat) (w : World) (h : MemAt w b s) (hn : s.size = n * 256) (hs : s.size ≤ 65536) (hk : k + 4 ≤ s.size) (h4 : k % 4 = 0) :
    Calls Try.prog 101 #[mv b n, .int .i64 k] w fun e w' => e = .returned (.int .i64 (wv s k)) ∧ ∃ q, w' = w.drewN q := by
  have HR : Hid _ := restOf_any b n k w (by omega) (by omega)
  unfold mv at HR ⊢
  have c0 := h.cell k (by omega)
  have c1 := h.cell (k + 1) (by omega)
  have c2 := h.cell (k + 2) (by omega)
  have c3 := h.cell (k + 3) (by omega)
  clear h
  obtain ⟨L, hL⟩ : ∃ L, 256 - k % 256 = L := ⟨_, rfl⟩
  have hL4 : 4 ≤ L := by omega
  rw [hL] at HR
  obtain ⟨a0, d0⟩ := bt_b s k
  obtain ⟨a1, d1⟩ := bt_b s (k + 1)
  obtain ⟨a2, d2⟩ := bt_b s (k + 2)
  obtain ⟨a3, d3⟩ := bt_b s (k + 3)
  have o1 := or_join 8 256 (by simp) (by omega) (bt s k) (bt s (k + 1)) a0 (by omega) a1 d1
  have o2 := or_join 16 65536 (by simp) (by omega) (bt s k + bt s (k + 1) * 256) (bt s (k + 2)) (by omega) (by omega) a2 d2
  have o3 := or_join 24 16777216 (by simp) (by omega) (bt s k + bt s (k + 1) * 256 + bt s (k + 2) * 65536) (bt s (k + 3)) (by omega) (by omega) a3 d3
  clear hL
  go_enter Try.func101, Try.ntmps101
  go_wp2_with (go_at_call 122; refine Calls.mono HR.out ?_; rintro e u1 ⟨rfl, rfl⟩)
  go_quiet (fail)
  go_wp2
  go_ret
  exact ⟨ret_int (by rfl), nq, rfl⟩
end Go.Proofs.Ytfagohdmepnkkaa
