import Derived.Test.YthhbfghbpapklabSwS
import Derived.Test.YthhbfghbpapklabGAx
import Derived.Test.YthhbfghbpapklabJoinedCore
import Derived.Lib.BufferWrite
import Derived.Laws.CopyRow
import Derived.Laws.MakeOwn
import Derived.Deep.QuietTactic
import Derived.BigQuiet
import Derived.BigRegion
import Derived.Deep.RegionWith
import Derived.Deep.RegionLaw
import Derived.Lib.LazyBuf
import Derived.OwnWalk
import Derived.Laws.CopyOwn
namespace Go.Proofs.Ythhbfghbpapklab
open Go.ChangeShapes Go.WideShapes Go.ChangeAt Go.RowKit

/-- The cells of a text's bytes. -/
def mcel (s : ByteArray) : Array Value := (cells8 s.data.toList).toArray
theorem bsize (s : ByteArray) : s.data.toList.length = s.size := Array.length_toList
theorem mcel_size (s : ByteArray) : (mcel s).size = s.size := by
  rw [← bsize]
  simp [mcel, cells8]
/-- A memory that lies in a block. -/
def MemAt (w : World) (b : Nat) (s : ByteArray) : Prop := w.heap[b]? = some (.cells (mcel s) 158 (0, 0))
theorem MemAt.lt {w : World} {b : Nat} {s : ByteArray} (h : MemAt w b s) : b < w.heap.size := (Array.getElem?_eq_some_iff.1 h).1
theorem MemAt.cell {w : World} {b : Nat} {s : ByteArray} (h : MemAt w b s) (k : Nat) (hk : k < s.size) : w.cell? ⟨b, k, none⟩ = some (.int .u8 (bt s k)) := by
  unfold MemAt at h
  have e : (mcel s)[k]? = some (.int .u8 (bt s k)) := by
    rw [← bt_eq s k hk]
    simp only [mcel, cells8, List.getElem?_toArray, List.getElem?_map]
    rw [List.getElem?_eq_getElem (by rw [bsize]; exact hk)]
    rfl
  simp [World.cell?, h, e]
theorem MemAt.fz {w : World} {b : Nat} {s : ByteArray} (h : MemAt w b s) (k : Nat) : w.frozen? ⟨b, k, none⟩ = false := by
  unfold MemAt at h
  simp [World.frozen?, h]
theorem MemAt.below {B b : Nat} {s : ByteArray} {w w' : World} (h : MemAt w b s) (hb : Below B w w') (hn : b < B) : MemAt w' b s := (hb.block b hn).trans h
/-- The value of such a memory of n frames. -/
def mv (b n : Nat) : Value := .slice (some ⟨b, 0, none⟩) n n

theorem memHolds_any (b n : Nat) (x : Int) (w : World) :
    Calls Try.prog 230 #[mv b n, .int .i64 x] w fun e w' => e = .returned (.bool (decide (0 ≤ x) && decide (x < n))) ∧ w' = w := by
  by_cases h : 0 ≤ x
  · unfold mv
    go_enter Try.func230, Try.ntmps230
    go_wp2
    go_ret
    exact ⟨ret_bool (by simp [h]), rfl⟩
  · unfold mv
    go_enter Try.func230, Try.ntmps230
    go_wp2
    go_ret
    exact ⟨ret_bool (by simp; omega), rfl⟩

theorem frLen : Try.prog.arrayLen 158 = 256 := by kernel_rfl
theorem frElem : Try.prog.elem 158 = 5 := by kernel_rfl
theorem frUnd : Try.prog.underlying 158 = some (.array (Try.prog.arrayLen 158) (Try.prog.elem 158)) := by kernel_rfl
theorem u8size (w : World) : (Go.sizeOf 5).run Try.prog w = .ok 1 w := by kernel_rfl
theorem sl_frame (b o r : Nat) (x : Int) (hx : x = r) (hr : r < 256) (w : World) : Sem.run Try.prog (Instr.sliceAt 158 (.pointer (some ⟨b, o, none⟩)) (some (.int .i64 x)) none none) w = .ok (.slice (some ⟨b, o + r, none⟩) (256 - r) (256 - r)) w := by
  subst hx
  have h := run_sliceAt_array_l w 158 ⟨b, o, none⟩ frUnd .i64 (r : Int) (by omega) (by rw [frLen]; omega)
  rw [h, frElem, u8size]
  simp only [Result.andThen_ok, slicedAt, frLen, Int.toNat_natCast]
  rw [if_neg (by omega)]
  simp [Addr.add]
theorem sl_frame0 (b o : Nat) (w : World) : Sem.run Try.prog (Instr.sliceAt 158 (.pointer (some ⟨b, o, none⟩)) none none none) w = .ok (.slice (some ⟨b, o, none⟩) 256 256) w := by
  have h := run_sliceAt_array_all w 158 ⟨b, o, none⟩ frUnd
  rw [h, frElem, u8size]
  simp only [Result.andThen_ok, slicedAt, frLen]
  rw [if_neg (by omega)]
  simp [Addr.add]

set_option maxRecDepth 100000 in
set_option maxHeartbeats 1000000 in
theorem restOf_any (b n : Nat) (k : Nat) (w : World) (hf : k < n * 256) (hs : n ≤ 256) :
    Calls Try.prog 130 #[mv b n, .int .i64 k] w fun e w' => e = .returned (.slice (some ⟨b, k, none⟩) (256 - k % 256) (256 - k % 256)) ∧ w' = w := by
  unfold mv
  have hf1 : k / 256 < n := by omega
  have hf2 : (k : Int) / 256 < (n : Int) := by omega
  have hsl := fun w => sl_frame b (k / 256 * 256) (k % 256) ((k : Int) % 256) (by omega) (by omega) w
  have ek : k / 256 * 256 + k % 256 = k := by omega
  rw [ek] at hsl
  clear ek
  go_enter Try.func130, Try.ntmps130
  go_wp2
  go_ret
  exact ⟨rfl, rfl⟩

set_option maxRecDepth 100000 in
set_option maxHeartbeats 1000000 in
theorem memWord_any (b n : Nat) (s : ByteArray) (k : Nat) (w : World) (h : MemAt w b s) (hn : s.size = n * 256) (hs : s.size ≤ 65536) (hk : k + 4 ≤ s.size) (h4 : k % 4 = 0) :
    Calls Try.prog 216 #[mv b n, .int .i64 k] w fun e w' => e = .returned (.int .i64 (wv s k)) ∧ ∃ q, w' = w.drewN q := by
  have HR : Hid _ := restOf_any b n k w (by omega) (by omega)
  unfold mv at HR ⊢
  have c0 := h.cell k (by omega)
  have c1 := h.cell (k + 1) (by omega)
  have c2 := h.cell (k + 2) (by omega)
  have c3 := h.cell (k + 3) (by omega)
  clear h
  obtain ⟨L, hL⟩ : ∃ L, 256 - k % 256 = L := ⟨_, rfl⟩
  have hL4 : 4 ≤ L := by omega
  rw [hL] at HR
  obtain ⟨a0, d0⟩ := bt_b s k
  obtain ⟨a1, d1⟩ := bt_b s (k + 1)
  obtain ⟨a2, d2⟩ := bt_b s (k + 2)
  obtain ⟨a3, d3⟩ := bt_b s (k + 3)
  have o1 := or_join 8 256 (by simp) (by omega) (bt s k) (bt s (k + 1)) a0 (by omega) a1 d1
  have o2 := or_join 16 65536 (by simp) (by omega) (bt s k + bt s (k + 1) * 256) (bt s (k + 2)) (by omega) (by omega) a2 d2
  have o3 := or_join 24 16777216 (by simp) (by omega) (bt s k + bt s (k + 1) * 256 + bt s (k + 2) * 65536) (bt s (k + 3)) (by omega) (by omega) a3 d3
  clear hL
  go_enter Try.func216, Try.ntmps216
  go_wp2_with (go_at_call 130; refine Calls.mono HR.out ?_; rintro e u1 ⟨rfl, rfl⟩)
  go_quiet (fail)
  go_wp2
  go_ret
  exact ⟨ret_int (by rfl), nq, rfl⟩

theorem cells8_one (l : List UInt8) : ∀ v ∈ cells8 l, v.oneCell' = true := by
  intro v hv
  simp only [cells8, List.mem_map] at hv
  obtain ⟨b, _, rfl⟩ := hv
  rfl
theorem u8info : (Try.prog.info? 5).map (·.size) = some 1 := by kernel_rfl
/-- A string goes over a row's cells, as far as there is room. -/
theorem run_copy_str (w : World) (ty g o dLen dCap m : Nat) (s : ByteArray) (cur : Array Value) (t : TypeId)
    (hg : w.heap[g]? = some (.cells cur t (0, 0))) (hm : Nat.min s.size dLen = m) (hfit : o + m ≤ cur.size) :
    (Builtin.copy_ #[90, 9] ty #[.slice (some ⟨g, o, none⟩) dLen dCap, .string s]).run Try.prog w =
      .ok (goInt m) (w.setRow g (cur.toList.take o ++ (cells8 s.data.toList).take m ++ cur.toList.drop (o + m)).toArray) := by
  have hl : ((cells8 s.data.toList).take m).length = m := by
    rw [List.length_take]
    have : (cells8 s.data.toList).length = s.size := by
      rw [← bsize]
      simp [cells8]
    rw [this, ← hm]
    exact Nat.min_eq_left (Nat.min_le_left _ _)
  have hst := run_storeCells_at Try.prog g o t ((cells8 s.data.toList).take m) 0 cur w hg (by rw [hl]; simpa using hfit) (fun v hv => cells8_one _ v (List.mem_of_mem_take hv))
  rw [hl] at hst
  simp only [Nat.add_zero] at hst
  have htk : List.take m (List.map (fun b : UInt8 => Value.int IntKind.u8 (b.toNat : Int)) s.data.toList) = (cells8 s.data.toList).take m := rfl
  obtain ⟨i0, hi, hz0, hz1, hz2⟩ := info_parts Try.info5
  simp [Builtin.copy_, run_underlying Try.underlying90, Builtin.lenOf, Builtin.firstCells, sizeOf, typeInfo, hi, hm]
  rw [htk, hst]
  simp [Result.andThen]
theorem step_copy_str {ops : Array Oper} {o : Oper} {a : Act} {w : World} {K : Act → World → Prop} {Q : Exit → Act → World → Prop} {E : Prop}
    (hgd : o.guard = none) (d x : Operand) (hop : o.op = Op.call { callee := Callee.builtin Builtin.copy, args := #[d, x], argTypes := #[90, 9] })
    (g off dLen dCap m : Nat) (hd : a.eval d = .slice (some ⟨g, off, none⟩) dLen dCap) (s : ByteArray) (hx : a.eval x = .string s) (cur : Array Value) (t : TypeId)
    (hg : w.heap[g]? = some (.cells cur t (0, 0))) (hm : Nat.min s.size dLen = m) (hfit : off + m ≤ cur.size)
    (hK : K (a.put o.dst (goInt m)) (w.setRow g (cur.toList.take off ++ (cells8 s.data.toList).take m ++ cur.toList.drop (off + m)).toArray)) :
    if Region.wanted o (yielded ops a.tmps) = true then Oper.wp Try.prog o a w K Q else E := by
  have hw : Region.wanted o (yielded ops a.tmps) = true := by simp [Region.wanted, hgd]
  rw [if_pos hw]
  have hrun := run_copy_str w o.type g off dLen dCap m s cur t hg hm hfit
  unfold Oper.wp
  rw [List.append_assoc] at hK
  simp [execOp, hop, resolve, invoke, builtin, hd, hx, hrun, Result.andThen]
  exact hK
theorem MemAt.row {w : World} {b : Nat} {s s' : ByteArray} (h : MemAt w b s) {cs : Array Value} (hc : cs = mcel s') : MemAt (w.setRow b cs) b s' := by
  subst hc
  exact setRow_heap w b _ _ _ _ h
theorem mcel_set (s : ByteArray) (k : Nat) (n : Int) : ((mcel s).toList.take k ++ (cells8 (pw n).data.toList).take 4 ++ (mcel s).toList.drop (k + 4)).toArray = mcel (setv s k n) := by
  have hp : ((pw n).data.toList).length = 4 := by rw [bsize]; rfl
  have e4 : (cells8 (pw n).data.toList).take 4 = cells8 (pw n).data.toList := by
    apply List.take_of_length_le
    simp [cells8, hp]
  rw [e4]
  unfold mcel setv
  congr 1
  have e5 : (s.data.toList.drop (k + 4)).take (s.size - (k + 4)) = s.data.toList.drop (k + 4) := by
    apply List.take_of_length_le
    rw [List.length_drop, bsize]
    exact Nat.le_refl _
  have e6 : (s.extract 0 k ++ pw n ++ s.extract (k + 4) s.size).data.toList = s.data.toList.take k ++ (pw n).data.toList ++ s.data.toList.drop (k + 4) := by
    simp only [ByteArray.data_append, Array.toList_append, ByteArray.data_extract, Array.toList_extract, List.extract_eq_take_drop, e5]
    simp
  rw [e6]
  simp [cells8]

theorem pw4 (n : Int) : Nat.min (pw n).size 4 = 4 := by rfl
set_option maxRecDepth 100000 in
set_option maxHeartbeats 1000000 in
theorem memPut_any (b n : Nat) (s : ByteArray) (k : Nat) (x : Int) (w : World) (h : MemAt w b s) (hn : s.size = n * 256) (hs : s.size ≤ 65536) (hk : k + 4 ≤ s.size) (h4 : k % 4 = 0) :
    Calls Try.prog 220 #[mv b n, .int .i64 k, .int .i64 x] w fun e w' => e = .returned (.tuple #[]) ∧ MemAt w' b (setv s k x) ∧ w.grownBy w' (some b) := by
  have HR : Hid _ := fun w => restOf_any b n k w (by omega) (by omega)
  unfold mv at HR ⊢
  obtain ⟨L, hL⟩ : ∃ L, 256 - k % 256 = L := ⟨_, rfl⟩
  have hL4 : 4 ≤ L := by omega
  rw [hL] at HR
  have hmin : Hid (Nat.min (pw x).size L = 4) := by
    show Nat.min 4 L = 4
    exact Nat.min_eq_left hL4
  have hfit : Hid (k + 4 ≤ (mcel s).size) := by
    show _ ≤ _
    rw [mcel_size]
    exact hk
  have HM : Hid (MemAt w b s) := h
  clear hL h
  go_enter Try.func220, Try.ntmps220
  go_wp2_with first
    | (go_at_call 130; refine Calls.mono (HR.out _) ?_; rintro e u1 ⟨rfl, rfl⟩)
    | (go_at_call 223; refine (implPutWord_any _ _).mono ?_; rintro e u2 ⟨rfl, hw2⟩; have HM2 : Hid (MemAt u2 b s) := HM.out.below hw2 HM.out.lt; have hcp := run_copy_str u2 3 b k L L 4 (pw x) (mcel s) 158 HM2.out hmin.out hfit.out; rw [mcel_set] at hcp)
  refine bodyPost_end (v := .tuple #[]) (by simp [results, Try.results220, go_sem]) rfl ⟨rfl, HM2.out.row rfl, ?_⟩
  exact ⟨hw2.os, hw2.tape, hw2.output, by rw [size_setRow]; exact hw2.size, fun k hk hne => (setRow_other _ _ _ _ (fun e => hne (by rw [e]))).trans (hw2.block k hk)⟩

/-- So many zeros. -/
def zrs (m : Nat) : List Value := List.replicate m (.int .u8 0)
theorem frInfo : (Try.prog.info? 158).map (fun i => (i.size, i.bytes)) = some (256, 256) := by kernel_rfl
theorem frZero : ((Try.prog.info? 158).bind (·.zero)).map (·.cells) = some (Array.replicate 256 (.int .u8 0)) := by kernel_rfl
theorem made256 (m : Nat) : (madeCells (Array.replicate 256 (.int .u8 0)) m).toList = zrs m := by
  unfold madeCells zrs
  apply List.ext_getElem
  · simp
  · intro i h1 h2
    have : i % 256 < 256 := Nat.mod_lt _ (by omega)
    simp [this]
theorem mkMem (w : World) (n : Nat) (hn : n ≤ 256) : (Instr.makeSlice 86 (.int .i64 n) (.int .i64 n)).run Try.prog w = .ok (.slice (some ⟨w.heap.size, 0, none⟩) n n) (w.alloc (.cells (zrs (n * 256)).toArray 158)) := by
  have h1 := frInfo
  have h2 := frZero
  cases hq : Try.prog.info? 158 with
  | none => simp [hq] at h1
  | some i =>
    simp [hq] at h1 h2
    obtain ⟨z, hz, hc⟩ := h2
    have hr := run_makeSlice (P := Try.prog) w 86 158 i z Try.underlying86 hq hz .i64 .i64 n n (by omega) (by omega) (by rw [h1.1]; omega) (by rw [h1.2]; omega) (by omega)
    rw [hr, hc, h1.1]
    simp only [Int.toNat_natCast]
    rw [← made256]

def rdC (s : ByteArray) (k n : Nat) : Array Value := (cells8 (s.data.toList.take (k * 256)) ++ zrs ((n - k) * 256)).toArray
theorem rdC_size (s : ByteArray) (k n : Nat) (hn : s.size = n * 256) (hk : k ≤ n) : (rdC s k n).size = n * 256 := by
  have h := bsize s
  simp only [rdC, cells8, zrs, List.size_toArray, List.length_append, List.length_map, List.length_take, List.length_replicate, h]
  rw [Nat.sub_mul, Nat.min_eq_left (by rw [hn]; exact Nat.mul_le_mul_right _ hk)]
  have := Nat.mul_le_mul_right 256 hk
  omega
theorem two_drop {α : Type} (A Z C : List α) (m : Nat) (h : m = A.length + Z.length) : (A ++ (Z ++ C)).drop m = C := by
  subst h
  rw [← List.append_assoc, ← List.length_append]
  exact List.drop_left
theorem one_take {α : Type} (A D : List α) (m : Nat) (h : m = A.length) : (A ++ D).take m = A := by
  subst h
  exact List.take_left
theorem rdC_step (s : ByteArray) (k n : Nat) (hn : s.size = n * 256) (hk : k < n) :
    ((rdC s k n).toList.take (k * 256) ++ (cells8 (s.extract (k * 256) s.size).data.toList).take 256 ++ (rdC s k n).toList.drop (k * 256 + 256)).toArray = rdC s (k + 1) n := by
  have h := bsize s
  have hl : (cells8 (s.data.toList.take (k * 256))).length = k * 256 := by
    simp only [cells8, List.length_map, List.length_take, h]
    exact Nat.min_eq_left (by omega)
  have e5 : (s.extract (k * 256) s.size).data.toList = s.data.toList.drop (k * 256) := by
    simp only [ByteArray.data_extract, Array.toList_extract, List.extract_eq_take_drop]
    apply List.take_of_length_le
    rw [List.length_drop, h]
    exact Nat.le_refl _
  have e6 : s.data.toList.take ((k + 1) * 256) = s.data.toList.take (k * 256) ++ (s.data.toList.drop (k * 256)).take 256 := by
    rw [show (k + 1) * 256 = k * 256 + 256 by omega, List.take_add]
  have e7 : zrs ((n - k) * 256) = zrs 256 ++ zrs ((n - (k + 1)) * 256) := by
    rw [zrs, zrs, zrs, List.replicate_append_replicate, show (n - k) * 256 = 256 + (n - (k + 1)) * 256 by omega]
  have hz : (zrs 256).length = 256 := List.length_replicate
  rw [e5]
  unfold rdC
  rw [e6, e7, cells8_app]
  generalize cells8 (s.data.toList.take (k * 256)) = A at hl ⊢
  generalize zrs 256 = Z at hz ⊢
  generalize zrs ((n - (k + 1)) * 256) = C
  have e8 : (A ++ (Z ++ C)).drop (k * 256 + 256) = C := two_drop A Z C _ (by rw [hl, hz])
  have e9 : (A ++ (Z ++ C)).take (k * 256) = A := one_take A _ _ hl.symm
  show ((A ++ (Z ++ C)).take (k * 256) ++ _ ++ (A ++ (Z ++ C)).drop (k * 256 + 256)).toArray = _
  rw [e8, e9]
  simp [cells8]
theorem rdC_all (s : ByteArray) (n : Nat) (hn : s.size = n * 256) : rdC s n n = mcel s := by
  unfold rdC mcel zrs
  rw [List.take_of_length_le (by rw [bsize, hn]; exact Nat.le_refl _)]
  simp
theorem rdC_zero (s : ByteArray) (n : Nat) : rdC s 0 n = (zrs (n * 256)).toArray := by
  unfold rdC
  simp [cells8]
theorem sl_fromK (s : ByteArray) (k : Nat) (h : k ≤ s.size) (w : World) : Sem.run Try.prog (Instr.slice 9 (.string s) (some (.int .i64 (k : Int))) none none) w = .ok (.string (s.extract k s.size)) w := by
  rw [run_slice_string_from_if _ _ _ _ _ Try.underlying9, if_pos (by omega)]
  rfl
set_option maxRecDepth 100000 in
set_option maxHeartbeats 1000000 in
theorem readMemory_any (s : ByteArray) (n : Nat) (w : World) (hn : s.size = n * 256) (hn1 : n ≤ 256) :
    Calls Try.prog 47 #[.string s] w fun e w' => e = .returned (mv w.heap.size n) ∧ MemAt w' w.heap.size s ∧ Below w.heap.size w w' ∧ w'.heap.size = w.heap.size + 1 := by
  have hq : (s.size : Int) / 256 = (n : Int) := by omega
  have hmk := mkMem w n hn1
  unfold mv
  go_enter Try.func47, Try.ntmps47
  go_wp2
  go_loopw [11] (fun i wr => ∃ k : Nat, k ≤ n ∧ i = .int .i64 k ∧ wr.heap[w.heap.size]? = some (.cells (rdC s k n) 158 (0, 0)) ∧ Below w.heap.size w wr ∧ wr.heap.size = w.heap.size + 1) (fun i _ => n - (intOf i).toNat)
  case atStart => exact ⟨0, Nat.zero_le _, rfl, by rw [rdC_zero]; exact (MapKept.heap_alloc w _).1, (Below.refl _ _).alloc (Nat.le_refl _) _, by simp⟩
  case round =>
    obtain ⟨k, hk, rfl, hb, hbl, hsz⟩ := hrel
    clear hmk
    by_cases hlt : k < n
    · have hs0 := fun w' => sl_frame0 w.heap.size (k * 256) w'
      have p1 : 0 ≤ (k : Int) * 256 := by omega
      have p2 : (k : Int) * 256 ≤ (s.size : Int) := by omega
      have p3 : ((k : Int) * 256).toNat = k * 256 := by omega
      have q1 : IntKind.i64.wrap ((k : Int) * 256) = (k : Int) * 256 := by rw [IntKind.wrap_i64]; omega
      have hmin : Nat.min (s.extract (k * 256) s.size).size 256 = 256 := by
        rw [ByteArray.size_extract]
        exact Nat.min_eq_right (by omega)
      have hcp := run_copy_str wr.drew 3 w.heap.size (k * 256) 256 256 256 (s.extract (k * 256) s.size) (rdC s k n) 158 hb hmin (by rw [rdC_size s k n hn hk]; omega)
      rw [rdC_step s k n hn hlt] at hcp
      have HN : Hid (s.size = n * 256) := hn
      clear hn hq hmin
      go_wp2
      go_region
      go_wp2
      have h1 : Below w.heap.size w wr.drew := ⟨hbl.os, hbl.tape, hbl.output, hbl.size, hbl.block⟩
      refine ⟨⟨k + 1, by omega, by simp, setRow_heap _ _ _ _ _ _ hb, below_setRow h1 (Nat.le_refl _) _, by rw [size_setRow]; exact hsz⟩, ?_⟩
      simp [intOf]
      omega
    · obtain rfl : k = n := by omega
      go_wp2
      go_ret
      exact ⟨rfl, by rw [rdC_all s k hn] at hb; exact hb, hbl, hsz⟩

theorem mkBytes (w : World) (m : Nat) (hm : m ≤ 65536) : (Instr.makeSlice 90 (.int .i64 m) (.int .i64 m)).run Try.prog w = .ok (.slice (some ⟨w.heap.size, 0, none⟩) m m) (w.alloc (.cells (zrs m).toArray 5)) := by
  obtain ⟨i0, hi, hz0, hz1, hz2⟩ := info_parts Try.info5
  have hr := run_makeSlice (P := Try.prog) w 90 5 i0 (.int .u8 0) Try.underlying90 hi hz0 .i64 .i64 m m (by omega) (by omega) (by rw [hz1]; omega) (by rw [hz2]; omega) (by omega)
  rw [hr, hz1]
  have e : madeCells (Value.int .u8 0).cells (m * 1) = (zrs m).toArray := by
    rw [Nat.mul_one]
    exact Array.toList_inj.1 (toList_madeCells_one _ _)
  simp only [Int.toNat_natCast]
  rw [e]
theorem own_block {w : World} {g : Nat} {s : ByteArray} (h : w.heap[g]? = some (.cells (mcel s) 5 (0, 0))) (hs : s.size ≤ 65536) : w.ownsRow 0 5 1 (.slice (some ⟨g, 0, none⟩) s.size s.size) s.size (cells8 s.data.toList) := by
  refine ⟨?_, .inr ⟨g, s.size, mcel s, rfl, Nat.zero_le _, h, Nat.le_refl _, by unfold maxLen; omega, by rw [mcel_size]; omega, ?_⟩⟩
  · rw [← bsize]
    simp [cells8]
  · show (cells8 s.data.toList).take (s.size * 1) = _
    apply List.take_of_length_le
    rw [← bsize]
    simp [cells8]
set_option maxRecDepth 100000 in
set_option maxHeartbeats 1000000 in
theorem memText_any (b : Nat) (s : ByteArray) (n : Nat) (w : World) (hM : MemAt w b s) (hn : s.size = n * 256) (hn1 : n ≤ 256) :
    Calls Try.prog 49 #[mv b n] w fun e w' => e = .returned (.string s) ∧ Below w.heap.size w w' := by
  have hlt := hM.lt
  have hmk := mkBytes w (n * 256) (by omega)
  rw [show ((n * 256 : Nat) : Int) = (n : Int) * 256 from by omega] at hmk
  unfold mv
  have HM : Hid (MemAt w b s) := hM
  clear hM
  go_enter Try.func49, Try.ntmps49
  go_wp2
  go_loopw [11] (fun i wr => ∃ k : Nat, k ≤ n ∧ i = .int .i64 k ∧ wr.heap[w.heap.size]? = some (.cells (rdC s k n) 5 (0, 0)) ∧ Below w.heap.size w wr) (fun i _ => n - (intOf i).toNat)
  case atStart => exact ⟨0, Nat.zero_le _, rfl, by rw [rdC_zero]; exact (MapKept.heap_alloc w _).1, (Below.refl _ _).alloc (Nat.le_refl _) _⟩
  case round =>
    obtain ⟨k, hk, rfl, hb, hbl⟩ := hrel
    clear hmk
    have hM2 : MemAt wr b s := HM.out.below hbl hlt
    by_cases hlt2 : k < n
    · have hs0 := fun w' => sl_frame0 b (k * 256) w'
      have p1 : 0 ≤ (k : Int) * 256 := by omega
      have p2 : (k : Int) * 256 ≤ ((n * 256 : Nat) : Int) := by omega
      have p3 : ((k : Int) * 256).toNat = k * 256 := by omega
      have p4 : ¬ n * 256 = k * 256 := by omega
      have q1 : IntKind.i64.wrap ((k : Int) * 256) = (k : Int) * 256 := by rw [IntKind.wrap_i64]; omega
      have e5 : (s.extract (k * 256) s.size).data.toList = s.data.toList.drop (k * 256) := by
        simp only [ByteArray.data_extract, Array.toList_extract, List.extract_eq_take_drop]
        apply List.take_of_length_le
        rw [List.length_drop, bsize]
        exact Nat.le_refl _
      have hcl : ((cells8 (s.extract (k * 256) s.size).data.toList).take 256).length = 256 := by
        rw [e5, List.length_take]
        apply Nat.min_eq_left
        simp only [cells8, List.length_map, List.length_drop, bsize]
        omega
      have hsrc : ∀ j v, ((cells8 (s.extract (k * 256) s.size).data.toList).take 256)[j]? = some v → wr.drew.cell? ((⟨b, k * 256, none⟩ : Addr).add j) = some v := by
        intro j v hj
        rw [e5, List.getElem?_take] at hj
        split at hj
        · have e6 : (mcel s)[k * 256 + j]? = some v := by
            unfold mcel
            rw [List.getElem?_toArray]
            have e7 : (cells8 (s.data.toList.drop (k * 256))) = (cells8 s.data.toList).drop (k * 256) := by simp [cells8]
            rw [e7, List.getElem?_drop] at hj
            exact hj
          have h3 : wr.drew.heap[b]? = some (.cells (mcel s) 158 (0, 0)) := hM2
          rw [Addr.add_lit]
          simp [World.cell?, h3, e6]
        · cases hj
      have hmin : 256 = Nat.min 256 (n * 256 - k * 256) := (Nat.min_eq_left (by omega)).symm
      have hcp := run_copy_row (P := Try.prog) wr.drew 90 90 3 5 w.heap.size (k * 256) (n * 256 - k * 256) (n * 256 - k * 256) ⟨b, k * 256, none⟩ 256 256 (rdC s k n) 5 ((cells8 (s.extract (k * 256) s.size).data.toList).take 256) Try.underlying90 u8info hb (by rw [hcl]; exact hmin) hsrc (by rw [hcl, rdC_size s k n hn hk]; omega) (fun v hv => cells8_one _ v (List.mem_of_mem_take hv))
      rw [hcl, rdC_step s k n hn hlt2] at hcp
      have HN : Hid (s.size = n * 256) := hn
      clear hn hmin hsrc hcl e5
      go_wp2
      go_region
      go_wp2
      have h1 : Below w.heap.size w wr.drew := ⟨hbl.os, hbl.tape, hbl.output, hbl.size, hbl.block⟩
      refine ⟨⟨k + 1, by omega, by simp, setRow_heap _ _ _ _ _ _ hb, below_setRow h1 (Nat.le_refl _) _⟩, ?_⟩
      simp [intOf]
      omega
    · obtain rfl : k = n := by omega
      rw [rdC_all s k hn] at hb
      have hcv := conv_own wr 0 _ _ _ (own_block hb (by omega))
      rw [hn] at hcv
      have es : (⟨s.data.toList.toArray⟩ : ByteArray) = s := by simp
      rw [es] at hcv
      clear es
      go_wp2
      go_ret
      exact ⟨rfl, hbl⟩
end Go.Proofs.Ythhbfghbpapklab
