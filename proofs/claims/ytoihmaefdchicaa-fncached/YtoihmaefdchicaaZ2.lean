import Derived.Test.YtoihmaefdchicaaZ1
import Derived.Test.YtoihmaefdchicaaSwS
import Derived.Laws.BytesArg
import Derived.Lib.AppendStr
import Derived.Laws.OwnMore
import Derived.Lib.BufferWrite
import Derived.Laws.CopyRow
import Derived.Laws.MakeOwn
import Derived.Deep.QuietTactic
import Derived.BigQuiet
import Derived.BigRegion
import Derived.Deep.RegionWith
import Derived.Deep.RegionLaw
import Derived.Lib.LazyBuf
import Derived.OwnWalk
namespace Go.Proofs.Ytoihmaefdchicaa
open Go.ChangeShapes Go.WideShapes Go.ChangeAt Go.RowKit

/-- Right memory: whole frames, one at least, 256 at most. -/
def memOk (s : ByteArray) : Bool := decide (s.size ≠ 0 ∧ s.size ≤ 65536 ∧ s.size % 256 = 0)
/-- What MemFault tells. -/
def memC (s : ByteArray) : Int := if memOk s then 0 else 1
theorem implMemFault_any (s : ByteArray) (w : World) (hs : s.size ≤ 1099511627776) :
    Calls Try.prog 34 #[.string s] w fun e w' => e = .returned (.int .i64 (memC s)) ∧ w' = w := by
  by_cases h1 : s.size = 0
  · have E : Hid (memC s = 1) := by
      show memC s = _
      unfold memC memOk
      have hh := s.size
      split <;> simp_all <;> omega
    go_enter Try.func34, Try.ntmps34
    go_wp2
    all_goals first | (go_ret; exact ⟨ret_int E.out.symm, rfl⟩) | (exfalso; simp_all; done) | (exfalso; simp_all; omega)
  by_cases h2 : 65536 < s.size
  · have E : Hid (memC s = 1) := by
      show memC s = _
      unfold memC memOk
      have hh := s.size
      split <;> simp_all <;> omega
    go_enter Try.func34, Try.ntmps34
    go_wp2
    all_goals first | (go_ret; exact ⟨ret_int E.out.symm, rfl⟩) | (exfalso; simp_all; done) | (exfalso; simp_all; omega)
  by_cases h3 : s.size % 256 = 0
  · have E : Hid (memC s = 0) := by
      show memC s = _
      unfold memC memOk
      have hh := s.size
      split <;> simp_all <;> omega
    go_enter Try.func34, Try.ntmps34
    go_wp2
    all_goals first | (go_ret; exact ⟨ret_int E.out.symm, rfl⟩) | (exfalso; simp_all; done) | (exfalso; simp_all; omega)
  · have E : Hid (memC s = 1) := by
      show memC s = _
      unfold memC memOk
      have hh := s.size
      split <;> simp_all <;> omega
    go_enter Try.func34, Try.ntmps34
    go_wp2
    all_goals first | (go_ret; exact ⟨ret_int E.out.symm, rfl⟩) | (exfalso; simp_all; done) | (exfalso; simp_all; omega)
theorem specMemFault_any (s : ByteArray) (w : World) (hs : s.size ≤ 1099511627776) :
    Calls Try.prog 15 #[.string s] w fun e w' => e = .returned (.int .i64 (memC s)) ∧ w' = w := by
  by_cases h1 : s.size = 0
  · have E : Hid (memC s = 1) := by
      show memC s = _
      unfold memC memOk
      have hh := s.size
      split <;> simp_all <;> omega
    go_enter Try.func15, Try.ntmps15
    go_wp2
    all_goals first | (go_ret; exact ⟨ret_int E.out.symm, rfl⟩) | (exfalso; simp_all; done) | (exfalso; simp_all; omega)
  by_cases h3 : s.size % 256 = 0
  · by_cases h2 : 65536 < s.size
    · have E : Hid (memC s = 1) := by
        show memC s = _
        unfold memC memOk
        have hh := s.size
        split <;> simp_all <;> omega
      go_enter Try.func15, Try.ntmps15
      go_wp2
      all_goals first | (go_ret; exact ⟨ret_int E.out.symm, rfl⟩) | (exfalso; simp_all; done) | (exfalso; simp_all; omega)
    · have E : Hid (memC s = 0) := by
        show memC s = _
        unfold memC memOk
        have hh := s.size
        split <;> simp_all <;> omega
      go_enter Try.func15, Try.ntmps15
      go_wp2
      all_goals first | (go_ret; exact ⟨ret_int E.out.symm, rfl⟩) | (exfalso; simp_all; done) | (exfalso; simp_all; omega)
  · have E : Hid (memC s = 1) := by
      show memC s = _
      unfold memC memOk
      have hh := s.size
      split <;> simp_all <;> omega
    go_enter Try.func15, Try.ntmps15
    go_wp2
    all_goals first | (go_ret; exact ⟨ret_int E.out.symm, rfl⟩) | (exfalso; simp_all; done) | (exfalso; simp_all; omega)

theorem wv_b (s : ByteArray) (k : Nat) : 0 ≤ wv s k ∧ wv s k ≤ 4294967295 := by
  have h0 := bt_b s k
  have h1 := bt_b s (k + 1)
  have h2 := bt_b s (k + 2)
  have h3 := bt_b s (k + 3)
  unfold wv
  omega
/-- Whether an entry's flags let an access. -/
def mayV (e acc : Int) (user : Bool) : Bool :=
  decide ((if acc = 2 then e / 4 % 2 else if acc = 3 then e / 8 % 2 else e / 2 % 2) = 1) && (if user then decide (e / 16 % 2 = 1) else (decide (acc ≠ 3) || decide (e / 16 % 2 = 0)))
/-- What a walk answers. -/
structure WV where
  fault : Int
  pa : Int
  entry : Int
  large : Bool
  reads : List Int
  mem : ByteArray
/-- The entry with the flags that an access puts. -/
def putA (e acc : Int) : Int := if acc = 2 then bits .or .i64 (bits .or .i64 e 32) 64 else bits .or .i64 e 32
/-- The page that an entry leads to. -/
def pgV (e va : Int) (large : Bool) : Int := if large then e / 256 + va / 256 % 32 else e / 256
/-- The entry that counts leads to a page for this access. -/
def goodV (e acc : Int) (user large : Bool) : Bool := decide (e % 2 = 1) && (!large || decide (e / 256 % 32 = 0)) && mayV e acc user
def finV (s : ByteArray) (reads : List Int) (k : Nat) (large : Bool) (va acc : Int) (user : Bool) : WV :=
  if goodV (wv s k) acc user large then
    if (pgV (wv s k) va large + 1) * 256 ≤ (s.size : Int) then ⟨0, pgV (wv s k) va large * 256 + va % 256, putA (wv s k) acc, large, reads, setv s k (putA (wv s k) acc)⟩
    else ⟨2, 0, 0, false, reads, s⟩
  else ⟨1, 0, 0, false, reads, s⟩
def at1 (root va : Int) : Nat := (root * 256 + 4 * (va / 8192)).toNat
def at2 (e va : Int) : Nat := (e / 256 * 256 + 4 * (va / 256 % 32)).toNat
def walkV (s : ByteArray) (root va acc : Int) (user : Bool) : WV :=
  if (root + 1) * 256 ≤ (s.size : Int) then
    if wv s (at1 root va) % 16 = 1 then
      if (wv s (at1 root va) / 256 + 1) * 256 ≤ (s.size : Int) then finV s [root, wv s (at1 root va) / 256] (at2 (wv s (at1 root va)) va) false va acc user
      else ⟨2, 0, 0, false, [root], s⟩
    else finV s [root] (at1 root va) true va acc user
  else ⟨2, 0, 0, false, [], s⟩
/-- What it may be asked. -/
def askOk (s : ByteArray) (root va acc : Int) : Bool := memOk s && decide (0 ≤ root ∧ root ≤ 255 ∧ 0 ≤ va ∧ va < 262144 ∧ 1 ≤ acc ∧ acc ≤ 3)

theorem Try.info5 : (Try.prog.info? 5).map (fun i => (i.zero, i.size, i.bytes)) = some (some (.int .u8 0), 1, 1) := by kernel_rfl

def cells8 (bs : List UInt8) : List Value := bs.map fun b => Value.int .u8 b.toNat
theorem nums8 (bs : List UInt8) : strOfNums (bs.map fun b => (b.toNat : Int)) = ⟨bs.toArray⟩ := by
  unfold strOfNums
  rw [List.map_map]
  have : ((fun n : Int => UInt8.ofNat n.toNat) ∘ fun b : UInt8 => (b.toNat : Int)) = id := by
    funext b; simp
  rw [this, List.map_id]

theorem conv_own (w : World) (base : Nat) (v : Value) (n : Nat) (bs : List UInt8) (h : w.ownsRow base 5 1 v n (cells8 bs)) :
    Sem.run Try.prog (convert 22 9 v) w = .ok (.string ⟨bs.toArray⟩) w := by
  obtain ⟨hl, h | ⟨g, cap, cur, rfl, hb, hg, hn, hc, hcs, ht⟩⟩ := h
  · obtain ⟨rfl, rfl⟩ := h
    have : bs = [] := by simpa [cells8] using hl
    subst this
    rw [run_convert_bytes_nil w 22 5 Try.underlying22 Try.underlying5 0 0 9 Try.underlying9]
    rfl
  · have hlen : bs.length = n := by simpa [cells8] using hl
    have hown : w.ownsRow base 5 1 (.slice (some ⟨g, 0, none⟩) n cap) n (cells8 bs) := ⟨hl, .inr ⟨g, cap, cur, rfl, hb, hg, hn, hc, hcs, ht⟩⟩
    rw [run_convert_bytes_arg w 22 5 Try.underlying22 Try.underlying5 g 0 n cap (bs.map fun b => (b.toNat : Int)) (by simpa using hlen) ?_ 9 Try.underlying9, nums8]
    intro i hi
    rw [Nat.zero_add, hown.cellAt i (by omega)]
    simp [cells8, List.getElem?_eq_getElem (show i < bs.length by omega)]

theorem cells8_app (a b : List UInt8) : cells8 (a ++ b) = cells8 a ++ cells8 b := by simp [cells8]
theorem own_cast {w : World} {base : Nat} {e : TypeId} {v : Value} {n m : Nat} {xs ys : List Value} (h : w.ownsRow base e 1 v n xs) (h1 : n = m) (h2 : xs = ys) : w.ownsRow base e 1 v m ys := by
  subst h1; subst h2; exact h

/-- The cells of a text's bytes. -/
def mcel (s : ByteArray) : Array Value := (cells8 s.data.toList).toArray
theorem bsize (s : ByteArray) : s.data.toList.length = s.size := Array.length_toList
theorem mcel_size (s : ByteArray) : (mcel s).size = s.size := by
  rw [← bsize]
  simp [mcel, cells8]
/-- A memory that lies in a block. -/
def MemAt (w : World) (b : Nat) (s : ByteArray) : Prop := w.heap[b]? = some (.cells (mcel s) 114 (0, 0))
theorem MemAt.lt {w : World} {b : Nat} {s : ByteArray} (h : MemAt w b s) : b < w.heap.size := (Array.getElem?_eq_some_iff.1 h).1
theorem MemAt.cell {w : World} {b : Nat} {s : ByteArray} (h : MemAt w b s) (k : Nat) (hk : k < s.size) : w.cell? ⟨b, k, none⟩ = some (.int .u8 (bt s k)) := by
  unfold MemAt at h
  have e : (mcel s)[k]? = some (.int .u8 (bt s k)) := by
    rw [← bt_eq s k hk]
    simp only [mcel, cells8, List.getElem?_toArray, List.getElem?_map]
    rw [List.getElem?_eq_getElem (by rw [bsize]; exact hk)]
    rfl
  simp [World.cell?, h, e]
theorem MemAt.fz {w : World} {b : Nat} {s : ByteArray} (h : MemAt w b s) (k : Nat) : w.frozen? ⟨b, k, none⟩ = false := by
  unfold MemAt at h
  simp [World.frozen?, h]
theorem MemAt.below {B b : Nat} {s : ByteArray} {w w' : World} (h : MemAt w b s) (hb : Below B w w') (hn : b < B) : MemAt w' b s := (hb.block b hn).trans h
/-- The value of such a memory of n frames. -/
def mv (b n : Nat) : Value := .slice (some ⟨b, 0, none⟩) n n

theorem memHolds_any (b n : Nat) (x : Int) (w : World) :
    Calls Try.prog 38 #[mv b n, .int .i64 x] w fun e w' => e = .returned (.bool (decide (0 ≤ x) && decide (x < n))) ∧ w' = w := by
  by_cases h : 0 ≤ x
  · unfold mv
    go_enter Try.func38, Try.ntmps38
    go_wp2
    go_ret
    exact ⟨ret_bool (by simp [h]), rfl⟩
  · unfold mv
    go_enter Try.func38, Try.ntmps38
    go_wp2
    go_ret
    exact ⟨ret_bool (by simp; omega), rfl⟩

theorem frLen : Try.prog.arrayLen 114 = 256 := by kernel_rfl
theorem frElem : Try.prog.elem 114 = 5 := by kernel_rfl
theorem frUnd : Try.prog.underlying 114 = some (.array (Try.prog.arrayLen 114) (Try.prog.elem 114)) := by kernel_rfl
theorem u8size (w : World) : (Go.sizeOf 5).run Try.prog w = .ok 1 w := by kernel_rfl
theorem sl_frame (b o r : Nat) (x : Int) (hx : x = r) (hr : r < 256) (w : World) : Sem.run Try.prog (Instr.sliceAt 114 (.pointer (some ⟨b, o, none⟩)) (some (.int .i64 x)) none none) w = .ok (.slice (some ⟨b, o + r, none⟩) (256 - r) (256 - r)) w := by
  subst hx
  have h := run_sliceAt_array_l w 114 ⟨b, o, none⟩ frUnd .i64 (r : Int) (by omega) (by rw [frLen]; omega)
  rw [h, frElem, u8size]
  simp only [Result.andThen_ok, slicedAt, frLen, Int.toNat_natCast]
  rw [if_neg (by omega)]
  simp [Addr.add]
theorem sl_frame0 (b o : Nat) (w : World) : Sem.run Try.prog (Instr.sliceAt 114 (.pointer (some ⟨b, o, none⟩)) none none none) w = .ok (.slice (some ⟨b, o, none⟩) 256 256) w := by
  have h := run_sliceAt_array_all w 114 ⟨b, o, none⟩ frUnd
  rw [h, frElem, u8size]
  simp only [Result.andThen_ok, slicedAt, frLen]
  rw [if_neg (by omega)]
  simp [Addr.add]

set_option maxRecDepth 100000 in
set_option maxHeartbeats 1000000 in
theorem memWord_any (b n : Nat) (s : ByteArray) (k : Nat) (w : World) (h : MemAt w b s) (hn : s.size = n * 256) (hs : s.size ≤ 65536) (hk : k + 4 ≤ s.size) (h4 : k % 4 = 0) :
    Calls Try.prog 48 #[mv b n, .int .i64 k] w fun e w' => e = .returned (.int .i64 (wv s k)) ∧ ∃ q, w' = w.drewN q := by
  unfold mv
  have hf : k / 256 < n := by omega
  have hf2 : (k : Int) / 256 < (n : Int) := by omega
  have hsl := fun w => sl_frame b (k / 256 * 256) (k % 256) ((k : Int) % 256) (by omega) (by omega) w
  have c0 := h.cell k (by omega)
  have c1 := h.cell (k + 1) (by omega)
  have c2 := h.cell (k + 2) (by omega)
  have c3 := h.cell (k + 3) (by omega)
  clear h
  have ek : k / 256 * 256 + k % 256 = k := by omega
  rw [ek] at hsl
  obtain ⟨L, hL⟩ : ∃ L, 256 - k % 256 = L := ⟨_, rfl⟩
  have hL4 : 4 ≤ L := by omega
  rw [hL] at hsl
  obtain ⟨a0, d0⟩ := bt_b s k
  obtain ⟨a1, d1⟩ := bt_b s (k + 1)
  obtain ⟨a2, d2⟩ := bt_b s (k + 2)
  obtain ⟨a3, d3⟩ := bt_b s (k + 3)
  have o1 := or_join 8 256 (by simp) (by omega) (bt s k) (bt s (k + 1)) a0 (by omega) a1 d1
  have o2 := or_join 16 65536 (by simp) (by omega) (bt s k + bt s (k + 1) * 256) (bt s (k + 2)) (by omega) (by omega) a2 d2
  have o3 := or_join 24 16777216 (by simp) (by omega) (bt s k + bt s (k + 1) * 256 + bt s (k + 2) * 65536) (bt s (k + 3)) (by omega) (by omega) a3 d3
  clear hL ek
  go_enter Try.func48, Try.ntmps48
  go_wp2
  go_quiet (fail)
  go_wp2
  go_ret
  exact ⟨ret_int (by rfl), nq, rfl⟩

theorem cells8_one (l : List UInt8) : ∀ v ∈ cells8 l, v.oneCell' = true := by
  intro v hv
  simp only [cells8, List.mem_map] at hv
  obtain ⟨b, _, rfl⟩ := hv
  rfl
theorem u8info : (Try.prog.info? 5).map (·.size) = some 1 := by kernel_rfl
/-- A string goes over a row's cells, as far as there is room. -/
theorem run_copy_str (w : World) (ty g o dLen dCap m : Nat) (s : ByteArray) (cur : Array Value) (t : TypeId)
    (hg : w.heap[g]? = some (.cells cur t (0, 0))) (hm : Nat.min s.size dLen = m) (hfit : o + m ≤ cur.size) :
    (Builtin.copy_ #[22, 9] ty #[.slice (some ⟨g, o, none⟩) dLen dCap, .string s]).run Try.prog w =
      .ok (goInt m) (w.setRow g (cur.toList.take o ++ (cells8 s.data.toList).take m ++ cur.toList.drop (o + m)).toArray) := by
  have hl : ((cells8 s.data.toList).take m).length = m := by
    rw [List.length_take]
    have : (cells8 s.data.toList).length = s.size := by
      rw [← bsize]
      simp [cells8]
    rw [this, ← hm]
    exact Nat.min_eq_left (Nat.min_le_left _ _)
  have hst := run_storeCells_at Try.prog g o t ((cells8 s.data.toList).take m) 0 cur w hg (by rw [hl]; simpa using hfit) (fun v hv => cells8_one _ v (List.mem_of_mem_take hv))
  rw [hl] at hst
  simp only [Nat.add_zero] at hst
  have htk : List.take m (List.map (fun b : UInt8 => Value.int IntKind.u8 (b.toNat : Int)) s.data.toList) = (cells8 s.data.toList).take m := rfl
  obtain ⟨i0, hi, hz0, hz1, hz2⟩ := info_parts Try.info5
  simp [Builtin.copy_, run_underlying Try.underlying22, Builtin.lenOf, Builtin.firstCells, sizeOf, typeInfo, hi, hm]
  rw [htk, hst]
  simp [Result.andThen]
theorem step_copy_str {ops : Array Oper} {o : Oper} {a : Act} {w : World} {K : Act → World → Prop} {Q : Exit → Act → World → Prop} {E : Prop}
    (hgd : o.guard = none) (d x : Operand) (hop : o.op = Op.call { callee := Callee.builtin Builtin.copy, args := #[d, x], argTypes := #[22, 9] })
    (g off dLen dCap m : Nat) (hd : a.eval d = .slice (some ⟨g, off, none⟩) dLen dCap) (s : ByteArray) (hx : a.eval x = .string s) (cur : Array Value) (t : TypeId)
    (hg : w.heap[g]? = some (.cells cur t (0, 0))) (hm : Nat.min s.size dLen = m) (hfit : off + m ≤ cur.size)
    (hK : K (a.put o.dst (goInt m)) (w.setRow g (cur.toList.take off ++ (cells8 s.data.toList).take m ++ cur.toList.drop (off + m)).toArray)) :
    if Region.wanted o (yielded ops a.tmps) = true then Oper.wp Try.prog o a w K Q else E := by
  have hw : Region.wanted o (yielded ops a.tmps) = true := by simp [Region.wanted, hgd]
  rw [if_pos hw]
  have hrun := run_copy_str w o.type g off dLen dCap m s cur t hg hm hfit
  unfold Oper.wp
  rw [List.append_assoc] at hK
  simp [execOp, hop, resolve, invoke, builtin, hd, hx, hrun, Result.andThen]
  exact hK
theorem MemAt.row {w : World} {b : Nat} {s s' : ByteArray} (h : MemAt w b s) {cs : Array Value} (hc : cs = mcel s') : MemAt (w.setRow b cs) b s' := by
  subst hc
  exact setRow_heap w b _ _ _ _ h
theorem mcel_set (s : ByteArray) (k : Nat) (n : Int) : ((mcel s).toList.take k ++ (cells8 (pw n).data.toList).take 4 ++ (mcel s).toList.drop (k + 4)).toArray = mcel (setv s k n) := by
  have hp : ((pw n).data.toList).length = 4 := by rw [bsize]; rfl
  have e4 : (cells8 (pw n).data.toList).take 4 = cells8 (pw n).data.toList := by
    apply List.take_of_length_le
    simp [cells8, hp]
  rw [e4]
  unfold mcel setv
  congr 1
  have e5 : (s.data.toList.drop (k + 4)).take (s.size - (k + 4)) = s.data.toList.drop (k + 4) := by
    apply List.take_of_length_le
    rw [List.length_drop, bsize]
    exact Nat.le_refl _
  have e6 : (s.extract 0 k ++ pw n ++ s.extract (k + 4) s.size).data.toList = s.data.toList.take k ++ (pw n).data.toList ++ s.data.toList.drop (k + 4) := by
    simp only [ByteArray.data_append, Array.toList_append, ByteArray.data_extract, Array.toList_extract, List.extract_eq_take_drop, e5]
    simp
  rw [e6]
  simp [cells8]

theorem pw4 (n : Int) : Nat.min (pw n).size 4 = 4 := by rfl
set_option maxRecDepth 100000 in
set_option maxHeartbeats 1000000 in
theorem memPut_any (b n : Nat) (s : ByteArray) (k : Nat) (x : Int) (w : World) (h : MemAt w b s) (hn : s.size = n * 256) (hs : s.size ≤ 65536) (hk : k + 4 ≤ s.size) (h4 : k % 4 = 0) :
    Calls Try.prog 90 #[mv b n, .int .i64 k, .int .i64 x] w fun e w' => e = .returned (.tuple #[]) ∧ MemAt w' b (setv s k x) ∧ w.grownBy w' (some b) := by
  unfold mv
  have hf : k / 256 < n := by omega
  have hf2 : (k : Int) / 256 < (n : Int) := by omega
  have q1 : IntKind.i64.wrap ((k : Int) / 256) = (k : Int) / 256 := by rw [IntKind.wrap_i64]; omega
  have q3 : ((k : Int) / 256).toNat = k / 256 := by omega
  have q4 : 0 ≤ (k : Int) / 256 := by omega
  have q2 : (k : Int).tmod 256 = (k : Int) % 256 := Int.tmod_eq_emod_of_nonneg (by omega)
  have hsl := fun w => sl_frame b (k / 256 * 256) (k % 256) ((k : Int).tmod 256) (by rw [q2]; omega) (by omega) w
  clear q2
  have ek : k / 256 * 256 + k % 256 = k := by omega
  rw [ek] at hsl
  obtain ⟨L, hL⟩ : ∃ L, 256 - k % 256 = L := ⟨_, rfl⟩
  have hL4 : 4 ≤ L := by omega
  rw [hL] at hsl
  have hmin : Hid (Nat.min (pw x).size L = 4) := by
    show Nat.min 4 L = 4
    exact Nat.min_eq_left hL4
  have hfit : Hid (k + 4 ≤ (mcel s).size) := by
    show _ ≤ _
    rw [mcel_size]
    exact hk
  have HM : Hid (MemAt w b s) := h
  clear hL ek h
  go_enter Try.func90, Try.ntmps90
  go_region_with (go_at_call 99; refine (implPutWord_any _ _).mono ?_; rintro e u2 ⟨rfl, hw2⟩; have HM2 : Hid (MemAt u2 b s) := (show MemAt w.drew b s from HM.out).below hw2 HM.out.lt; have hcp := run_copy_str u2 3 b k L L 4 (pw x) (mcel s) 114 HM2.out hmin.out hfit.out; rw [mcel_set] at hcp)
  refine bodyPost_end (v := .tuple #[]) (by simp [results, Try.results90, go_sem]) rfl ⟨rfl, HM2.out.row rfl, ?_⟩
  exact ⟨hw2.os, hw2.tape, hw2.output, by rw [size_setRow]; exact hw2.size, fun k hk hne => (setRow_other _ _ _ _ (fun e => hne (by rw [e]))).trans (hw2.block k hk)⟩

/-- So many zeros. -/
def zrs (m : Nat) : List Value := List.replicate m (.int .u8 0)
theorem frInfo : (Try.prog.info? 114).map (fun i => (i.size, i.bytes)) = some (256, 256) := by kernel_rfl
theorem frZero : ((Try.prog.info? 114).bind (·.zero)).map (·.cells) = some (Array.replicate 256 (.int .u8 0)) := by kernel_rfl
theorem made256 (m : Nat) : (madeCells (Array.replicate 256 (.int .u8 0)) m).toList = zrs m := by
  unfold madeCells zrs
  apply List.ext_getElem
  · simp
  · intro i h1 h2
    have : i % 256 < 256 := Nat.mod_lt _ (by omega)
    simp [this]
theorem mkMem (w : World) (n : Nat) (hn : n ≤ 256) : (Instr.makeSlice 71 (.int .i64 n) (.int .i64 n)).run Try.prog w = .ok (.slice (some ⟨w.heap.size, 0, none⟩) n n) (w.alloc (.cells (zrs (n * 256)).toArray 114)) := by
  have h1 := frInfo
  have h2 := frZero
  cases hq : Try.prog.info? 114 with
  | none => simp [hq] at h1
  | some i =>
    simp [hq] at h1 h2
    obtain ⟨z, hz, hc⟩ := h2
    have hr := run_makeSlice (P := Try.prog) w 71 114 i z Try.underlying71 hq hz .i64 .i64 n n (by omega) (by omega) (by rw [h1.1]; omega) (by rw [h1.2]; omega) (by omega)
    rw [hr, hc, h1.1]
    simp only [Int.toNat_natCast]
    rw [← made256]
end Go.Proofs.Ytoihmaefdchicaa
