import Derived.Test.YtmbdclbddbbdpaaPMem4
import Derived.Deep.MidRow
import Derived.Deep.WholeRow
namespace Go.Proofs.Ytmbdclbddbbdpaa
open Go.ChangeShapes Go.WideShapes Go.ChangeAt Go.RowKit

/-- A frame of a memory. -/
def fr (s : ByteArray) (i : Nat) : ByteArray := s.extract (i * 256) (i * 256 + 256)
/-- A memory with another frame. -/
def sfr (s : ByteArray) (j : Nat) (f : ByteArray) : ByteArray := s.extract 0 (j * 256) ++ f ++ s.extract (j * 256 + 256) s.size
theorem fr_list (s : ByteArray) (i : Nat) : (fr s i).data.toList = (s.data.toList.drop (i * 256)).take 256 := by
  unfold fr
  simp only [ByteArray.data_extract, Array.toList_extract, List.extract_eq_take_drop]
  rw [show i * 256 + 256 - i * 256 = 256 by omega]
theorem fr_size (s : ByteArray) (i : Nat) (h : i * 256 + 256 ≤ s.size) : (fr s i).size = 256 := by
  unfold fr
  rw [ByteArray.size_extract]
  omega
theorem sfr_list (s : ByteArray) (j : Nat) (f : ByteArray) : (sfr s j f).data.toList = s.data.toList.take (j * 256) ++ f.data.toList ++ s.data.toList.drop (j * 256 + 256) := by
  have e5 : (s.data.toList.drop (j * 256 + 256)).take (s.size - (j * 256 + 256)) = s.data.toList.drop (j * 256 + 256) := by
    apply List.take_of_length_le
    rw [List.length_drop, bsize]
    exact Nat.le_refl _
  unfold sfr
  simp only [ByteArray.data_append, Array.toList_append, ByteArray.data_extract, Array.toList_extract, List.extract_eq_take_drop, e5]
  simp
theorem sfr_size (s : ByteArray) (j : Nat) (f : ByteArray) (h : j * 256 + 256 ≤ s.size) (hf : f.size = 256) : (sfr s j f).size = s.size := by
  unfold sfr
  simp only [ByteArray.size_append, ByteArray.size_extract, hf]
  omega
theorem frSize : (Try.prog.info? 52).map (·.size) = some 256 := by kernel_rfl
theorem cells8_lenF (l : List UInt8) : (cells8 l).length = l.length := by simp [cells8]
theorem cells8_take (l : List UInt8) (n : Nat) : cells8 (l.take n) = (cells8 l).take n := by simp [cells8]
theorem cells8_drop (l : List UInt8) (n : Nat) : cells8 (l.drop n) = (cells8 l).drop n := by simp [cells8]
/-- The frame's value. -/
def frA (f : ByteArray) : Value := .agg (cells8 f.data.toList).toArray
theorem load_fr {w : World} {b : Nat} {s : ByteArray} (h : MemAt w b s) (i : Nat) (hi : i * 256 + 256 ≤ s.size) : (Instr.loadAt 52 (.pointer (some ⟨b, i * 256, none⟩))).run Try.prog w = .ok (frA (fr s i)) w := by
  refine run_loadAt_mid w b (i * 256) 52 (cells8 (fr s i).data.toList) _ ?_ frUnd rfl ?_
  · intro j v hj
    rw [fr_list, cells8_take, cells8_drop, List.getElem?_take] at hj
    split at hj
    · rw [List.getElem?_drop] at hj
      have e6 : (mcel s)[i * 256 + j]? = some v := by
        unfold mcel
        rw [List.getElem?_toArray]
        exact hj
      unfold MemAt at h
      simp [World.cell?, h, e6]
    · cases hj
  · rw [cells8_lenF, bsize, fr_size s i hi]
    exact frSize
theorem loadV_fr {w : World} {b : Nat} {s : ByteArray} (h : MemAt w b s) (i : Nat) (hi : i * 256 + 256 ≤ s.size) : (loadVar 52 ⟨b, i * 256, none⟩).run Try.prog w = .ok (frA (fr s i)) w := by
  have hl := load_fr h i hi
  simpa only [Instr.loadAt, Instr.sureAddr, Sem.run_bind, Sem.run_pure, Result.andThen_ok] using hl
theorem store_at (w : World) (b o : Nat) (cur : Array Value) (f : ByteArray) (hb : w.heap[b]? = some (.cells cur 52 (0, 0))) (hf : f.size = 256) (ho : o + 256 ≤ cur.size) :
    (Instr.storeAt 52 (.pointer (some ⟨b, o, none⟩)) (frA f)).run Try.prog w = .ok () (w.setRow b (cur.toList.take o ++ cells8 f.data.toList ++ cur.toList.drop (o + 256)).toArray) := by
  have hl : (cells8 f.data.toList).length = 256 := by rw [cells8_lenF, bsize, hf]
  have hst := run_storeCells_at Try.prog b o 52 (cells8 f.data.toList) 0 cur w hb (by rw [hl]; omega) (fun v hv => cells8_one _ v hv)
  rw [hl, Nat.add_zero] at hst
  have hi := frSize
  cases hq : Try.prog.info? 52 with
  | none => simp [hq] at hi
  | some i =>
    have hs : i.size = 256 := by simpa [hq] using hi
    simp only [frA, Instr.storeAt, Instr.sureAddr, Sem.run_bind, Sem.run_pure, Result.andThen_ok]
    simp [storeVar, sizeOf, typeInfo, hq, Value.cells, hs, hl, hst]
theorem storeV_at (w : World) (b o : Nat) (cur : Array Value) (f : ByteArray) (hb : w.heap[b]? = some (.cells cur 52 (0, 0))) (hf : f.size = 256) (ho : o + 256 ≤ cur.size) :
    (storeVar 52 ⟨b, o, none⟩ (frA f)).run Try.prog w = .ok () (w.setRow b (cur.toList.take o ++ cells8 f.data.toList ++ cur.toList.drop (o + 256)).toArray) := by
  have hl := store_at w b o cur f hb hf ho
  simpa only [Instr.storeAt, Instr.sureAddr, Sem.run_bind, Sem.run_pure, Result.andThen_ok] using hl
theorem wl_load {ops : Array Oper} {rest : List Oper} {op : Oper} {a : Act} {w : World} {Q : Exit → Act → World → Prop} (hgd : op.guard = none) (x : Operand) (ho : op.op = .load 52 x)
    (b i : Nat) (s : ByteArray) (hx : a.eval x = .pointer (some ⟨b, i * 256, none⟩)) (hM : MemAt w b s) (hi : i * 256 + 256 ≤ s.size)
    (h : wpList Try.prog ops Q rest (a.put op.dst (frA (fr s i))) w) : wpList Try.prog ops Q (op :: rest) a w :=
  wpList_plain hgd fun _ hK => by
    unfold Oper.wp execOp
    simp only [ho, hx, Instr.loadAt, Instr.sureAddr, Sem.run_bind, Sem.run_pure, Result.andThen_ok, loadV_fr hM i hi]
    exact hK _ _ h
theorem wl_store {ops : Array Oper} {rest : List Oper} {op : Oper} {a : Act} {w : World} {Q : Exit → Act → World → Prop} (hgd : op.guard = none) (x y : Operand) (ho : op.op = .store 52 x y)
    (b o : Nat) (cur : Array Value) (f : ByteArray) (hx : a.eval x = .pointer (some ⟨b, o, none⟩)) (hy : a.eval y = frA f) (hb : w.heap[b]? = some (.cells cur 52 (0, 0))) (hf : f.size = 256) (ho2 : o + 256 ≤ cur.size)
    (h : wpList Try.prog ops Q rest (a.put op.dst undef) (w.setRow b (cur.toList.take o ++ cells8 f.data.toList ++ cur.toList.drop (o + 256)).toArray)) : wpList Try.prog ops Q (op :: rest) a w :=
  wpList_plain hgd fun _ hK => by
    unfold Oper.wp execOp
    simp only [ho, hx, hy, Instr.storeAt, Instr.sureAddr, Sem.run_bind, Sem.run_pure, Result.andThen_ok, storeV_at w b o cur f hb hf ho2]
    exact hK _ _ h
theorem mcel_sfr (s : ByteArray) (j : Nat) (f : ByteArray) : ((mcel s).toList.take (j * 256) ++ cells8 f.data.toList ++ (mcel s).toList.drop (j * 256 + 256)).toArray = mcel (sfr s j f) := by
  unfold mcel
  rw [sfr_list, cells8_app, cells8_app, cells8_take, cells8_drop]
set_option maxRecDepth 100000 in
theorem l06Frame_any (s : ByteArray) (i : Nat) (w : World) (hi : i * 256 + 256 ≤ s.size) (hs : s.size ≤ 1048576) :
    Calls Try.prog 13 #[.string s, .int .i64 i] w fun e w' => e = .returned (.string (fr s i)) ∧ w' = w := by
  have e1 : IntKind.i64.wrap ((i : Int) * 256) = (i : Int) * 256 := by rw [IntKind.wrap_i64]; omega
  have e2 : IntKind.i64.wrap ((i : Int) + 1) = (i : Int) + 1 := by rw [IntKind.wrap_i64]; omega
  have e3 : IntKind.i64.wrap (((i : Int) + 1) * 256) = ((i : Int) + 1) * 256 := by rw [IntKind.wrap_i64]; omega
  have hsl := fun w => run_slice_string (P := Try.prog) (w := w) 9 s .i64 .i64 ((i : Int) * 256) (((i : Int) + 1) * 256) Try.underlying9 (by omega) (by omega) (by omega)
  rw [show ((i : Int) * 256).toNat = i * 256 by omega, show (((i : Int) + 1) * 256).toNat = i * 256 + 256 by omega] at hsl
  have E : Hid (s.extract (i * 256) (i * 256 + 256) = fr s i) := rfl
  go_enter Try.func13, Try.ntmps13
  go_wp2
  go_ret
  exact ⟨rfl, rfl⟩
end Go.Proofs.Ytmbdclbddbbdpaa
